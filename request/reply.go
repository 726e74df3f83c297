package request

import (
	"bytes"
	"math"
	"slices"

	"godown/api"
	"godown/real"
	"godown/wire"
)

// EncodeReply lays the Stamp's Bits, so that Stamps that are the Same have the same bytes.
func EncodeReply(r api.Reply) []byte {
	w := new(wire.Writer).Byte(byte(r.E)).Byte(flag(r.Is)).Num(r.N).Wide(real.Bits(r.Stamp))
	return w.Text(string(r.Sum)).Texts(r.Paths).Bytes()
}

func flag(is bool) byte {
	if is {
		return 1
	}
	return 0
}

// DecodeReply takes only what EncodeReply lays: each reply has one form.
func DecodeReply(p []byte) (api.Reply, api.Errno) {
	in := wire.NewReader(p)
	r := api.Reply{E: api.Errno(in.Byte())}
	is := in.Byte()
	r.Is = is == 1
	r.N = in.Num()
	stamp, wrong := real.Of(in.Wide())
	r.Stamp = stamp
	r.Sum = []byte(in.Text())
	r.Paths = in.Texts(math.MaxUint8) // as many as a Byte can tell
	if is > 1 || wrong != api.OK || in.End() != api.OK {
		return api.Reply{}, api.ErrForm
	}
	return r, api.OK
}

// Same holds the Stamps against one another by layer 1, since == holds no NaN equal to itself.
func Same(a, b api.Reply) bool {
	return a.E == b.E && a.Is == b.Is && a.N == b.N && real.Same(a.Stamp, b.Stamp) &&
		bytes.Equal(a.Sum, b.Sum) && slices.Equal(a.Paths, b.Paths)
}
