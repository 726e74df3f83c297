package atom

import (
	"math"
	"math/rand"
	"strconv"
	"strings"

	"godown/api"
)

// pool is what requests are drawn from: its archives are noted in known, its paths are those that may be there.
type pool struct {
	draw  *rand.Rand
	known map[string]content
	paths []string
	names int // how many right ones there are
}

func (p *pool) chance(one, of int) bool { return p.draw.Intn(of) < one }

func (p *pool) note(c content) []byte {
	p.known[string(c.archive)] = c
	return append([]byte(nil), c.archive...)
}

func (p *pool) name() string {
	if p.chance(1, 25) {
		return noNames[p.draw.Intn(len(noNames))]
	}
	return "n" + strconv.Itoa(p.draw.Intn(p.names))
}

// path answers one that may be there, or, now and then, something else.
func (p *pool) path() string {
	if len(p.paths) == 0 || p.chance(1, 12) {
		return append(noPaths(), zeros+"-none")[p.draw.Intn(len(noPaths())+1)]
	}
	return p.paths[p.draw.Intn(len(p.paths))]
}

// data names some paths, by all of them or by their letters.
func (p *pool) data() string {
	s := strconv.Itoa(p.draw.Intn(3))
	for p.chance(1, 2) && len(s) < 900 {
		path := p.path()
		if p.chance(1, 2) {
			path = path[:min(len(path), 32)]
		}
		s += path[:min(len(path), 80)]
	}
	return s
}

func (p *pool) stamp() float64 {
	l := []float64{0, math.Copysign(0, -1), 1, -1, 1.5, math.Inf(1), math.Inf(-1), math.NaN(), math.Float64frombits(0xfff0000000000001), math.MaxFloat64, 5e-324}
	return l[p.draw.Intn(len(l))]
}

func (p *pool) archive() []byte {
	switch p.draw.Intn(30) {
	case 0:
		return p.note(bad(p.data()))
	case 1:
		l := noArchives()
		return p.note(l[p.draw.Intn(len(l))])
	case 2, 3, 4:
		return p.note(of(link("to " + p.data())))
	case 5:
		return p.note(of(dir("")))
	case 6, 7, 8, 9, 10:
		inner := dir("g h", file(p.data(), p.stamp()), link(p.data()))
		return p.note(of(dir("a b c", file("", p.stamp()), inner, file(p.data(), p.stamp()))))
	}
	return p.note(of(file(p.data(), 0)))
}

func (p *pool) refs() []string {
	var l []string
	for p.chance(1, 2) {
		l = append(l, p.path())
	}
	return l
}

// request answers one of a kind, in which the fields of other kinds stand, too.
func (p *pool) request(kind byte) api.Request {
	r := api.Request{Kind: kind, Name: p.name(), Path: p.path(), Archive: p.archive(), Refs: p.refs()}
	if kind == api.Add && p.chance(2, 3) {
		for _, path := range p.paths {
			if strings.Contains(string(r.Archive), path[:min(32, len(path))]) {
				r.Refs = append(r.Refs, path)
			}
		}
	}
	for p.chance(2, 3) && len(r.Outs) < 6 {
		out := api.Out{Name: p.name(), Archive: p.archive(), Refs: p.refs()}
		for p.chance(1, 2) {
			out.Needs = append(out.Needs, p.draw.Intn(len(r.Outs)+2)-p.draw.Intn(2))
		}
		r.Outs = append(r.Outs, out)
	}
	return r
}
