/- The contracts of pack.Write and the reference's Write. -/
import Derived.Test.YtggmogjgaoobjaaDoorXCT12
import Derived.Test.YtggmogjgaoobjaaDoorXCT2
import Derived.Test.YtggmogjgaoobjaaDoorXCT9
import Derived.Test.YtggmogjgaoobjaaDoorXCT10
import Derived.Test.YtggmogjgaoobjaaDoorXCT8
namespace Go.Proofs.YtggmogjgaoobjaaDoor
open Go.RowKit TreeMath RealMath WireMath PackMath

/-- what Write answers: bytes, and an error -/
def outBT (t : T) : List By := if rightB t then arch t else []
def errN (t : T) : Int := if rightB t then 0 else 2
/-- a block of bytes -/
def Ty5 (w : World) (b : Nat) : Prop := ∃ cs, w.heap[b]? = some (.cells cs 5 (0, 0))
set_option maxRecDepth 100000 in
theorem Ty5.below {w w' : World} {b : Nat} (h : Ty5 w b) (hb : Below w.heap.size w w') : Ty5 w' b := by
  obtain ⟨cs, h⟩ := h
  exact ⟨cs, by rw [hb.block b (Array.getElem?_eq_some_iff.1 h).1]; exact h⟩
set_option maxRecDepth 100000 in
theorem own_ty5 {w : World} {base n : Nat} {A : Option Addr} {l c : Nat} {xs : List Value} (h : w.ownsRow base 5 1 (.slice A l c) n xs) : ∀ a, A = some a → Ty5 w a.block := by
  intro a ha
  rcases h.2 with ⟨h1, _⟩ | ⟨g, cap, cur, hv, _, hc, _⟩
  · subst ha; injection h1 with h2; cases h2
  · subst ha; injection hv with h2; cases h2; exact ⟨cur, hc⟩
structure WritePost (w : World) (t : T) (e : Ending) (w' : World) : Prop where
  ex : ∃ A c, e = .returned (.tuple #[.slice A (outBT t).length c, .int .i64 (errN t)]) ∧ SrcIs w' A (outBT t) ∧ (A = none → c = 0) ∧ (∀ a, A = some a → w.heap.size ≤ a.block) ∧ (outBT t).length ≤ c ∧ (∀ a, A = some a → Ty5 w' a.block)
  below : Below w.heap.size w w'
set_option maxRecDepth 100000 in
theorem right_form {t : T} (h : rightB t = true) : formT t ∧ count t ≤ 64 := by
  unfold rightB at h
  simp only [Bool.and_eq_true, decide_eq_true_eq, List.all_eq_true] at h
  exact ⟨h.2, h.1.1⟩
set_option maxRecDepth 100000 in
theorem arch_le {t : T} (h : rightB t = true) : (arch t).length ≤ 80000 := by
  obtain ⟨h1, h2⟩ := right_form h
  have := layB_le t h1
  unfold arch
  rw [List.length_append, textB_length]
  show 2 + 7 + _ ≤ _
  omega
set_option maxHeartbeats 2000000 in
set_option maxRecDepth 100000 in
theorem rwrite_any (x : Hd) (ks : List T) (top : Nat) (w : World) (htop : top ≤ w.heap.size) (hok : Ok w top (.mk x ks)) (hn : count (.mk x ks) ≤ 90000) (hf : Few (.mk x ks)) :
    Calls Tryd.prog 34 #[nv x ks.length] w (WritePost w (.mk x ks)) := by
  have HOK := Lib.hid hok
  clear hok
  go_enter Tryd.func34, Tryd.ntmps34
  go_wp2_with fail
  have hbox := Blk.new w 80 #[vb x.kind, .slice x.na x.names.length x.nc, .slice x.ka ks.length x.kc, .slice x.da x.data.length x.dc, .bool x.run, .float .f64 x.stamp, vs x.target]
  have hB0 : Below w.heap.size w (w.alloc (.cells #[vb x.kind, .slice x.na x.names.length x.nc, .slice x.ka ks.length x.kc, .slice x.da x.data.length x.dc, .bool x.run, .float .f64 x.stamp, vs x.target] 80)) := (Below.refl _ _).alloc (Nat.le_refl _) _
  have hs0 : (w.alloc (.cells #[vb x.kind, .slice x.na x.names.length x.nc, .slice x.ka ks.length x.kc, .slice x.da x.data.length x.dc, .bool x.run, .float .f64 x.stamp, vs x.target] 80)).heap.size = w.heap.size + 1 := by simp
  generalize w.alloc (.cells #[vb x.kind, .slice x.na x.names.length x.nc, .slice x.ka ks.length x.kc, .slice x.da x.data.length x.dc, .bool x.run, .float .f64 x.stamp, vs x.target] 80) = W1 at *
  have HB0 := Lib.hid hB0; have HBOX := Lib.hid hbox; have HS0 := Lib.hid hs0
  clear hB0 hbox hs0
  refine (rright_any x ks top W1 (Nat.le_trans htop HB0.out.size) (HOK.out.keep (HB0.out.mono htop)) hn hf).mono ?_
  rintro e w1 ⟨rfl, hb1⟩
  have HBX := Lib.hid (HBOX.out.below hb1 HBOX.out.lt)
  have HB1 := Lib.hid (HB0.out.trans (hb1.mono HB0.out.size))
  clear hb1
  have c0 := HBX.out.cell 0; have c1 := HBX.out.cell 1; have c2 := HBX.out.cell 2; have c3 := HBX.out.cell 3; have c4 := HBX.out.cell 4; have c5 := HBX.out.cell 5; have c6 := HBX.out.cell 6
  simp only [List.getElem?_cons_zero, List.getElem?_cons_succ] at c0 c1 c2 c3 c4 c5 c6
  cases hr : rightB (.mk x ks) with
  | false =>
    have HE : Hid (outBT (.mk x ks) = [] ∧ errN (.mk x ks) = 2) := by refine (?_ : _ ∧ _); unfold outBT errN; rw [hr]; exact ⟨rfl, rfl⟩
    go_wp2_with fail
    go_ret2
    refine ⟨⟨none, 0, ?_, ?_, fun _ => rfl, (fun a ha => by cases ha), ?_, (fun a ha => by cases ha)⟩, HB1.out⟩
    · rw [HE.out.1, HE.out.2]; rfl
    · rw [HE.out.1]; intro h; exact absurd h (by simp)
    · rw [HE.out.1]; exact Nat.le_refl 0
  | true =>
    have HE : Hid (outBT (.mk x ks) = arch (.mk x ks) ∧ errN (.mk x ks) = 0) := by refine (?_ : _ ∧ _); unfold outBT errN; rw [hr]; exact ⟨rfl, rfl⟩
    have HF := Lib.hid (right_form hr); have HLE := Lib.hid (arch_le hr)
    clear c0 c1 c2 c3 c4 c5 c6
    have hsz : top ≤ w1.heap.size := Nat.le_trans htop HB1.out.size
    have HTX : Hid (∀ W, Calls Tryd.prog 22 #[.string ⟨#[103, 111, 100, 111, 119, 110, 49]⟩] W fun e w' => ∃ v, e = .returned v ∧ RowRel W 5 ((textB magic).map vb) v w') := fun W => rtextb_any magic (by decide) W
    have HLAY : Hid (∀ W, Below w1.heap.size w1 W → Calls Tryd.prog 79 #[nv x ks.length] W fun e w' => ∃ v, e = .returned v ∧ RowRel W 5 ((layB (.mk x ks)).map vb) v w') := fun W hW => rlay_of top (.mk x ks) W (Nat.le_trans hsz hW.size) (HOK.out.keep ((HB1.out.mono htop).trans (hW.mono hsz))) HF.out.1 HF.out.2
    have HCELL : Hid (∀ W, Below w1.heap.size w1 W → W.cell? ⟨w.heap.size, 0, none⟩ = some (vb x.kind) ∧ W.cell? ⟨w.heap.size, 1, none⟩ = some (.slice x.na x.names.length x.nc) ∧ W.cell? ⟨w.heap.size, 2, none⟩ = some (.slice x.ka ks.length x.kc) ∧ W.cell? ⟨w.heap.size, 3, none⟩ = some (.slice x.da x.data.length x.dc) ∧ W.cell? ⟨w.heap.size, 4, none⟩ = some (.bool x.run) ∧ W.cell? ⟨w.heap.size, 5, none⟩ = some (.float .f64 x.stamp) ∧ W.cell? ⟨w.heap.size, 6, none⟩ = some (vs x.target)) := fun W hW => by
      have hblk := HBX.out.below hW HBX.out.lt
      exact ⟨hblk.cell 0, hblk.cell 1, hblk.cell 2, hblk.cell 3, hblk.cell 4, hblk.cell 5, hblk.cell 6⟩
    have hjl : (textB magic).length + (layB (.mk x ks)).length ≤ 1000000 := by have := HLE.out; unfold arch at this; rw [List.length_append] at this; omega
    have HJL := Lib.hid hjl
    clear hjl
    go_upto_region 3 with fail
    have HB2 : Hid (Below w1.heap.size w1 w1.drew) := (Below.refl _ _).drew
    have k0 := HCELL.out _ HB2.out
    go_region_held3 (fun W => W.cell? ⟨w.heap.size, 0, none⟩ = some (vb x.kind) ∧ W.cell? ⟨w.heap.size, 1, none⟩ = some (.slice x.na x.names.length x.nc) ∧ W.cell? ⟨w.heap.size, 2, none⟩ = some (.slice x.ka ks.length x.kc) ∧ W.cell? ⟨w.heap.size, 3, none⟩ = some (.slice x.da x.data.length x.dc) ∧ W.cell? ⟨w.heap.size, 4, none⟩ = some (.bool x.run) ∧ W.cell? ⟨w.heap.size, 5, none⟩ = some (.float .f64 x.stamp) ∧ W.cell? ⟨w.heap.size, 6, none⟩ = some (vs x.target))
      (first | with_reducible exact k0 | with_reducible exact k1 | with_reducible exact k2 | with_reducible exact k3)
      (first
        | (go_at_call 22
           refine (HTX.out w1.drew).mono ?_
           rintro e w3 ⟨u, rfl, hu⟩
           obtain ⟨A, c, rfl, hA, hN, -, -⟩ := hu.src
           have HB3 := Lib.hid (HB2.out.trans hu.below)
           have k1 := HCELL.out _ HB3.out
           have HA := Lib.hid hA
           have HN := Lib.hid hN
           clear hu hA hN)
        | (go_at_call 79
           refine (HLAY.out w3 HB3.out).mono ?_
           rintro e w4 ⟨u, rfl, hu⟩
           obtain ⟨A2, d, rfl, hA2, hN2, -, -⟩ := hu.src
           have HB4 := Lib.hid (HB3.out.trans (hu.below.mono HB3.out.size))
           have k2 := HCELL.out _ HB4.out
           have HAA := Lib.hid (HA.out.below hu.below)
           have HA2 := Lib.hid hA2
           have HN2 := Lib.hid hN2
           clear hu hA2 hN2)
        | (go_at_call 21
           refine (join_any A A2 c d (textB magic) (layB (.mk x ks)) HJL.out HN.out HN2.out w4 HAA.out HA2.out).mono ?_
           rintro e w5 ⟨v5, rfl, hr5⟩
           obtain ⟨A3, c3, rfl, hA, hN, hcc, hlo⟩ := hr5.src
           have HTY := Lib.hid (own_ty5 hr5.own)
           have HCC := Lib.hid hcc
           have HB5 := Lib.hid (HB4.out.trans (hr5.below.mono HB4.out.size))
           have k3 := HCELL.out _ HB5.out
           have HA3 := Lib.hid hA
           have HN3 := Lib.hid hN
           have HLO := Lib.hid hlo
           clear hA hN hlo hcc hr5)
        | fail)
    all_goals
      clear k0 k1 k2 k3
      go_wp2_with fail
      go_ret2
      refine ⟨⟨A3, c3, ?_, ?_, HN3.out, fun a ha => Nat.le_trans (Nat.le_trans HB1.out.size HB4.out.size) (HLO.out a ha).1, ?_, HTY.out⟩, HB1.out.trans (HB5.out.mono HB1.out.size)⟩
      · rw [HE.out.1, HE.out.2, show (arch (.mk x ks)).length = (textB magic).length + (layB (.mk x ks)).length from by unfold arch; rw [List.length_append]]; rfl
      · rw [HE.out.1]; exact HA3.out
      · rw [HE.out.1]; exact HCC.out
end Go.Proofs.YtggmogjgaoobjaaDoor

/- Nodes of each kind, as they are laid. -/
namespace Go.Proofs.YtggmogjgaoobjaaDoor
open Go.RowKit TreeMath

def fileHd (da : Option Addr) (dc : Nat) (data : List By) (run : Bool) (stamp : Nat) : Hd := ⟨2, none, 0, [], none, 0, da, dc, data, run, stamp, []⟩
def linkHd (target : List By) : Hd := ⟨3, none, 0, [], none, 0, none, 0, [], false, 0, target⟩
def dirHd (na : Option Addr) (nc : Nat) (names : List (List By)) (ka : Option Addr) (kc : Nat) : Hd := ⟨1, na, nc, names, ka, kc, none, 0, [], false, 0, []⟩
set_option maxRecDepth 100000 in
theorem ok_file {w : World} {top : Nat} (da : Option Addr) (dc : Nat) (data : List By) (run : Bool) (stamp : Nat) (h1 : SrcIs w da data) (h2 : 0 < data.length → ∀ a, da = some a → a.block < top)
    (h3 : da = none → dc = 0) (h4 : data.length ≤ dc) (h5 : data.length ≤ maxLen) (h6 : stamp < 18446744073709551616) : Ok w top (.mk (fileHd da dc data run stamp) []) :=
  .mk _ _ ⟨fun h => absurd h (by simp [fileHd]), fun h => absurd h (by simp [fileHd]), fun _ => rfl, by simp [fileHd], by simp [fileHd], by simp [fileHd], h1, h2, h3, h4, h5, h6, by simp [fileHd], fun _ => rfl⟩ (by simp) (by simp) (fun h => absurd h (by simp)) (fun k hk => by cases hk)
set_option maxRecDepth 100000 in
theorem ok_link {w : World} {top : Nat} (target : List By) (h : target.length ≤ maxLen) : Ok w top (.mk (linkHd target) []) :=
  .mk _ _ ⟨fun h => absurd h (by simp [linkHd]), fun h => absurd h (by simp [linkHd]), fun _ => rfl, by simp [linkHd], by simp [linkHd], by simp [linkHd], fun h => absurd h (by simp [linkHd]), fun h => absurd h (by simp [linkHd]), fun _ => rfl, by simp [linkHd], by simp [linkHd], by simp [linkHd], h, fun _ => rfl⟩ (by simp) (by simp) (fun h => absurd h (by simp)) (fun k hk => by cases hk)
set_option maxRecDepth 100000 in
theorem ok_dir {w : World} {top : Nat} (na : Option Addr) (nc : Nat) (names : List (List By)) (ka : Option Addr) (kc : Nat) (ks : List T) (h1 : StrsIs w na names) (h2 : 0 < names.length → ∀ a, na = some a → a.block < top)
    (h3 : na = none → nc = 0) (h4 : names.length ≤ nc) (h5 : names.length ≤ maxLen) (h6 : ∀ t ∈ names, t.length ≤ maxLen) (h7 : ka = none → kc = 0) (h8 : ks.length ≤ maxLen) (h9 : ks.length ≤ kc) (h10 : KidsAt w top ka ks) (h11 : ∀ k ∈ ks, Ok w top k) :
    Ok w top (.mk (dirHd na nc names ka kc) ks) :=
  .mk _ _ ⟨h1, h2, h3, h4, h5, h6, fun h => absurd h (by simp [dirHd]), fun h => absurd h (by simp [dirHd]), fun _ => rfl, by simp [dirHd], by simp [dirHd], by simp [dirHd], by simp [dirHd], h7⟩ h8 h9 h10 h11
set_option maxRecDepth 100000 in
theorem Blk.strs {w : World} {g : Nat} {t : TypeId} {ls : List (List By)} {tl : List Value} (h : Blk w g t (ls.map vs ++ tl)) : StrsIs w (some ⟨g, 0, none⟩) ls := fun _ => ⟨g, 0, rfl, fun k hk => by
  rw [Nat.zero_add, h.cell, List.getElem?_append_left (by simpa using hk)]; simp [hk]⟩
set_option maxRecDepth 100000 in
theorem Blk.src {w : World} {g : Nat} {l : List By} {tl : List Value} (h : Blk w g 5 (l.map vb ++ tl)) : SrcIs w (some ⟨g, 0, none⟩) l := fun _ => ⟨g, 0, rfl, Blk.bytes h⟩
set_option maxRecDepth 100000 in
/-- one node in a row of its own -/
theorem Blk.kid {w : World} {g top : Nat} {t : TypeId} (k : T) (h : Blk w g t (cellsT k)) (hg : g < top) : KidsAt w top (some ⟨g, 0, none⟩) [k] := fun _ => ⟨g, 0, rfl, hg, fun i hi j v hv => by
  have : i = 0 := by simpa using hi
  subst this
  rw [show 0 + 0 * 7 + j = j by omega, h.cell]; exact hv⟩
set_option maxRecDepth 100000 in
theorem fits_file (da : Option Addr) (dc : Nat) (data : List By) (run : Bool) (stamp : Nat) : fitsB (.mk (fileHd da dc data run stamp) []) = decide (data.length ≤ 1024) := by
  rw [fitsB]; simp [fileHd]; rfl
set_option maxRecDepth 100000 in
theorem fits_link (t : List By) : fitsB (.mk (linkHd t) []) = (decide (1 ≤ t.length) && decide (t.length ≤ 1024)) := by
  have h0 : RealMath.canonB 0 = 0 := by decide
  rw [fitsB]; simp [linkHd, noFile, h0]; rfl
set_option maxRecDepth 100000 in
theorem fits_dir (na : Option Addr) (nc : Nat) (names : List (List By)) (ka : Option Addr) (kc : Nat) (ks : List T) : fitsB (.mk (dirHd na nc names ka kc) ks) = (decide (names.length = ks.length) && namesOk names) := by
  have h0 : RealMath.canonB 0 = 0 := by decide
  rw [fitsB]; simp [dirHd, noFile, h0]; rfl
end Go.Proofs.YtggmogjgaoobjaaDoor

/- Trees that keep out of some blocks; rows of texts and nodes that a call makes. -/
namespace Go.Proofs.YtggmogjgaoobjaaDoor
open Go.RowKit TreeMath

/-- all of a tree lies in blocks of S -/
inductive InS (S : Nat → Prop) : T → Prop
  | mk (x : Hd) (ks : List T) (hn : 0 < x.names.length → ∀ a, x.na = some a → S a.block) (hd : 0 < x.data.length → ∀ a, x.da = some a → S a.block) (hk : 0 < ks.length → ∀ a, x.ka = some a → S a.block) (hks : ∀ k ∈ ks, InS S k) : InS S (.mk x ks)
set_option maxRecDepth 100000 in
theorem InS.mono {S S' : Nat → Prop} {t : T} (h : InS S t) (hs : ∀ c, S c → S' c) : InS S' t := by
  induction h with
  | mk x ks hn hd hk hks ih => exact .mk x ks (fun h a e => hs _ (hn h a e)) (fun h a e => hs _ (hd h a e)) (fun h a e => hs _ (hk h a e)) ih
set_option maxRecDepth 100000 in
theorem Ok.inS {w : World} {top : Nat} {t : T} (h : Ok w top t) : InS (· < top) t := by
  induction h with
  | mk x ks hx hl hc hk hks ih => exact .mk x ks hx.nlt hx.dlt (fun h0 a e => by obtain ⟨b, o, e', hb, _⟩ := hk h0; rw [e] at e'; cases e'; exact hb) ih
set_option maxRecDepth 100000 in
theorem InS.and {S S' : Nat → Prop} {t : T} (h : InS S t) (h' : InS S' t) : InS (fun c => S c ∧ S' c) t := by
  induction h with
  | mk x ks hn hd hk hks ih =>
    cases h' with
    | mk _ _ hn' hd' hk' hks' => exact .mk x ks (fun h a e => ⟨hn h a e, hn' h a e⟩) (fun h a e => ⟨hd h a e, hd' h a e⟩) (fun h a e => ⟨hk h a e, hk' h a e⟩) (fun k hk => ih k hk (hks' k hk))
set_option maxRecDepth 100000 in
theorem Ok.turn {w w' : World} {top top' : Nat} {t : T} {S : Nat → Prop} (h : Ok w top t) (hi : InS S t) (hb : ∀ c, S c → c < top → w'.heap[c]? = w.heap[c]?) (ht : ∀ c, S c → c < top → c < top') : Ok w' top' t := by
  induction h with
  | mk x ks hx hl hc hk hks ih =>
    cases hi with
    | mk _ _ hn hd hkk hik =>
      refine .mk x ks ⟨fun h0 => ?_, fun h0 a e => ht _ (hn h0 a e) (hx.nlt h0 a e), hx.nnil, hx.ncap, hx.nlen, hx.neach, fun h0 => ?_, fun h0 a e => ht _ (hd h0 a e) (hx.dlt h0 a e), hx.dnil, hx.dcap, hx.dlen, hx.stamp, hx.tlen, hx.knil⟩ hl hc (fun h0 => ?_) (fun k hk' => ih k hk' (hik k hk'))
      · obtain ⟨b, o, e, hc'⟩ := hx.nsrc h0
        exact ⟨b, o, e, fun k hk' => by rw [World.cell?_of_block (w := w) (a := ⟨b, o + k, none⟩) (hb b (hn h0 _ e) (hx.nlt h0 _ e))]; exact hc' k hk'⟩
      · obtain ⟨b, o, e, hc'⟩ := hx.dsrc h0
        exact ⟨b, o, e, fun k hk' => by rw [World.cell?_of_block (w := w) (a := ⟨b, o + k, none⟩) (hb b (hd h0 _ e) (hx.dlt h0 _ e))]; exact hc' k hk'⟩
      · obtain ⟨b, o, e, hlt, hc'⟩ := hk h0
        exact ⟨b, o, e, ht _ (hkk h0 _ e) hlt, fun i hi' => (hc' i hi').same (hb b (hkk h0 _ e) hlt)⟩
set_option maxRecDepth 100000 in
theorem inS_file (S : Nat → Prop) (da : Option Addr) (dc : Nat) (data : List By) (run : Bool) (stamp : Nat) (h : 0 < data.length → ∀ a, da = some a → S a.block) : InS S (.mk (fileHd da dc data run stamp) []) :=
  .mk _ _ (fun h => absurd h (by simp [fileHd])) h (fun h => absurd h (by simp)) (fun k hk => by cases hk)
set_option maxRecDepth 100000 in
theorem inS_link (S : Nat → Prop) (t : List By) : InS S (.mk (linkHd t) []) := .mk _ _ (fun h => absurd h (by simp [linkHd])) (fun h => absurd h (by simp [linkHd])) (fun h => absurd h (by simp)) (fun k hk => by cases hk)
set_option maxRecDepth 100000 in
theorem inS_dir (S : Nat → Prop) (na : Option Addr) (nc : Nat) (names : List (List By)) (ka : Option Addr) (kc : Nat) (ks : List T) (h1 : 0 < names.length → ∀ a, na = some a → S a.block) (h2 : 0 < ks.length → ∀ a, ka = some a → S a.block) (h3 : ∀ k ∈ ks, InS S k) :
    InS S (.mk (dirHd na nc names ka kc) ks) := .mk _ _ h1 (fun h => absurd h (by simp [dirHd])) h2 h3
/-- a row of texts of the call's own -/
def Strs (w : World) (base : Nat) (v : Value) (ls : List (List By)) : Prop := w.ownsRow base 9 1 v ls.length (ls.map vs)
set_option maxRecDepth 100000 in
theorem Strs.src {w : World} {base : Nat} {v : Value} {ls : List (List By)} (h : Strs w base v ls) :
    ∃ A c, v = .slice A ls.length c ∧ StrsIs w A ls ∧ (A = none → c = 0) ∧ ls.length ≤ c ∧ ∀ a, A = some a → base ≤ a.block ∧ a.block < w.heap.size := by
  have hlt := h.lt
  rcases h.2 with ⟨hv, h0⟩ | ⟨g, cap, cur, hv, hg, hc, hn, _, hs, ht⟩
  · have : ls = [] := List.eq_nil_of_length_eq_zero h0
    subst this
    exact ⟨none, 0, hv, fun h => absurd h (by simp), fun _ => rfl, by simp, fun a ha => by cases ha⟩
  · subst hv
    rw [Nat.mul_one] at ht
    have hb : Blk w g 9 (ls.map vs ++ cur.toList.drop ls.length) := by rw [← ht, List.take_append_drop]; exact hc
    exact ⟨some ⟨g, 0, none⟩, cap, rfl, Blk.strs hb, (fun h => by cases h), hn, fun a ha => by cases ha; exact hlt g rfl⟩
set_option maxRecDepth 100000 in
theorem Nodes.src {w : World} {base : Nat} {v : Value} {ts : List T} (h : Nodes w base v ts) :
    ∃ A c, v = .slice A ts.length c ∧ KidsAt w w.heap.size A ts ∧ (A = none → c = 0) ∧ ts.length ≤ c ∧ ∀ a, A = some a → base ≤ a.block ∧ a.block < w.heap.size := by
  by_cases h0 : 0 < ts.length
  · obtain ⟨g, c, hv, hb, hl, hc, hcl, -⟩ := h.at h0
    exact ⟨some ⟨g, 0, none⟩, c, hv, fun _ => ⟨g, 0, rfl, hl, fun i hi => by rw [Nat.zero_add]; exact hcl i hi⟩, (fun h => by cases h), hc, fun a ha => by cases ha; exact ⟨hb, hl⟩⟩
  · have hlt := h.lt
    have e : ts = [] := List.eq_nil_of_length_eq_zero (by omega)
    subst e
    rcases h.2 with ⟨hv, _⟩ | ⟨g, cap, cur, hv, hg, _, _, _, _, _⟩
    · exact ⟨none, 0, hv, fun h => absurd h (by simp), fun _ => rfl, by simp, fun a ha => by cases ha⟩
    · subst hv
      exact ⟨some ⟨g, 0, none⟩, cap, rfl, fun h => absurd h (by simp), (fun h => by cases h), by simp, fun a ha => by cases ha; exact hlt g rfl⟩
set_option maxRecDepth 100000 in
theorem strs_nil (w : World) (base : Nat) : Strs w base (.slice none 0 0) [] := World.ownsRow_nil _ _ _ _
set_option maxRecDepth 100000 in
theorem nodes_nil (w : World) (base : Nat) : Nodes w base (.slice none 0 0) [] := World.ownsRow_nil _ _ _ _
set_option maxRecDepth 100000 in
/-- rows of different types are apart -/
theorem rows_apart {w : World} {base b2 : Nat} {v u : Value} {ls : List (List By)} {ts : List T} (h : Strs w base v ls) (k : Nodes w b2 u ts) (c : Nat) (hv : v.ownBlock = some c) (hu : u.ownBlock = some c) : False := by
  rcases h.2 with ⟨rfl, _⟩ | ⟨g, cap, cur, rfl, hg, hc, _⟩
  · cases hv
  rcases k.2 with ⟨rfl, _⟩ | ⟨g2, cap2, cur2, rfl, hg2, hc2, _⟩
  · cases hu
  obtain rfl : g = c := by simpa [Value.ownBlock] using hv
  obtain rfl : g2 = g := by simpa [Value.ownBlock] using hu
  rw [hc] at hc2; simp at hc2
set_option maxRecDepth 100000 in
theorem Strs.kept {w w' : World} {base b2 : Nat} {v u : Value} {ls : List (List By)} {ts : List T} (h : Strs w base v ls) (k : Nodes w b2 u ts) (hg : w.grownBy w' u.ownBlock) : Strs w' base v ls :=
  World.ownsRow.kept h hg (by
    cases e : v.ownBlock with
    | none => exact .inl rfl
    | some c => exact .inr (fun e' => rows_apart h k c e e'.symm))
set_option maxRecDepth 100000 in
theorem Nodes.kept {w w' : World} {base b2 : Nat} {v u : Value} {ls : List (List By)} {ts : List T} (h : Nodes w base u ts) (k : Strs w b2 v ls) (hg : w.grownBy w' v.ownBlock) : Nodes w' base u ts :=
  World.ownsRow.kept h hg (by
    cases e : u.ownBlock with
    | none => exact .inl rfl
    | some c => exact .inr (fun e' => rows_apart k h c e'.symm e))
set_option maxRecDepth 100000 in
theorem own_same {w w' : World} {base : Nat} {e : TypeId} {size : Nat} {v : Value} {n : Nat} {xs : List Value} (h : w.ownsRow base e size v n xs) (hb : ∀ c, base ≤ c → c < w.heap.size → w'.heap[c]? = w.heap[c]?) : w'.ownsRow base e size v n xs := by
  refine ⟨h.1, h.2.imp id ?_⟩
  have hlt := h.lt
  rintro ⟨g, cap, cur, rfl, h2, h3, h4⟩
  exact ⟨g, cap, cur, rfl, h2, by rw [hb g h2 (hlt g rfl).2]; exact h3, h4⟩
set_option maxRecDepth 100000 in
theorem own_below {w w' : World} {base : Nat} {e : TypeId} {size : Nat} {v : Value} {n : Nat} {xs : List Value} (h : w.ownsRow base e size v n xs) (hb : Below w.heap.size w w') : w'.ownsRow base e size v n xs :=
  own_same h fun c _ hc => hb.block c hc
set_option maxRecDepth 100000 in
/-- TEXTS APPENDED TO A ROW OF THE CALL's OWN -/
theorem wpList_append_strs {w : World} {ops : Array Oper} {rest : List Oper} {o : Oper} {a : Act} {Q : Exit → Act → World → Prop} (hgd : o.guard = none) (s x : Operand)
    (ho : o.op = .call { callee := .builtin .append, args := #[s, x], argTypes := #[32, 32] }) (base : Nat)
    (v : Value) (ls : List (List By)) (hs : a.eval s = v) (hown : Strs w base v ls)
    (ad : Addr) (c m : Nat) (ms : List (List By)) (hm : ms.length = m) (hx : a.eval x = .slice (some ad) m c) (hA : ∀ j u, (ms.map vs)[j]? = some u → w.cell? (ad.add j) = some u) (hbd : ls.length + m ≤ 1000000) (hbase : base ≤ w.heap.size)
    (h : ∀ v' w', Strs w' base v' (ls ++ ms) → w.grownBy w' v.ownBlock → wpList Tryd.prog ops Q rest (a.put o.dst v') w') : wpList Tryd.prog ops Q (o :: rest) a w := by
  obtain ⟨i0, hi, hz0, hz1, hz2⟩ := info_parts info9
  subst hm
  refine wpList_append_own w hgd s x 32 ho base 9 i0 (.string ⟨#[]⟩) 1 16 Tryd.underlying32 hi hz0 hz1 hz2 rfl (by decide) v ls.length (ls.map vs) hs hown ad ms.length c (ms.map vs) hx (by simp) hA (fun y hy => by obtain ⟨z, _, rfl⟩ := List.mem_map.1 hy; rfl) (by unfold maxLen; omega) (by omega) hbase ?_
  intro v' w' h1 h2 _
  refine h v' w' ?_ h2
  unfold Strs; rw [List.length_append, List.map_append]; exact h1
/-- a node written over, field by field -/
abbrev set7 (w : World) (g : Nat) (v0 v1 v2 v3 v4 v5 v6 : Value) : World := ((((((w.setCell ⟨g, 0, none⟩ v0).setCell ⟨g, 1, none⟩ v1).setCell ⟨g, 2, none⟩ v2).setCell ⟨g, 3, none⟩ v3).setCell ⟨g, 4, none⟩ v4).setCell ⟨g, 5, none⟩ v5).setCell ⟨g, 6, none⟩ v6
set_option maxRecDepth 100000 in
theorem set7_blk {w : World} {g : Nat} {t : TypeId} {cs : List Value} (h : Blk w g t cs) (hl : cs.length = 7) (v0 v1 v2 v3 v4 v5 v6 : Value) : Blk (set7 w g v0 v1 v2 v3 v4 v5 v6) g t [v0, v1, v2, v3, v4, v5, v6] := by
  match cs, hl with
  | [c0, c1, c2, c3, c4, c5, c6], _ => exact ((((((h.set 0 v0).set 1 v1).set 2 v2).set 3 v3).set 4 v4).set 5 v5).set 6 v6
set_option maxRecDepth 100000 in
theorem set7_size (w : World) (g : Nat) (v0 v1 v2 v3 v4 v5 v6 : Value) : (set7 w g v0 v1 v2 v3 v4 v5 v6).heap.size = w.heap.size := by
  unfold set7; simp only [World.size_setCell]
set_option maxRecDepth 100000 in
theorem set7_other (w : World) (g : Nat) (v0 v1 v2 v3 v4 v5 v6 : Value) (c : Nat) (hc : c ≠ g) : (set7 w g v0 v1 v2 v3 v4 v5 v6).heap[c]? = w.heap[c]? := by
  unfold set7
  iterate 7 rw [Below.heap_setCell _ _ _ c (fun e => hc (by simpa using e))]
set_option maxRecDepth 100000 in
theorem set7_below {B : Nat} {a w : World} (h : Below B a w) (g : Nat) (hg : B ≤ g) (v0 v1 v2 v3 v4 v5 v6 : Value) : Below B a (set7 w g v0 v1 v2 v3 v4 v5 v6) :=
  ((((((h.setCell (by exact hg) _).setCell (by exact hg) _).setCell (by exact hg) _).setCell (by exact hg) _).setCell (by exact hg) _).setCell (by exact hg) _).setCell (by exact hg) _
end Go.Proofs.YtggmogjgaoobjaaDoor

/- Trees but for where they lie. No program is named. -/
namespace TreeMath
open Go RealMath

def eraseH (x : Hd) : Hd := ⟨x.kind, none, 0, x.names, none, 0, none, 0, x.data, x.run, x.stamp, x.target⟩
mutual
/-- but for where it lies -/
def erase : T → T
  | .mk x ks => .mk (eraseH x) (eraseL ks)
def eraseL : List T → List T
  | [] => []
  | k :: l => erase k :: eraseL l
end
theorem eraseL_map : ∀ l, eraseL l = l.map erase
  | [] => rfl
  | k :: l => by rw [eraseL, List.map_cons, eraseL_map l]
theorem eraseL_length (l : List T) : (eraseL l).length = l.length := by rw [eraseL_map]; simp
theorem eraseL_append (a b : List T) : eraseL (a ++ b) = eraseL a ++ eraseL b := by simp [eraseL_map]
mutual
theorem all_erase : ∀ t, all (erase t) = (all t).map erase
  | .mk x ks => by rw [erase, all, all, List.map_cons, allL_erase ks, erase]
theorem allL_erase : ∀ l, allL (eraseL l) = (allL l).map erase
  | [] => rfl
  | k :: l => by rw [eraseL, allL, allL, List.map_append, all_erase k, allL_erase l]
end
theorem count_erase (t : T) : count (erase t) = count t := by unfold count; rw [all_erase]; simp
mutual
theorem depth_erase : ∀ t, depth (erase t) = depth t
  | .mk x ks => by rw [erase, depth, depth, depthL_erase ks]
theorem depthL_erase : ∀ l, depthL (eraseL l) = depthL l
  | [] => rfl
  | k :: l => by rw [eraseL, depthL, depthL, depth_erase k, depthL_erase l]
end
theorem fits_erase (t : T) : fitsB (erase t) = fitsB t := by
  cases t with
  | mk x ks => rw [erase, fitsB, fitsB, eraseL_length]; rfl
mutual
theorem same_erase : ∀ a b, same (erase a) (erase b) = same a b
  | .mk x ks, .mk y ls => by rw [erase, erase, same, same, sameL_erase ks ls]; rfl
theorem sameL_erase : ∀ a b, sameL (eraseL a) (eraseL b) = sameL a b
  | [], [] => by simp [eraseL]
  | a :: l, b :: m => by rw [eraseL, eraseL, sameL, sameL, same_erase a b, sameL_erase l m]
  | [], _ :: _ => by simp [eraseL, sameL]
  | _ :: _, [] => by simp [eraseL, sameL]
end
mutual
theorem same_refl : ∀ t, same t t = true
  | .mk x ks => by rw [same, sameL_refl ks]; simp [hdSame]
theorem sameL_refl : ∀ l, sameL l l = true
  | [] => by rw [sameL]
  | k :: l => by rw [sameL, same_refl k, sameL_refl l]; rfl
end
theorem same_of_erase {a b : T} (h : erase a = erase b) : same a b = true := by rw [← same_erase, h, same_refl]
mutual
theorem erase_erase : ∀ t, erase (erase t) = erase t
  | .mk x ks => by rw [erase, erase, eraseL_eraseL ks]; rfl
theorem eraseL_eraseL : ∀ l, eraseL (eraseL l) = eraseL l
  | [] => rfl
  | k :: l => by rw [eraseL, eraseL, erase_erase k, eraseL_eraseL l]
end
def dirE (ns : List (List By)) : Hd := ⟨1, none, 0, ns, none, 0, none, 0, [], false, 0, []⟩
def fileE (data : List By) (run : Bool) (stamp : Nat) : Hd := ⟨2, none, 0, [], none, 0, none, 0, data, run, stamp, []⟩
def linkE (t : List By) : Hd := ⟨3, none, 0, [], none, 0, none, 0, [], false, 0, t⟩
end TreeMath
