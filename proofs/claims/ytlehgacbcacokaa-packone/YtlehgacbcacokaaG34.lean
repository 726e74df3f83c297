/- The contract of the reference's node: too many, too deep, links, files, other kinds. -/
import Derived.Test.YtlehgacbcacokaaG33
import Derived.Deep.RegionHeld3
import Derived.Deep.CutBlock
namespace Go.Proofs.Ytlehgacbcacokaa
open Go.RowKit TreeMath RealMath WireMath PackMath

def RNodeOf (d : Nat) : Prop := ∀ (top ga gr k deep : Nat) (r : Rd) (w : World), r.p.length ≤ 1000000 → k ≤ 64 → deep + d = 9 → ga < w.heap.size → gr < w.heap.size → InIs w top ga gr k r →
  Calls Try.prog 104 #[.pointer (some ⟨gr, 0, none⟩), .int .i64 deep, .pointer (some ⟨ga, 0, none⟩)] w (RNodePost d w top ga gr k r)
theorem rstart_turned {w : World} {ga gr : Nat} (k : Int) (o : Obj) : Turned (ArSet ga gr) (ArSet ga gr) w ((w.setCell ⟨ga, 0, none⟩ (.int .i64 k)).alloc o) :=
  (Turned.in_count k).trans (Turned.of_below ((Below.refl _ _).alloc (Nat.le_refl _) _))
theorem rstart_is {w : World} {top ga gr k : Nat} {r : Rd} (h : InIs w top ga gr k r) (o : Obj) : InIs ((w.setCell ⟨ga, 0, none⟩ (.int .i64 ((k : Int) + 1))).alloc o) top ga gr (k + 1) r :=
  (h.count (k + 1)).below ((Below.refl _ _).alloc (Nat.le_refl _) _)
theorem rstart_nin {w w1 : World} {top ga gr k : Nat} {r r1 : Rd} (hla : ga < w.heap.size) (hlr : gr < w.heap.size) (cs : Array Value) (h : InIs ((w.setCell ⟨ga, 0, none⟩ (.int .i64 ((k : Int) + 1))).alloc (.cells zero7.toArray 27)) top ga gr (k + 1) r) (hr : RdIs w1 118 top gr r1) (ho : OnlyAt gr ((w.setCell ⟨ga, 0, none⟩ (.int .i64 ((k : Int) + 1))).alloc (.cells zero7.toArray 27)) w1) (hk : r1.ok) :
    RNIn w top ga gr w1.heap.size (k + 1) r1 cs.toList (w1.alloc (.cells cs 27)) := by
  have ha := h.read hr ho hk
  have hb : Below w1.heap.size w1 (w1.alloc (.cells cs 27)) := (Below.refl _ _).alloc (Nat.le_refl _) _
  have hs := ho.size
  have hz : (w.setCell ⟨ga, 0, none⟩ (.int .i64 ((k : Int) + 1))).heap.size = w.heap.size := World.size_setCell _ _ _
  rw [World.size_alloc, hz] at hs
  have b2 : Blk w1 w.heap.size 27 zero7 := by
    have h0 := Blk.new (w.setCell ⟨ga, 0, none⟩ (.int .i64 ((k : Int) + 1))) 27 zero7.toArray
    rw [hz] at h0
    exact Blk.only h0 ho (by omega)
  exact ⟨ha.below hb, b2.below hb b2.lt, Blk.new w1 27 cs, (rstart_turned _ _).trans (ho.ar.trans (Turned.of_below hb)), by omega, hla, hlr⟩
/-- the end of it, where it has failed -/
theorem RNIn.fin {w W : World} {top ga gr g3 k : Nat} {r : Rd} {cs : List Value} (h : RNIn w top ga gr g3 k r cs W) (x : Hd) (n : Nat) :
    Blk (set7 W w.heap.size (vb x.kind) (.slice x.na x.names.length x.nc) (.slice x.ka n x.kc) (.slice x.da x.data.length x.dc) (.bool x.run) (.float .f64 x.stamp) (vs x.target)) w.heap.size 27 (cellsOf x n) ∧
    Turned (ArSet ga gr) (ArSet ga gr) w (set7 W w.heap.size (vb x.kind) (.slice x.na x.names.length x.nc) (.slice x.ka n x.kc) (.slice x.da x.data.length x.dc) (.bool x.run) (.float .f64 x.stamp) (vs x.target)) := by
  have hoth := set7_other W w.heap.size (vb x.kind) (.slice x.na x.names.length x.nc) (.slice x.ka n x.kc) (.slice x.da x.data.length x.dc) (.bool x.run) (.float .f64 x.stamp) (vs x.target)
  have hsz := set7_size W w.heap.size (vb x.kind) (.slice x.na x.names.length x.nc) (.slice x.ka n x.kc) (.slice x.da x.data.length x.dc) (.bool x.run) (.float .f64 x.stamp) (vs x.target)
  have hbe := set7_below (Below.refl w.heap.size W) w.heap.size (Nat.le_refl _) (vb x.kind) (.slice x.na x.names.length x.nc) (.slice x.ka n x.kc) (.slice x.da x.data.length x.dc) (.bool x.run) (.float .f64 x.stamp) (vs x.target)
  exact ⟨set7_blk h.b2 rfl _ _ _ _ _ _ _, ⟨hbe.os.trans h.turned.os, hbe.tape.trans h.turned.tape, hbe.output.trans h.turned.output, by rw [hsz]; exact h.turned.size, fun c hc hn => (hoth c (by omega)).trans (h.turned.other c hc hn), fun _ h => .inl h⟩⟩
theorem cells_kept {W W' : World} {g2 : Nat} (h : ∀ c, c ≠ g2 → W'.heap[c]? = W.heap[c]?) {g o : Nat} (hg : g ≠ g2) : W'.drew.cell? ⟨g, o, none⟩ = W.cell? ⟨g, o, none⟩ :=
  World.cell?_of_block (w := W) (a := ⟨g, o, none⟩) (h g hg)
def kindE (b : By) : Hd := ⟨b, none, 0, [], none, 0, none, 0, [], false, 0, []⟩
theorem num_byte (r : Rd) : ∃ b : By, numR 1 r = b.toNat := by
  have h : numR 1 r < 256 := numR_lt 1 r
  exact ⟨UInt8.ofNat (numR 1 r), by rw [UInt8.toNat_ofNat_of_lt' (by exact h)]⟩
set_option maxHeartbeats 1000000 in
set_option maxRecDepth 100000 in
/-- it ends with false: the box is the result -/
theorem rnode_false {d top ga gr k g3 k2 : Nat} {r r2 : Rd} {w W : World} {tmps : Array Value} (x : Hd) (n : Nat) (h6 : tmps[6]? = some (.pointer (some ⟨w.heap.size, 0, none⟩))) (h7 : tmps[7]? = some (.bool false)) (h : RNIn w top ga gr g3 k2 r2 (cellsOf x n) W) (hn : nodeR d k r = none) :
    bodyPost Try.prog Try.f104 (RNodePost d w top ga gr k r) .ret { tmps := tmps, defers := [] } (set7 W w.heap.size (vb x.kind) (.slice x.na x.names.length x.nc) (.slice x.ka n x.kc) (.slice x.da x.data.length x.dc) (.bool x.run) (.float .f64 x.stamp) (vs x.target)) := by
  obtain ⟨bk, htu⟩ := h.fin x n
  generalize set7 W w.heap.size (vb x.kind) (.slice x.na x.names.length x.nc) (.slice x.ka n x.kc) (.slice x.da x.data.length x.dc) (.bool x.run) (.float .f64 x.stamp) (vs x.target) = W9 at *
  have e0 := bk.cell 0; have e1 := bk.cell 1; have e2 := bk.cell 2; have e3 := bk.cell 3; have e4 := bk.cell 4; have e5 := bk.cell 5; have e6 := bk.cell 6
  simp only [cellsOf, List.getElem?_cons_zero, List.getElem?_cons_succ] at e0 e1 e2 e3 e4 e5 e6
  exact bodyPost_ret (v := .tuple #[nv x n, .bool false]) (by simp [results, Try.results104, go_sem, h6, h7, e0, e1, e2, e3, e4, e5, e6]) rfl (rpost_none hn htu x n rfl)
set_option maxHeartbeats 4000000 in
set_option maxRecDepth 100000 in
theorem rnode_stop (d top ga gr k deep : Nat) (r : Rd) (w : World) (hr : r.p.length ≤ 1000000) (hk : k ≤ 64) (hd : deep ≤ 9) (hla : ga < w.heap.size) (hlr : gr < w.heap.size) (h : InIs w top ga gr k r) (hstop : (after 1 r).f = true ∨ ((after 1 r).f = false ∧ deep = 9) ∨ ((after 1 r).f = false ∧ deep < 9 ∧ 64 ≤ k)) (hn : nodeR d k r = none) :
    Calls Try.prog 104 #[.pointer (some ⟨gr, 0, none⟩), .int .i64 deep, .pointer (some ⟨ga, 0, none⟩)] w (RNodePost d w top ga gr k r) := by
  have HN := Lib.hid hn
  have HA : Hid (InIs ((w.setCell ⟨ga, 0, none⟩ (.int .i64 ((k : Int) + 1))).alloc (.cells zero7.toArray 27)) top ga gr (k + 1) r) := rstart_is h _
  have HOK := Lib.hid h.ok
  have c1 := h.blk.cell 0; have f1 := h.blk.frozen 0
  simp only [List.getElem?_cons_zero] at c1
  clear h hn
  have hnl : numR 1 r < 256 := numR_lt 1 r
  go_enter Try.func104, Try.ntmps104
  go_wp2_with fail
  refine (iwide_any top gr 1 (by omega) r hr HOK.out _ HA.out.rd).mono ?_
  rintro e w1 ⟨rfl, h1, h2⟩
  obtain ⟨b, hb⟩ := num_byte r
  rw [hb]
  have HI := Lib.hid (rstart_nin hla hlr #[vb b, .slice none 0 0, .slice none 0 0, .slice none 0 0, .bool false, .float .f64 0, .string ⟨#[]⟩] HA.out h1 h2 (ok_after HOK.out 1))
  have hbl := b.toNat_lt
  clear h1 h2 HA c1 f1 hb hnl
  go_upto_region 3 with fail
  generalize hW : w1.alloc (.cells #[vb b, .slice none 0 0, .slice none 0 0, .slice none 0 0, .bool false, .float .f64 0, .string ⟨#[]⟩] 27) = W2 at *
  clear hW
  obtain ⟨A1, q1, hg1, -⟩ := HI.out.ar.rd.ex
  have cf := hg1.cell 1; have ck := HI.out.ar.blk.cell 0
  have d0 := HI.out.b3.cell 0; have d1 := HI.out.b3.cell 1; have d2 := HI.out.b3.cell 2; have d3 := HI.out.b3.cell 3; have d4 := HI.out.b3.cell 4; have d5 := HI.out.b3.cell 5; have d6 := HI.out.b3.cell 6
  have k0 := HI.out.b2.cell 0; have k1 := HI.out.b2.cell 1; have k2 := HI.out.b2.cell 2; have k3 := HI.out.b2.cell 3; have k4 := HI.out.b2.cell 4; have k5 := HI.out.b2.cell 5; have k6 := HI.out.b2.cell 6
  have f0 := HI.out.b2.frozen 0; have f1 := HI.out.b2.frozen 1; have f2 := HI.out.b2.frozen 2; have f3 := HI.out.b2.frozen 3; have f4 := HI.out.b2.frozen 4; have f5 := HI.out.b2.frozen 5; have f6 := HI.out.b2.frozen 6
  have hl6 := HI.out.b2.lt; have hlt := HI.out.lt
  simp only [List.getElem?_cons_zero, List.getElem?_cons_succ] at cf ck d0 d1 d2 d3 d4 d5 d6 k0 k1 k2 k3 k4 k5 k6
  clear hg1
  rcases hstop with hs | ⟨hs, hs2⟩ | ⟨hs, hs2, hs3⟩
  · rw [hs] at cf
    clear hs
    go_wp2_with fail
    exact rnode_false (kindE b) 0 rfl rfl HI.out HN.out
  · subst hs2
    rw [hs] at cf
    clear hs
    go_wp2_with fail
    exact rnode_false (kindE b) 0 rfl rfl HI.out HN.out
  · have e1 : decide ((8 : Int) < (deep : Int)) = false := decide_eq_false (by omega)
    have e2 : decide ((64 : Int) < ((k + 1 : Nat) : Int)) = true := decide_eq_true (by omega)
    have e3 : decide ((64 : Int) < (k : Int) + 1) = true := decide_eq_true (by omega)
    rw [hs] at cf
    clear hs
    go_wp2_with fail
    exact rnode_false (kindE b) 0 rfl rfl HI.out HN.out
set_option maxHeartbeats 1000000 in
set_option maxRecDepth 100000 in
theorem rnode_false2 {d top ga gr k : Nat} {r : Rd} {w W : World} {tmps : Array Value} (x : Hd) (n : Nat) (h6 : tmps[6]? = some (.pointer (some ⟨w.heap.size, 0, none⟩))) (h7 : tmps[7]? = some (.bool false)) (h : Blk W w.heap.size 27 zero7) (ht : Turned (ArSet ga gr) (ArSet ga gr) w W) (hn : nodeR d k r = none) :
    bodyPost Try.prog Try.f104 (RNodePost d w top ga gr k r) .ret { tmps := tmps, defers := [] } (set7 W w.heap.size (vb x.kind) (.slice x.na x.names.length x.nc) (.slice x.ka n x.kc) (.slice x.da x.data.length x.dc) (.bool x.run) (.float .f64 x.stamp) (vs x.target)) := by
  have hoth := set7_other W w.heap.size (vb x.kind) (.slice x.na x.names.length x.nc) (.slice x.ka n x.kc) (.slice x.da x.data.length x.dc) (.bool x.run) (.float .f64 x.stamp) (vs x.target)
  have hsz := set7_size W w.heap.size (vb x.kind) (.slice x.na x.names.length x.nc) (.slice x.ka n x.kc) (.slice x.da x.data.length x.dc) (.bool x.run) (.float .f64 x.stamp) (vs x.target)
  have hbe := set7_below (Below.refl w.heap.size W) w.heap.size (Nat.le_refl _) (vb x.kind) (.slice x.na x.names.length x.nc) (.slice x.ka n x.kc) (.slice x.da x.data.length x.dc) (.bool x.run) (.float .f64 x.stamp) (vs x.target)
  have bk := set7_blk h rfl (vb x.kind) (.slice x.na x.names.length x.nc) (.slice x.ka n x.kc) (.slice x.da x.data.length x.dc) (.bool x.run) (.float .f64 x.stamp) (vs x.target)
  generalize set7 W w.heap.size (vb x.kind) (.slice x.na x.names.length x.nc) (.slice x.ka n x.kc) (.slice x.da x.data.length x.dc) (.bool x.run) (.float .f64 x.stamp) (vs x.target) = W9 at *
  have htu : Turned (ArSet ga gr) (ArSet ga gr) w W9 := ⟨hbe.os.trans ht.os, hbe.tape.trans ht.tape, hbe.output.trans ht.output, by rw [hsz]; exact ht.size, fun c hc hn => (hoth c (by omega)).trans (ht.other c hc hn), fun _ h => .inl h⟩
  have e0 := bk.cell 0; have e1 := bk.cell 1; have e2 := bk.cell 2; have e3 := bk.cell 3; have e4 := bk.cell 4; have e5 := bk.cell 5; have e6 := bk.cell 6
  simp only [List.getElem?_cons_zero, List.getElem?_cons_succ] at e0 e1 e2 e3 e4 e5 e6
  exact bodyPost_ret (v := .tuple #[nv x n, .bool false]) (by simp [results, Try.results104, go_sem, h6, h7, e0, e1, e2, e3, e4, e5, e6]) rfl (rpost_none hn htu x n rfl)
set_option maxHeartbeats 1000000 in
set_option maxRecDepth 100000 in
/-- it comes to its end: the box is the result, unless the bytes have failed -/
theorem rnode_end {d top ga gr k g3 k2 : Nat} {r r2 : Rd} {w W : World} {tmps : Array Value} (x : Hd) (ks : List T) (h6 : tmps[6]? = some (.pointer (some ⟨w.heap.size, 0, none⟩))) (h7 : tmps[7]? = some (.bool !r2.f)) (h : RNIn w top ga gr g3 k2 r2 (cellsOf x ks.length) W)
    (hok : Ok W W.heap.size (.mk x ks)) (hin : InS (fun c => w.heap.size < c) (.mk x ks)) (hn : nodeR d k r = if r2.f then none else some (erase (.mk x ks), k2, r2)) :
    bodyPost Try.prog Try.f104 (RNodePost d w top ga gr k r) .ret { tmps := tmps, defers := [] } (set7 W w.heap.size (vb x.kind) (.slice x.na x.names.length x.nc) (.slice x.ka ks.length x.kc) (.slice x.da x.data.length x.dc) (.bool x.run) (.float .f64 x.stamp) (vs x.target)).drew := by
  obtain ⟨bk, hok2, hin2, har, htu⟩ := h.done hok hin
  generalize set7 W w.heap.size (vb x.kind) (.slice x.na x.names.length x.nc) (.slice x.ka ks.length x.kc) (.slice x.da x.data.length x.dc) (.bool x.run) (.float .f64 x.stamp) (vs x.target) = W9 at *
  have hb : Below W9.heap.size W9 W9.drew := (Below.refl _ _).drew
  have bk2 := bk.drew
  have e0 := bk2.cell 0; have e1 := bk2.cell 1; have e2 := bk2.cell 2; have e3 := bk2.cell 3; have e4 := bk2.cell 4; have e5 := bk2.cell 5; have e6 := bk2.cell 6
  simp only [cellsOf, List.getElem?_cons_zero, List.getElem?_cons_succ] at e0 e1 e2 e3 e4 e5 e6
  cases hf : r2.f with
  | true =>
    rw [hf] at h7 hn
    exact bodyPost_ret (v := .tuple #[nv x ks.length, .bool false]) (by simp [results, Try.results104, go_sem, h6, h7, e0, e1, e2, e3, e4, e5, e6]) rfl (rpost_none hn (htu.trans (Turned.of_below hb)) x ks.length rfl)
  | false =>
    rw [hf] at h7 hn
    exact bodyPost_ret (v := .tuple #[nv x ks.length, .bool true]) (by simp [results, Try.results104, go_sem, h6, h7, e0, e1, e2, e3, e4, e5, e6]) rfl (rpost_some hn (htu.trans (Turned.of_below hb)) x ks rfl rfl ((hok2.keep hb).up hb.size) hin2 (har.below hb))
set_option maxHeartbeats 4000000 in
set_option maxRecDepth 100000 in
theorem rnode_other (d top ga gr k deep : Nat) (r : Rd) (w : World) (hr : r.p.length ≤ 1000000) (hk : k < 64) (hd : deep ≤ 8) (hla : ga < w.heap.size) (hlr : gr < w.heap.size) (h : InIs w top ga gr k r) (hff : (after 1 r).f = false) (h1 : numR 1 r ≠ 1) (h2 : numR 1 r ≠ 2) (h3 : numR 1 r ≠ 3) :
    Calls Try.prog 104 #[.pointer (some ⟨gr, 0, none⟩), .int .i64 deep, .pointer (some ⟨ga, 0, none⟩)] w (RNodePost (d + 1) w top ga gr k r) := by
  have HN : Hid (nodeR (d + 1) k r = none) := by
    show _ = _
    rw [nodeR, if_neg (by rw [hff]; simp; omega), if_neg h1, if_neg h2, if_neg h3]
  have hx1 := h1; have hx2 := h2; have hx3 := h3
  clear h1 h2 h3
  have HA : Hid (InIs ((w.setCell ⟨ga, 0, none⟩ (.int .i64 ((k : Int) + 1))).alloc (.cells zero7.toArray 27)) top ga gr (k + 1) r) := rstart_is h _
  have HOK := Lib.hid h.ok
  have c1 := h.blk.cell 0; have f1 := h.blk.frozen 0
  simp only [List.getElem?_cons_zero] at c1
  clear h
  have hnl : numR 1 r < 256 := numR_lt 1 r
  go_enter Try.func104, Try.ntmps104
  go_wp2_with fail
  refine (iwide_any top gr 1 (by omega) r hr HOK.out _ HA.out.rd).mono ?_
  rintro e w1 ⟨rfl, h1, h2⟩
  obtain ⟨b, hb⟩ := num_byte r
  rw [hb]
  rw [hb] at hx1 hx2 hx3
  have hbl := b.toNat_lt
  clear hb
  have HI := Lib.hid (rstart_nin hla hlr #[vb b, .slice none 0 0, .slice none 0 0, .slice none 0 0, .bool false, .float .f64 0, .string ⟨#[]⟩] HA.out h1 h2 (ok_after HOK.out 1))
  clear h1 h2 HA c1 f1 hnl
  have hr1 := Nat.le_trans (after_len 1 r) hr
  have HOK1 := Lib.hid (ok_after HOK.out 1)
  clear HOK
  generalize after 1 r = r1 at *
  go_upto_region 3 with fail
  generalize hW : w1.alloc (.cells #[vb b, .slice none 0 0, .slice none 0 0, .slice none 0 0, .bool false, .float .f64 0, .string ⟨#[]⟩] 27) = W2 at *
  clear hW
  obtain ⟨A1, q1, hg1, -⟩ := HI.out.ar.rd.ex
  have cf := hg1.cell 1; have ck := HI.out.ar.blk.cell 0; have d0 := HI.out.b3.cell 0
  simp only [List.getElem?_cons_zero, List.getElem?_cons_succ] at cf ck d0
  rw [hff] at cf
  clear hg1 hff
  have e1 : decide ((8 : Int) < (deep : Int)) = false := decide_eq_false (by omega)
  have e3 : decide ((64 : Int) < (k : Int) + 1) = false := decide_eq_false (by omega)
  have e2 : decide ((64 : Int) < ((k + 1 : Nat) : Int)) = false := decide_eq_false (by omega)
  have x1 : ((b.toNat : Int) == 1) = false := by rw [beq_eq_false_iff_ne]; omega
  have x2 : ((b.toNat : Int) == 2) = false := by rw [beq_eq_false_iff_ne]; omega
  have x3 : ((b.toNat : Int) == 3) = false := by rw [beq_eq_false_iff_ne]; omega
  clear hx1 hx2 hx3
  have d1 := HI.out.b3.cell 1; have d2 := HI.out.b3.cell 2; have d3 := HI.out.b3.cell 3; have d4 := HI.out.b3.cell 4; have d5 := HI.out.b3.cell 5; have d6 := HI.out.b3.cell 6
  have k0 := HI.out.b2.cell 0; have k1 := HI.out.b2.cell 1; have k2 := HI.out.b2.cell 2; have k3 := HI.out.b2.cell 3; have k4 := HI.out.b2.cell 4; have k5 := HI.out.b2.cell 5; have k6 := HI.out.b2.cell 6
  have f0 := HI.out.b2.frozen 0; have f1 := HI.out.b2.frozen 1; have f2 := HI.out.b2.frozen 2; have f3 := HI.out.b2.frozen 3; have f4 := HI.out.b2.frozen 4; have f5 := HI.out.b2.frozen 5; have f6 := HI.out.b2.frozen 6
  have hl6 := HI.out.b2.lt; have hlt := HI.out.lt
  simp only [List.getElem?_cons_zero, List.getElem?_cons_succ] at d1 d2 d3 d4 d5 d6 k0 k1 k2 k3 k4 k5 k6
  go_wp2_with fail
  exact rnode_false (kindE b) 0 rfl rfl HI.out HN.out
set_option maxHeartbeats 4000000 in
set_option maxRecDepth 100000 in
theorem rnode_link (d top ga gr k deep : Nat) (r : Rd) (w : World) (hr : r.p.length ≤ 1000000) (hk : k < 64) (hd : deep ≤ 8) (hla : ga < w.heap.size) (hlr : gr < w.heap.size) (h : InIs w top ga gr k r) (hff : (after 1 r).f = false) (hkind : numR 1 r = 3) :
    Calls Try.prog 104 #[.pointer (some ⟨gr, 0, none⟩), .int .i64 deep, .pointer (some ⟨ga, 0, none⟩)] w (RNodePost (d + 1) w top ga gr k r) := by
  have HN : Hid (nodeR (d + 1) k r = if (textA (after 1 r)).f then none else some (.mk (linkE (textR (after 1 r))) [], k + 1, textA (after 1 r))) := by
    show _ = _
    rw [nodeR, if_neg (by rw [hff]; simp; omega), if_neg (by omega), if_neg (by omega), if_pos hkind]
  have HKD := Lib.hid hkind
  clear hkind
  have HA : Hid (InIs ((w.setCell ⟨ga, 0, none⟩ (.int .i64 ((k : Int) + 1))).alloc (.cells zero7.toArray 27)) top ga gr (k + 1) r) := rstart_is h _
  have HOK := Lib.hid h.ok
  have c1 := h.blk.cell 0; have f1 := h.blk.frozen 0
  simp only [List.getElem?_cons_zero] at c1
  clear h
  have hnl : numR 1 r < 256 := numR_lt 1 r
  go_enter Try.func104, Try.ntmps104
  go_wp2_with fail
  refine (iwide_any top gr 1 (by omega) r hr HOK.out _ HA.out.rd).mono ?_
  rintro e w1 ⟨rfl, h1, h2⟩
  rw [HKD.out]
  have HI := Lib.hid (rstart_nin hla hlr #[.int .u8 3, .slice none 0 0, .slice none 0 0, .slice none 0 0, .bool false, .float .f64 0, .string ⟨#[]⟩] HA.out h1 h2 (ok_after HOK.out 1))
  clear h1 h2 HA c1 f1 hnl
  have hr1 := Nat.le_trans (after_len 1 r) hr
  have HOK1 := Lib.hid (ok_after HOK.out 1)
  clear HOK
  generalize after 1 r = r1 at *
  go_upto_region 3 with fail
  generalize hW : w1.alloc (.cells #[.int .u8 3, .slice none 0 0, .slice none 0 0, .slice none 0 0, .bool false, .float .f64 0, .string ⟨#[]⟩] 27) = W2 at *
  clear hW
  obtain ⟨A1, q1, hg1, -⟩ := HI.out.ar.rd.ex
  have cf := hg1.cell 1; have ck := HI.out.ar.blk.cell 0; have d0 := HI.out.b3.cell 0
  simp only [List.getElem?_cons_zero, List.getElem?_cons_succ] at cf ck d0
  rw [hff] at cf
  clear hg1 hff
  have e1 : decide ((8 : Int) < (deep : Int)) = false := decide_eq_false (by omega)
  have e3 : decide ((64 : Int) < (k : Int) + 1) = false := decide_eq_false (by omega)
  have e2 : decide ((64 : Int) < ((k + 1 : Nat) : Int)) = false := decide_eq_false (by omega)
  go_wp2_with fail
  refine (itext_any top gr r1 hr1 HOK1.out W2 HI.out.ar.rd).mono ?_
  rintro e w3 ⟨rfl, h1, h2⟩
  have hi3 := HI.out.step (HI.out.ar.read h1 h2 (ok_textA HOK1.out)) h2.ar
  have f6 := hi3.b3.frozen 6; have c6 := hi3.b3.cell 6
  simp only [List.getElem?_cons_zero, List.getElem?_cons_succ] at c6
  have HI4 := Lib.hid (hi3.set 6 (vs (textR r1)))
  have HTL : Hid ((textR r1).length ≤ 65536) := textR_len r1
  clear h1 h2 cf ck d0 hi3 HI e1 e2 e3 HOK1
  generalize textR r1 = tx at *
  generalize textA r1 = r2 at *
  go_upto_region 25 with fail
  generalize hW : w3.setCell ⟨w1.heap.size, 6, none⟩ (vs tx) = W4 at *
  clear hW f6 c6
  have d0 := HI4.out.b3.cell 0; have d1 := HI4.out.b3.cell 1; have d2 := HI4.out.b3.cell 2; have d3 := HI4.out.b3.cell 3; have d4 := HI4.out.b3.cell 4; have d5 := HI4.out.b3.cell 5; have d6 := HI4.out.b3.cell 6
  simp only [List.set_cons_zero, List.set_cons_succ, List.getElem?_cons_zero, List.getElem?_cons_succ] at d0 d1 d2 d3 d4 d5 d6
  have k0 := HI4.out.b2.cell 0; have k1 := HI4.out.b2.cell 1; have k2 := HI4.out.b2.cell 2; have k3 := HI4.out.b2.cell 3; have k4 := HI4.out.b2.cell 4; have k5 := HI4.out.b2.cell 5; have k6 := HI4.out.b2.cell 6
  have f0 := HI4.out.b2.frozen 0; have f1 := HI4.out.b2.frozen 1; have f2 := HI4.out.b2.frozen 2; have f3 := HI4.out.b2.frozen 3; have f4 := HI4.out.b2.frozen 4; have f5 := HI4.out.b2.frozen 5; have f6 := HI4.out.b2.frozen 6
  have hl6 := HI4.out.b2.lt; have hlt := HI4.out.lt
  simp only [List.getElem?_cons_zero, List.getElem?_cons_succ] at k0 k1 k2 k3 k4 k5 k6
  obtain ⟨A4, q4, hg4, -⟩ := HI4.out.ar.rd.ex
  have cf := hg4.cell 1
  simp only [List.getElem?_cons_zero, List.getElem?_cons_succ] at cf
  clear hg4
  have hlr' : gr ≠ w.heap.size := by have := HI4.out.lr; omega
  have HSET : Hid (∀ c, c ≠ w.heap.size → (set7 W4 w.heap.size (.int .u8 3) (.slice none 0 0) (.slice none 0 0) (.slice none 0 0) (.bool false) (.float .f64 0) (vs tx)).heap[c]? = W4.heap[c]?) := set7_other W4 w.heap.size _ _ _ _ _ _ _
  have q0 : W4.drew.cell? ⟨w1.heap.size, 0, none⟩ = some (.int .u8 3) ∧ W4.drew.cell? ⟨w1.heap.size, 1, none⟩ = some (.slice none 0 0) ∧ W4.drew.cell? ⟨w1.heap.size, 2, none⟩ = some (.slice none 0 0) ∧ W4.drew.cell? ⟨w1.heap.size, 3, none⟩ = some (.slice none 0 0) ∧ W4.drew.cell? ⟨w1.heap.size, 4, none⟩ = some (.bool false) ∧ W4.drew.cell? ⟨w1.heap.size, 5, none⟩ = some (.float .f64 0) ∧ W4.drew.cell? ⟨w1.heap.size, 6, none⟩ = some (vs tx) ∧ W4.drew.cell? ⟨gr, 1, none⟩ = some (.bool r2.f) := ⟨d0, d1, d2, d3, d4, d5, d6, cf⟩
  have q1 : (set7 W4 w.heap.size (.int .u8 3) (.slice none 0 0) (.slice none 0 0) (.slice none 0 0) (.bool false) (.float .f64 0) (vs tx)).drew.cell? ⟨w1.heap.size, 0, none⟩ = some (.int .u8 3) ∧ (set7 W4 w.heap.size (.int .u8 3) (.slice none 0 0) (.slice none 0 0) (.slice none 0 0) (.bool false) (.float .f64 0) (vs tx)).drew.cell? ⟨w1.heap.size, 1, none⟩ = some (.slice none 0 0) ∧ (set7 W4 w.heap.size (.int .u8 3) (.slice none 0 0) (.slice none 0 0) (.slice none 0 0) (.bool false) (.float .f64 0) (vs tx)).drew.cell? ⟨w1.heap.size, 2, none⟩ = some (.slice none 0 0) ∧ (set7 W4 w.heap.size (.int .u8 3) (.slice none 0 0) (.slice none 0 0) (.slice none 0 0) (.bool false) (.float .f64 0) (vs tx)).drew.cell? ⟨w1.heap.size, 3, none⟩ = some (.slice none 0 0) ∧ (set7 W4 w.heap.size (.int .u8 3) (.slice none 0 0) (.slice none 0 0) (.slice none 0 0) (.bool false) (.float .f64 0) (vs tx)).drew.cell? ⟨w1.heap.size, 4, none⟩ = some (.bool false) ∧ (set7 W4 w.heap.size (.int .u8 3) (.slice none 0 0) (.slice none 0 0) (.slice none 0 0) (.bool false) (.float .f64 0) (vs tx)).drew.cell? ⟨w1.heap.size, 5, none⟩ = some (.float .f64 0) ∧ (set7 W4 w.heap.size (.int .u8 3) (.slice none 0 0) (.slice none 0 0) (.slice none 0 0) (.bool false) (.float .f64 0) (vs tx)).drew.cell? ⟨w1.heap.size, 6, none⟩ = some (vs tx) ∧ (set7 W4 w.heap.size (.int .u8 3) (.slice none 0 0) (.slice none 0 0) (.slice none 0 0) (.bool false) (.float .f64 0) (vs tx)).drew.cell? ⟨gr, 1, none⟩ = some (.bool r2.f) := by
    have hg : w1.heap.size ≠ w.heap.size := by omega
    exact ⟨(cells_kept HSET.out hg).trans d0, (cells_kept HSET.out hg).trans d1, (cells_kept HSET.out hg).trans d2, (cells_kept HSET.out hg).trans d3, (cells_kept HSET.out hg).trans d4, (cells_kept HSET.out hg).trans d5, (cells_kept HSET.out hg).trans d6, (cells_kept HSET.out hlr').trans cf⟩
  go_region_held3 (fun W' => W'.cell? ⟨w1.heap.size, 0, none⟩ = some (.int .u8 3) ∧ W'.cell? ⟨w1.heap.size, 1, none⟩ = some (.slice none 0 0) ∧ W'.cell? ⟨w1.heap.size, 2, none⟩ = some (.slice none 0 0) ∧ W'.cell? ⟨w1.heap.size, 3, none⟩ = some (.slice none 0 0) ∧ W'.cell? ⟨w1.heap.size, 4, none⟩ = some (.bool false) ∧ W'.cell? ⟨w1.heap.size, 5, none⟩ = some (.float .f64 0) ∧ W'.cell? ⟨w1.heap.size, 6, none⟩ = some (vs tx) ∧ W'.cell? ⟨gr, 1, none⟩ = some (.bool r2.f))
    (first | with_reducible exact q0 | with_reducible exact q1 | go_keep)
    (fail)
  all_goals
    clear d0 d1 d2 d3 d4 d5 d6 k0 k1 k2 k3 k4 k5 k6 f0 f1 f2 f3 f4 f5 f6 cf q0 q1
    go_wp2_with fail
    exact rnode_end (linkHd tx) [] rfl rfl HI4.out (ok_link tx (by have := HTL.out; unfold maxLen; omega)) (inS_link _ _) HN.out
end Go.Proofs.Ytlehgacbcacokaa

/- The contract of the reference's node: files. -/
namespace Go.Proofs.Ytlehgacbcacokaa
open Go.RowKit TreeMath RealMath WireMath PackMath

set_option maxHeartbeats 1000000 in
theorem rof_any (x : Nat) (hx : x < 18446744073709551616) (w : World) :
    Calls Try.prog 46 #[.int .u64 x] w fun e w' => e = .returned (.tuple #[.float .f64 (ofV x), .int .i64 (ofE x)]) ∧ w = w' := by
  have hfb := fun w => run_frombits (x : Int) w
  by_cases h1 : isNan x = true
  · have g1 : decide ((9218868437227405312 : Int) < (x : Int) % 9223372036854775808) = true := by
      unfold isNan INF SW at h1; simp only [decide_eq_true_eq] at h1 ⊢; omega
    by_cases h2 : x = NAN
    · have HE : Hid (ofV x = x ∧ ofE x = 0) := by refine (?_ : _ ∧ _); unfold ofV ofE; rw [ofOk_yes (by rw [canonB_nan h1, h2])]; exact ⟨rfl, rfl⟩
      have g2 : ((x : Int) != 9221120237041090561) = false := by rw [h2]; rfl
      have g3 : ((x : Int) == 9223372036854775808) = false := by rw [beq_eq_false_iff_ne, h2]; decide
      clear h1 h2
      go_enter Try.func46, Try.ntmps46
      go_wp2_with fail
      go_ret2
      rw [HE.out.1, HE.out.2]; exact ⟨rfl, rfl⟩
    · have HE : Hid (ofV x = 0 ∧ ofE x = 2) := by refine (?_ : _ ∧ _); unfold ofV ofE; rw [ofOk_no (by rw [canonB_nan h1]; exact fun e => h2 e.symm)]; exact ⟨rfl, rfl⟩
      have g2 : ((x : Int) != 9221120237041090561) = true := by rw [bne_iff_ne]; intro e; exact h2 (by unfold NAN; omega)
      clear h1 h2
      go_enter Try.func46, Try.ntmps46
      go_wp2_with fail
      go_ret2
      rw [HE.out.1, HE.out.2]; exact ⟨rfl, rfl⟩
  · have h1' : isNan x = false := by simpa using h1
    have g1 : decide ((9218868437227405312 : Int) < (x : Int) % 9223372036854775808) = false := by
      unfold isNan INF SW at h1; simp only [decide_eq_true_eq] at h1; exact decide_eq_false (by omega)
    by_cases h2 : x = SW
    · have HE : Hid (ofV x = 0 ∧ ofE x = 2) := by refine (?_ : _ ∧ _); unfold ofV ofE; rw [ofOk_no (by rw [h2, canonB_sw]; decide)]; exact ⟨rfl, rfl⟩
      have g3 : ((x : Int) == 9223372036854775808) = true := by rw [h2]; rfl
      clear h1 h2
      go_enter Try.func46, Try.ntmps46
      go_wp2_with fail
      go_ret2
      rw [HE.out.1, HE.out.2]; exact ⟨rfl, rfl⟩
    · have HE : Hid (ofV x = x ∧ ofE x = 0) := by refine (?_ : _ ∧ _); unfold ofV ofE; rw [ofOk_yes (canonB_num h1' h2)]; exact ⟨rfl, rfl⟩
      have g3 : ((x : Int) == 9223372036854775808) = false := by rw [beq_eq_false_iff_ne]; intro e; exact h2 (by unfold SW; omega)
      clear h1 h2 h1'
      go_enter Try.func46, Try.ntmps46
      go_wp2_with fail
      go_ret2
      rw [HE.out.1, HE.out.2]; exact ⟨rfl, rfl⟩
set_option maxHeartbeats 4000000 in
set_option maxRecDepth 100000 in
theorem rnode_file (d top ga gr k deep : Nat) (r : Rd) (w : World) (hr : r.p.length ≤ 1000000) (hk : k < 64) (hd : deep ≤ 8) (hla : ga < w.heap.size) (hlr : gr < w.heap.size) (h : InIs w top ga gr k r) (hff : (after 1 r).f = false) (hkind : numR 1 r = 2) :
    Calls Try.prog 104 #[.pointer (some ⟨gr, 0, none⟩), .int .i64 deep, .pointer (some ⟨ga, 0, none⟩)] w (RNodePost (d + 1) w top ga gr k r) := by
  have HN : Hid (nodeR (d + 1) k r = match filR (after 1 r) with | none => none | some (t, r') => if r'.f then none else some (t, k + 1, r')) := by
    show _ = _
    rw [nodeR, if_neg (by rw [hff]; simp; omega), if_neg (by omega), if_pos hkind]
    cases filR (after 1 r) <;> rfl
  have HKD := Lib.hid hkind
  clear hkind
  have HA : Hid (InIs ((w.setCell ⟨ga, 0, none⟩ (.int .i64 ((k : Int) + 1))).alloc (.cells zero7.toArray 27)) top ga gr (k + 1) r) := rstart_is h _
  have HOK := Lib.hid h.ok
  have c1 := h.blk.cell 0; have f1 := h.blk.frozen 0
  simp only [List.getElem?_cons_zero] at c1
  clear h
  have hnl : numR 1 r < 256 := numR_lt 1 r
  go_enter Try.func104, Try.ntmps104
  go_wp2_with fail
  refine (iwide_any top gr 1 (by omega) r hr HOK.out _ HA.out.rd).mono ?_
  rintro e w1 ⟨rfl, h1, h2⟩
  rw [HKD.out]
  have HI := Lib.hid (rstart_nin hla hlr #[.int .u8 2, .slice none 0 0, .slice none 0 0, .slice none 0 0, .bool false, .float .f64 0, .string ⟨#[]⟩] HA.out h1 h2 (ok_after HOK.out 1))
  clear h1 h2 HA c1 f1 hnl
  have hr1 := Nat.le_trans (after_len 1 r) hr
  have HOK1 := Lib.hid (ok_after HOK.out 1)
  clear HOK
  generalize after 1 r = r1 at *
  go_upto_region 3 with fail
  generalize hW : w1.alloc (.cells #[.int .u8 2, .slice none 0 0, .slice none 0 0, .slice none 0 0, .bool false, .float .f64 0, .string ⟨#[]⟩] 27) = W2 at *
  clear hW
  obtain ⟨A1, q1, hg1, -⟩ := HI.out.ar.rd.ex
  have cf := hg1.cell 1; have ck := HI.out.ar.blk.cell 0; have d0 := HI.out.b3.cell 0
  simp only [List.getElem?_cons_zero, List.getElem?_cons_succ] at cf ck d0
  rw [hff] at cf
  clear hg1 hff
  have e1 : decide ((8 : Int) < (deep : Int)) = false := decide_eq_false (by omega)
  have e3 : decide ((64 : Int) < (k : Int) + 1) = false := decide_eq_false (by omega)
  have e2 : decide ((64 : Int) < ((k + 1 : Nat) : Int)) = false := decide_eq_false (by omega)
  go_wp2_with fail
  refine (iwide_any top gr 1 (by omega) r1 hr1 HOK1.out W2 HI.out.ar.rd).mono ?_
  rintro e w3 ⟨rfl, h1, h2⟩
  have HI3 := Lib.hid (HI.out.step (HI.out.ar.read h1 h2 (ok_after HOK1.out 1)) h2.ar)
  have HOK2 := Lib.hid (ok_after HOK1.out 1)
  have hr2 := Nat.le_trans (after_len 1 r1) hr1
  clear h1 h2 cf ck d0 HI e1 e2 e3 HOK1
  have HFIL : Hid (filR r1 = if 1 < numR 1 r1 then none else if ofOk (numR 8 (after 1 r1)) then some (.mk (fileE (textR (after 8 (after 1 r1))) (decide (numR 1 r1 = 1)) (numR 8 (after 1 r1))) [], textA (after 8 (after 1 r1))) else none) := Lib.hid rfl
  have hnl : numR 1 r1 < 256 := numR_lt 1 r1
  generalize numR 1 r1 = rb at *
  generalize after 1 r1 = r2 at *
  go_wp2_with fail
  refine (iwide_any top gr 8 (by omega) r2 hr2 HOK2.out w3 HI3.out.ar.rd).mono ?_
  rintro e w4 ⟨rfl, h1, h2⟩
  have HI4 := Lib.hid (HI3.out.step (HI3.out.ar.read h1 h2 (ok_after HOK2.out 8)) h2.ar)
  have HOK3 := Lib.hid (ok_after HOK2.out 8)
  have hr3 := Nat.le_trans (after_len 8 r2) hr2
  have HSL : Hid (numR 8 r2 < 18446744073709551616) := numR_lt 8 r2
  clear h1 h2 HI3 HOK2
  generalize numR 8 r2 = stp at *
  generalize after 8 r2 = r3 at *
  go_wp2_with fail
  refine (rof_any stp HSL.out w4).mono ?_
  rintro e w5 ⟨rfl, rfl⟩
  go_wp2_with fail
  refine (itext_any top gr r3 hr3 HOK3.out w4 HI4.out.ar.rd).mono ?_
  rintro e w5 ⟨rfl, h1, h2⟩
  have HI5 := Lib.hid (HI4.out.step (HI4.out.ar.read h1 h2 (ok_textA HOK3.out)) h2.ar)
  have HTL : Hid ((textR r3).length ≤ 65536) := textR_len r3
  clear h1 h2 HI4 HOK3
  generalize textR r3 = tx at *
  generalize textA r3 = r4 at *
  obtain ⟨W6, cap, hcv, hb6, hs6, hby, hcap⟩ := conv_bytes tx w5
  have HI6 := Lib.hid (HI5.out.below hb6)
  have HBY := Lib.hid hby; have HS6 := Lib.hid hs6
  have hlt1 := HI5.out.b3.lt
  have HL5 : Hid (w.heap.size < w5.heap.size) := by have := HI5.out.lt; show _ < _; omega
  clear hb6 hby hs6 HI5
  have hrb : ((rb : Int) == 1) = decide (rb = 1) := by
    by_cases e : rb = 1
    · rw [e]; rfl
    · rw [decide_eq_false e, beq_eq_false_iff_ne]; omega
  have hsv : ofV stp < 18446744073709551616 := by unfold ofV; split; exact HSL.out; omega
  have c3 := HI6.out.b3.cell 3; have f3 := HI6.out.b3.frozen 3; have c4 := HI6.out.b3.cell 4; have f4 := HI6.out.b3.frozen 4; have c5 := HI6.out.b3.cell 5; have f5 := HI6.out.b3.frozen 5
  simp only [List.getElem?_cons_zero, List.getElem?_cons_succ] at c3 c4 c5
  have HI9 := Lib.hid (((HI6.out.set 4 (.bool (decide (rb = 1)))).set 5 (.float .f64 (ofV stp))).set 3 (.slice (some ⟨w5.heap.size, 0, none⟩) tx.length cap))
  have HO9 : Hid (Ok (((W6.setCell ⟨w1.heap.size, 4, none⟩ (.bool (decide (rb = 1)))).setCell ⟨w1.heap.size, 5, none⟩ (.float .f64 (ofV stp))).setCell ⟨w1.heap.size, 3, none⟩ (.slice (some ⟨w5.heap.size, 0, none⟩) tx.length cap)) (((W6.setCell ⟨w1.heap.size, 4, none⟩ (.bool (decide (rb = 1)))).setCell ⟨w1.heap.size, 5, none⟩ (.float .f64 (ofV stp))).setCell ⟨w1.heap.size, 3, none⟩ (.slice (some ⟨w5.heap.size, 0, none⟩) tx.length cap)).heap.size (.mk (fileHd (some ⟨w5.heap.size, 0, none⟩) cap tx (decide (rb = 1)) (ofV stp)) [])) := by
    refine ok_file _ _ _ _ _ (bytes_src (((HBY.out.same (Below.heap_setCell _ ⟨w1.heap.size, 4, none⟩ _ _ (by simp only; omega))).same (Below.heap_setCell _ ⟨w1.heap.size, 5, none⟩ _ _ (by simp only; omega))).same (Below.heap_setCell _ ⟨w1.heap.size, 3, none⟩ _ _ (by simp only; omega)))) (fun _ a ha => ?_) (fun h => by cases h) hcap (by have := HTL.out; unfold maxLen; omega) hsv
    cases ha
    have := HS6.out
    simp only [World.size_setCell]; show w5.heap.size < _; omega
  have HIN9 : Hid (InS (fun c => w.heap.size < c) (.mk (fileHd (some ⟨w5.heap.size, 0, none⟩) cap tx (decide (rb = 1)) (ofV stp)) [])) := inS_file _ _ _ _ _ _ (fun _ a ha => by cases ha; exact HL5.out)
  clear HI6 hsv
  go_upto_region 21 with fail
  generalize hrn : decide (rb = 1) = run at *
  generalize hW : ((W6.setCell ⟨w1.heap.size, 4, none⟩ (.bool run)).setCell ⟨w1.heap.size, 5, none⟩ (.float .f64 (ofV stp))).setCell ⟨w1.heap.size, 3, none⟩ (.slice (some ⟨w5.heap.size, 0, none⟩) tx.length cap) = W4 at *
  clear hW c3 f3 c4 f4 c5 f5 hcv hrb
  have HI4 := HI9
  clear HI9
  have d0 := HI4.out.b3.cell 0; have d1 := HI4.out.b3.cell 1; have d2 := HI4.out.b3.cell 2; have d3 := HI4.out.b3.cell 3; have d4 := HI4.out.b3.cell 4; have d5 := HI4.out.b3.cell 5; have d6 := HI4.out.b3.cell 6
  simp only [List.set_cons_zero, List.set_cons_succ, List.getElem?_cons_zero, List.getElem?_cons_succ] at d0 d1 d2 d3 d4 d5 d6
  have k0 := HI4.out.b2.cell 0; have k1 := HI4.out.b2.cell 1; have k2 := HI4.out.b2.cell 2; have k3 := HI4.out.b2.cell 3; have k4 := HI4.out.b2.cell 4; have k5 := HI4.out.b2.cell 5; have k6 := HI4.out.b2.cell 6
  have f0 := HI4.out.b2.frozen 0; have f1 := HI4.out.b2.frozen 1; have f2 := HI4.out.b2.frozen 2; have f3 := HI4.out.b2.frozen 3; have f4 := HI4.out.b2.frozen 4; have f5 := HI4.out.b2.frozen 5; have f6 := HI4.out.b2.frozen 6
  have hl6 := HI4.out.b2.lt; have hlt := HI4.out.lt
  simp only [List.getElem?_cons_zero, List.getElem?_cons_succ] at k0 k1 k2 k3 k4 k5 k6
  obtain ⟨A4, q4, hg4, -⟩ := HI4.out.ar.rd.ex
  have cf := hg4.cell 1
  simp only [List.getElem?_cons_zero, List.getElem?_cons_succ] at cf
  clear hg4
  by_cases hb : 1 < rb
  · have hb1 : decide ((1 : Int) < (rb : Int)) = true := decide_eq_true (by omega)
    have HN2 : Hid (nodeR (d + 1) k r = none) := by show _ = _; rw [HN.out, HFIL.out, if_pos hb]
    clear HN HFIL hb
    go_wp2_with fail
    exact rnode_false (fileHd (some ⟨w5.heap.size, 0, none⟩) cap tx run (ofV stp)) 0 rfl rfl HI4.out HN2.out
  have hb1 : decide ((1 : Int) < (rb : Int)) = false := decide_eq_false (by omega)
  cases ho : ofOk stp with
  | false =>
    have HN2 : Hid (nodeR (d + 1) k r = none) := by show _ = _; rw [HN.out, HFIL.out, if_neg hb, ho]; rfl
    have he : ofE stp = 2 := by unfold ofE; rw [ho]; rfl
    clear HN HFIL hb ho
    rw [he]
    go_wp2_with fail
    exact rnode_false (fileHd (some ⟨w5.heap.size, 0, none⟩) cap tx run (ofV stp)) 0 rfl rfl HI4.out HN2.out
  | true =>
  have hv : ofV stp = stp := by unfold ofV; rw [ho]; rfl
  have he : ofE stp = 0 := by unfold ofE; rw [ho]; rfl
  have HN2 : Hid (nodeR (d + 1) k r = if r4.f then none else some (.mk (fileE tx run (ofV stp)) [], k + 1, r4)) := by show _ = _; rw [HN.out, HFIL.out, if_neg hb, ho, hv, ← hrn]; rfl
  clear HN HFIL hb ho hv hrn
  rw [he]
  clear he
  generalize ofV stp = sv at *
  go_upto_region 25 with fail
  clear hb1
  have hlr' : gr ≠ w.heap.size := by have := HI4.out.lr; omega
  have HSET : Hid (∀ c, c ≠ w.heap.size → (set7 W4 w.heap.size (.int .u8 2) (.slice none 0 0) (.slice none 0 0) (.slice (some ⟨w5.heap.size, 0, none⟩) tx.length cap) (.bool run) (.float .f64 sv) (.string ⟨#[]⟩)).heap[c]? = W4.heap[c]?) := set7_other W4 w.heap.size _ _ _ _ _ _ _
  have q0 : W4.drew.cell? ⟨w1.heap.size, 0, none⟩ = some (.int .u8 2) ∧ W4.drew.cell? ⟨w1.heap.size, 1, none⟩ = some (.slice none 0 0) ∧ W4.drew.cell? ⟨w1.heap.size, 2, none⟩ = some (.slice none 0 0) ∧ W4.drew.cell? ⟨w1.heap.size, 3, none⟩ = some (.slice (some ⟨w5.heap.size, 0, none⟩) tx.length cap) ∧ W4.drew.cell? ⟨w1.heap.size, 4, none⟩ = some (.bool run) ∧ W4.drew.cell? ⟨w1.heap.size, 5, none⟩ = some (.float .f64 sv) ∧ W4.drew.cell? ⟨w1.heap.size, 6, none⟩ = some (.string ⟨#[]⟩) ∧ W4.drew.cell? ⟨gr, 1, none⟩ = some (.bool r4.f) := ⟨d0, d1, d2, d3, d4, d5, d6, cf⟩
  have q1 : (set7 W4 w.heap.size (.int .u8 2) (.slice none 0 0) (.slice none 0 0) (.slice (some ⟨w5.heap.size, 0, none⟩) tx.length cap) (.bool run) (.float .f64 sv) (.string ⟨#[]⟩)).drew.cell? ⟨w1.heap.size, 0, none⟩ = some (.int .u8 2) ∧ (set7 W4 w.heap.size (.int .u8 2) (.slice none 0 0) (.slice none 0 0) (.slice (some ⟨w5.heap.size, 0, none⟩) tx.length cap) (.bool run) (.float .f64 sv) (.string ⟨#[]⟩)).drew.cell? ⟨w1.heap.size, 1, none⟩ = some (.slice none 0 0) ∧ (set7 W4 w.heap.size (.int .u8 2) (.slice none 0 0) (.slice none 0 0) (.slice (some ⟨w5.heap.size, 0, none⟩) tx.length cap) (.bool run) (.float .f64 sv) (.string ⟨#[]⟩)).drew.cell? ⟨w1.heap.size, 2, none⟩ = some (.slice none 0 0) ∧ (set7 W4 w.heap.size (.int .u8 2) (.slice none 0 0) (.slice none 0 0) (.slice (some ⟨w5.heap.size, 0, none⟩) tx.length cap) (.bool run) (.float .f64 sv) (.string ⟨#[]⟩)).drew.cell? ⟨w1.heap.size, 3, none⟩ = some (.slice (some ⟨w5.heap.size, 0, none⟩) tx.length cap) ∧ (set7 W4 w.heap.size (.int .u8 2) (.slice none 0 0) (.slice none 0 0) (.slice (some ⟨w5.heap.size, 0, none⟩) tx.length cap) (.bool run) (.float .f64 sv) (.string ⟨#[]⟩)).drew.cell? ⟨w1.heap.size, 4, none⟩ = some (.bool run) ∧ (set7 W4 w.heap.size (.int .u8 2) (.slice none 0 0) (.slice none 0 0) (.slice (some ⟨w5.heap.size, 0, none⟩) tx.length cap) (.bool run) (.float .f64 sv) (.string ⟨#[]⟩)).drew.cell? ⟨w1.heap.size, 5, none⟩ = some (.float .f64 sv) ∧ (set7 W4 w.heap.size (.int .u8 2) (.slice none 0 0) (.slice none 0 0) (.slice (some ⟨w5.heap.size, 0, none⟩) tx.length cap) (.bool run) (.float .f64 sv) (.string ⟨#[]⟩)).drew.cell? ⟨w1.heap.size, 6, none⟩ = some (.string ⟨#[]⟩) ∧ (set7 W4 w.heap.size (.int .u8 2) (.slice none 0 0) (.slice none 0 0) (.slice (some ⟨w5.heap.size, 0, none⟩) tx.length cap) (.bool run) (.float .f64 sv) (.string ⟨#[]⟩)).drew.cell? ⟨gr, 1, none⟩ = some (.bool r4.f) := by
    have hg : w1.heap.size ≠ w.heap.size := by omega
    exact ⟨(cells_kept HSET.out hg).trans d0, (cells_kept HSET.out hg).trans d1, (cells_kept HSET.out hg).trans d2, (cells_kept HSET.out hg).trans d3, (cells_kept HSET.out hg).trans d4, (cells_kept HSET.out hg).trans d5, (cells_kept HSET.out hg).trans d6, (cells_kept HSET.out hlr').trans cf⟩
  go_region_held3 (fun W' => W'.cell? ⟨w1.heap.size, 0, none⟩ = some (.int .u8 2) ∧ W'.cell? ⟨w1.heap.size, 1, none⟩ = some (.slice none 0 0) ∧ W'.cell? ⟨w1.heap.size, 2, none⟩ = some (.slice none 0 0) ∧ W'.cell? ⟨w1.heap.size, 3, none⟩ = some (.slice (some ⟨w5.heap.size, 0, none⟩) tx.length cap) ∧ W'.cell? ⟨w1.heap.size, 4, none⟩ = some (.bool run) ∧ W'.cell? ⟨w1.heap.size, 5, none⟩ = some (.float .f64 sv) ∧ W'.cell? ⟨w1.heap.size, 6, none⟩ = some (.string ⟨#[]⟩) ∧ W'.cell? ⟨gr, 1, none⟩ = some (.bool r4.f))
    (first | with_reducible exact q0 | with_reducible exact q1 | go_keep)
    (fail)
  all_goals
    clear d0 d1 d2 d3 d4 d5 d6 k0 k1 k2 k3 k4 k5 k6 f0 f1 f2 f3 f4 f5 f6 cf q0 q1
    go_wp2_with fail
    exact rnode_end (fileHd (some ⟨w5.heap.size, 0, none⟩) cap tx run sv) [] rfl rfl HI4.out HO9.out HIN9.out HN2.out
end Go.Proofs.Ytlehgacbcacokaa
