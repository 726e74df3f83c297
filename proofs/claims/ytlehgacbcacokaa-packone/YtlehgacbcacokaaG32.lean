/- The contract of pack.Read. -/
import Derived.Test.YtlehgacbcacokaaG30
import Derived.Test.YtlehgacbcacokaaG31
import Derived.Test.YtlehgacbcacokaaG12
import Derived.Test.YtlehgacbcacokaaG15
import Derived.Deep.DeepCutAuto
namespace Go.Proofs.Ytlehgacbcacokaa
open Go.RowKit TreeMath RealMath WireMath PackMath

/-- what Read comes to -/
def ReadPost (p : List By) (w : World) (e : Ending) (w' : World) : Prop := Below w.heap.size w w' ∧
  match readP rightB p with
  | none => e = .returned (.tuple #[nv zero 0, .int .i64 2])
  | some t => ∃ z lz, e = .returned (.tuple #[nv z lz.length, .int .i64 0]) ∧ erase (.mk z lz) = t ∧ Ok w' w'.heap.size (.mk z lz) ∧ InS (fun c => w.heap.size ≤ c) (.mk z lz)
set_option maxHeartbeats 1000000 in
set_option maxRecDepth 100000 in
/-- the door, where the body has given up -/
theorem read_gave {p : List By} {w W : World} {tmps : Array Value} (h2 : tmps[2]? = some (.pointer (some ⟨w.heap.size, 0, none⟩))) (h3 : tmps[3]? = some (.pointer (some ⟨w.heap.size + 1, 0, none⟩))) (cs : List Value) (hl : cs.length = 7) (v : Value)
    (b1 : Blk W w.heap.size 27 cs) (b2 : Blk W (w.heap.size + 1) 51 [v]) (hb : Below w.heap.size w W) (hr : readP rightB p = none) :
    bodyPostD Try.prog Try.f40 (ReadPost p w) (.panic [{ v := .iface 51 (.int .i64 2), recovered := false }]) { tmps := tmps, defers := [{ target := .fn (.func 71) #[.pointer (some ⟨w.heap.size, 0, none⟩), .pointer (some ⟨w.heap.size + 1, 0, none⟩)], args := #[] }] } W := by
  refine leaves_cons (f := 71) (args := #[.pointer (some ⟨w.heap.size, 0, none⟩), .pointer (some ⟨w.heap.size + 1, 0, none⟩)]) (by simp) (by simp [go_sem]) ?_
  refine (catch_panic w.heap.size (w.heap.size + 1) W cs hl v b1 b2 (by omega)).mono ?_
  rintro e u' w'' ⟨rfl, rfl, rfl⟩
  have k := (set7_blk b1 hl (.int .u8 0) (.slice none 0 0) (.slice none 0 0) (.slice none 0 0) (.bool false) (.float .f64 0) (.string ⟨#[]⟩)).other (p := ⟨w.heap.size + 1, 0, none⟩) (by show w.heap.size ≠ w.heap.size + 1; omega) (.int .i64 2)
  have b2' : Blk (set7 W w.heap.size (.int .u8 0) (.slice none 0 0) (.slice none 0 0) (.slice none 0 0) (.bool false) (.float .f64 0) (.string ⟨#[]⟩)) (w.heap.size + 1) 51 [v] := by
    unfold Blk; rw [set7_other _ _ _ _ _ _ _ _ _ _ (by omega)]; exact b2
  have k2 := b2'.set 0 (.int .i64 2)
  have hbe := (set7_below hb w.heap.size (Nat.le_refl _) (.int .u8 0) (.slice none 0 0) (.slice none 0 0) (.slice none 0 0) (.bool false) (.float .f64 0) (.string ⟨#[]⟩)).setCell (p := ⟨w.heap.size + 1, 0, none⟩) (by show w.heap.size ≤ w.heap.size + 1; omega) (.int .i64 2)
  generalize (set7 W w.heap.size (.int .u8 0) (.slice none 0 0) (.slice none 0 0) (.slice none 0 0) (.bool false) (.float .f64 0) (.string ⟨#[]⟩)).setCell ⟨w.heap.size + 1, 0, none⟩ (.int .i64 2) = W9 at *
  have e0 := k.cell 0; have e1 := k.cell 1; have e2 := k.cell 2; have e3 := k.cell 3; have e4 := k.cell 4; have e5 := k.cell 5; have e6 := k.cell 6
  have z0 := k2.cell 0
  simp only [List.getElem?_cons_zero, List.getElem?_cons_succ, List.set_cons_zero] at e0 e1 e2 e3 e4 e5 e6 z0
  have hP : ReadPost p w (.returned (.tuple #[nv zero 0, .int .i64 2])) W9 := ⟨hbe, by rw [hr]⟩
  have HP := Lib.hid hP
  clear hP
  refine ⟨.tuple #[nv zero 0, .int .i64 2], ?_, HP.out⟩
  simp [results, Try.results40, go_sem, h2, h3, e0, e1, e2, e3, e4, e5, e6, z0]
  exact ⟨rfl, ⟨rfl, rfl, rfl⟩, ⟨rfl, rfl⟩, ⟨rfl, rfl, rfl⟩, rfl, rfl, rfl⟩
/-- while it is read -/
structure RIn (w : World) (ga gr k : Nat) (r : Rd) (cs : List Value) (W : World) : Prop where
  ar : ArIs W gr ga gr k r
  b1 : Blk W w.heap.size 27 cs
  b2 : Blk W (w.heap.size + 1) 51 [.int .i64 0]
  below : Below w.heap.size w W
  la : w.heap.size + 1 < ga
  lr : w.heap.size + 1 < gr
theorem RIn.step {w W W' : World} {ga gr k k' : Nat} {r r' : Rd} {cs : List Value} (h : RIn w ga gr k r cs W) (ha : ArIs W' gr ga gr k' r') (ht : Turned (ArSet ga gr) (ArSet ga gr) W W') : RIn w ga gr k' r' cs W' := by
  have h1 := h.la; have h2 := h.lr; have h3 := h.b1.lt
  exact ⟨ha, ht.blk h.b1 (fun e => by rcases e with e | e <;> omega), ht.blk h.b2 (fun e => by rcases e with e | e <;> omega), h.below.trans (ht.below (fun c e => by rcases e with e | e <;> omega) (by omega)), h1, h2⟩
/-- what is left of it behind the node -/
structure RIn2 (w : World) (ga gr : Nat) (r : Rd) (cs : List Value) (W : World) : Prop where
  ab : ∃ v, Blk W ga 91 [.pointer (some ⟨gr, 0, none⟩), v]
  rb : ∃ A c, Blk W gr 111 [.slice A r.p.length c, .bool r.f]
  b1 : Blk W w.heap.size 27 cs
  b2 : Blk W (w.heap.size + 1) 51 [.int .i64 0]
  below : Below w.heap.size w W
theorem RIn2.keep {w W W' : World} {ga gr : Nat} {r : Rd} {cs : List Value} (h : RIn2 w ga gr r cs W) (hb : Below W.heap.size W W') : RIn2 w ga gr r cs W' := by
  obtain ⟨v, hv⟩ := h.ab
  obtain ⟨A, c, hg⟩ := h.rb
  exact ⟨⟨v, hv.below hb hv.lt⟩, ⟨A, c, hg.below hb hg.lt⟩, h.b1.below hb h.b1.lt, h.b2.below hb h.b2.lt, h.below.trans (hb.mono (by have := h.b1.lt; omega))⟩
/-- the node is laid into the result -/
theorem RIn.lay {w W : World} {ga gr k : Nat} {r : Rd} {z : Hd} {lz : List T} (h : RIn w ga gr k r zero7 W) (hok : Ok W W.heap.size (.mk z lz)) (hin : InS (fun c => w.heap.size + 1 < c) (.mk z lz)) :
    RIn2 w ga gr r (cellsOf z lz.length) (set7 W w.heap.size (vb z.kind) (.slice z.na z.names.length z.nc) (.slice z.ka lz.length z.kc) (.slice z.da z.data.length z.dc) (.bool z.run) (.float .f64 z.stamp) (vs z.target)) ∧
    Ok (set7 W w.heap.size (vb z.kind) (.slice z.na z.names.length z.nc) (.slice z.ka lz.length z.kc) (.slice z.da z.data.length z.dc) (.bool z.run) (.float .f64 z.stamp) (vs z.target)) (set7 W w.heap.size (vb z.kind) (.slice z.na z.names.length z.nc) (.slice z.ka lz.length z.kc) (.slice z.da z.data.length z.dc) (.bool z.run) (.float .f64 z.stamp) (vs z.target)).heap.size (.mk z lz) ∧ InS (fun c => w.heap.size + 1 < c) (.mk z lz) := by
  have h1 := h.la; have h2 := h.lr
  have hoth := set7_other W w.heap.size (vb z.kind) (.slice z.na z.names.length z.nc) (.slice z.ka lz.length z.kc) (.slice z.da z.data.length z.dc) (.bool z.run) (.float .f64 z.stamp) (vs z.target)
  have hsz := set7_size W w.heap.size (vb z.kind) (.slice z.na z.names.length z.nc) (.slice z.ka lz.length z.kc) (.slice z.da z.data.length z.dc) (.bool z.run) (.float .f64 z.stamp) (vs z.target)
  have hbe := set7_below (Below.refl w.heap.size W) w.heap.size (Nat.le_refl _) (vb z.kind) (.slice z.na z.names.length z.nc) (.slice z.ka lz.length z.kc) (.slice z.da z.data.length z.dc) (.bool z.run) (.float .f64 z.stamp) (vs z.target)
  have hbk := set7_blk h.b1 rfl (vb z.kind) (.slice z.na z.names.length z.nc) (.slice z.ka lz.length z.kc) (.slice z.da z.data.length z.dc) (.bool z.run) (.float .f64 z.stamp) (vs z.target)
  generalize set7 W w.heap.size (vb z.kind) (.slice z.na z.names.length z.nc) (.slice z.ka lz.length z.kc) (.slice z.da z.data.length z.dc) (.bool z.run) (.float .f64 z.stamp) (vs z.target) = W6 at *
  obtain ⟨A, c, hg, -⟩ := h.ar.rd.ex
  refine ⟨⟨⟨.int .i64 k, ?_⟩, ⟨A, c, ?_⟩, hbk, ?_, h.below.trans hbe⟩, hok.turn hin (fun c hc _ => hoth c (by omega)) (fun _ _ hl => by rw [hsz]; exact hl), hin⟩
  · unfold Blk; rw [hoth _ (by omega)]; exact h.ar.blk
  · unfold Blk; rw [hoth _ (by omega)]; exact hg
  · unfold Blk; rw [hoth _ (by omega)]; exact h.b2
theorem left_blk (g n c : Nat) (A : Option Addr) (v : Value) (w : World) (hblk : Blk w g 111 [.slice A n c, v]) :
    Calls Try.prog 102 #[.pointer (some ⟨g, 0, none⟩)] w fun e w' => e = .returned (.int .i64 n) ∧ w = w' := by
  have c0 := hblk.cell 0
  simp only [List.getElem?_cons_zero] at c0
  clear hblk
  go_enter Try.func102, Try.ntmps102
  go_wp2_with fail
  go_ret
  exact ⟨rfl, rfl⟩
theorem ok_blk (g : Nat) (f : Bool) (v : Value) (w : World) (hblk : Blk w g 111 [v, .bool f]) :
    Calls Try.prog 101 #[.pointer (some ⟨g, 0, none⟩)] w fun e w' => e = .returned (.bool !f) ∧ w = w' := by
  have c1 := hblk.cell 1
  simp only [List.getElem?_cons_zero, List.getElem?_cons_succ] at c1
  clear hblk
  go_enter Try.func101, Try.ntmps101
  go_wp2_with fail
  go_ret
  exact ⟨rfl, rfl⟩
set_option maxHeartbeats 1000000 in
theorem end_blk (g c : Nat) (A : Option Addr) (r : Rd) (w : World) (hblk : Blk w g 111 [.slice A r.p.length c, .bool r.f]) :
    Calls Try.prog 77 #[.pointer (some ⟨g, 0, none⟩)] w fun e w' => e = .returned (.int .i64 (endR r)) ∧ w = w' := by
  have H := Lib.hid hblk; clear hblk
  cases hf : r.f with
  | true =>
    have HE : Hid (endR r = 2) := by show _ = _; simp [endR, hf]
    go_enter Try.func77, Try.ntmps77
    go_wp2_with fail
    refine (ok_blk g r.f _ w H.out).mono ?_
    rintro e w1 ⟨rfl, rfl⟩
    go_wp2_with fail
    go_ret
    exact ⟨ret_int HE.out.symm, rfl⟩
  | false =>
    by_cases hl : 0 < r.p.length
    · have HE : Hid (endR r = 2) := by show _ = _; simp [endR, hf, hl]
      have hl' : (0 : Int) < r.p.length := by omega
      go_enter Try.func77, Try.ntmps77
      go_wp2_with fail
      refine (ok_blk g r.f _ w H.out).mono ?_
      rintro e w1 ⟨rfl, rfl⟩
      go_wp2_with fail
      refine (left_blk g _ _ _ _ w H.out).mono ?_
      rintro e w1 ⟨rfl, rfl⟩
      go_wp2_with fail
      go_ret
      exact ⟨ret_int HE.out.symm, rfl⟩
    · have HE : Hid (endR r = 0) := by show _ = _; simp [endR, hf, hl]
      have hl' : ¬ (0 : Int) < r.p.length := by omega
      go_enter Try.func77, Try.ntmps77
      go_wp2_with fail
      refine (ok_blk g r.f _ w H.out).mono ?_
      rintro e w1 ⟨rfl, rfl⟩
      go_wp2_with fail
      refine (left_blk g _ _ _ _ w H.out).mono ?_
      rintro e w1 ⟨rfl, rfl⟩
      go_wp2_with fail
      go_ret
      exact ⟨ret_int HE.out.symm, rfl⟩
theorem RIn2.close {w W : World} {ga gr : Nat} {r : Rd} {z : Hd} {lz : List T} (h : RIn2 w ga gr r (cellsOf z lz.length) W) (hok : Ok W W.heap.size (.mk z lz)) (hin : InS (fun c => w.heap.size + 1 < c) (.mk z lz)) :
    Blk ((set7 W w.heap.size (vb z.kind) (.slice z.na z.names.length z.nc) (.slice z.ka lz.length z.kc) (.slice z.da z.data.length z.dc) (.bool z.run) (.float .f64 z.stamp) (vs z.target)).setCell ⟨w.heap.size + 1, 0, none⟩ (.int .i64 0)) w.heap.size 27 (cellsOf z lz.length) ∧
    Blk ((set7 W w.heap.size (vb z.kind) (.slice z.na z.names.length z.nc) (.slice z.ka lz.length z.kc) (.slice z.da z.data.length z.dc) (.bool z.run) (.float .f64 z.stamp) (vs z.target)).setCell ⟨w.heap.size + 1, 0, none⟩ (.int .i64 0)) (w.heap.size + 1) 51 [.int .i64 0] ∧
    Below w.heap.size w ((set7 W w.heap.size (vb z.kind) (.slice z.na z.names.length z.nc) (.slice z.ka lz.length z.kc) (.slice z.da z.data.length z.dc) (.bool z.run) (.float .f64 z.stamp) (vs z.target)).setCell ⟨w.heap.size + 1, 0, none⟩ (.int .i64 0)) ∧
    Ok ((set7 W w.heap.size (vb z.kind) (.slice z.na z.names.length z.nc) (.slice z.ka lz.length z.kc) (.slice z.da z.data.length z.dc) (.bool z.run) (.float .f64 z.stamp) (vs z.target)).setCell ⟨w.heap.size + 1, 0, none⟩ (.int .i64 0)) ((set7 W w.heap.size (vb z.kind) (.slice z.na z.names.length z.nc) (.slice z.ka lz.length z.kc) (.slice z.da z.data.length z.dc) (.bool z.run) (.float .f64 z.stamp) (vs z.target)).setCell ⟨w.heap.size + 1, 0, none⟩ (.int .i64 0)).heap.size (.mk z lz) := by
  have hoth := set7_other W w.heap.size (vb z.kind) (.slice z.na z.names.length z.nc) (.slice z.ka lz.length z.kc) (.slice z.da z.data.length z.dc) (.bool z.run) (.float .f64 z.stamp) (vs z.target)
  have hsz := set7_size W w.heap.size (vb z.kind) (.slice z.na z.names.length z.nc) (.slice z.ka lz.length z.kc) (.slice z.da z.data.length z.dc) (.bool z.run) (.float .f64 z.stamp) (vs z.target)
  have hbe := set7_below h.below w.heap.size (Nat.le_refl _) (vb z.kind) (.slice z.na z.names.length z.nc) (.slice z.ka lz.length z.kc) (.slice z.da z.data.length z.dc) (.bool z.run) (.float .f64 z.stamp) (vs z.target)
  have hbk := set7_blk h.b1 rfl (vb z.kind) (.slice z.na z.names.length z.nc) (.slice z.ka lz.length z.kc) (.slice z.da z.data.length z.dc) (.bool z.run) (.float .f64 z.stamp) (vs z.target)
  generalize set7 W w.heap.size (vb z.kind) (.slice z.na z.names.length z.nc) (.slice z.ka lz.length z.kc) (.slice z.da z.data.length z.dc) (.bool z.run) (.float .f64 z.stamp) (vs z.target) = W6 at *
  have hb2 : Blk W6 (w.heap.size + 1) 51 [.int .i64 0] := by unfold Blk; rw [hoth _ (by omega)]; exact h.b2
  refine ⟨hbk.other (by show w.heap.size ≠ w.heap.size + 1; omega) _, by have := hb2.set 0 (.int .i64 0); exact this, hbe.setCell (by show w.heap.size ≤ w.heap.size + 1; omega) _, ?_⟩
  exact hok.turn hin (fun c hc _ => by rw [Below.heap_setCell W6 ⟨w.heap.size + 1, 0, none⟩ _ c (by simp only; omega)]; exact hoth c (by omega)) (fun _ _ hl => by rw [World.size_setCell, hsz]; exact hl)
set_option maxHeartbeats 1000000 in
set_option maxRecDepth 100000 in
/-- the door, where the body has come to its end -/
theorem read_door {p : List By} {w W : World} {tmps : Array Value} (h2 : tmps[2]? = some (.pointer (some ⟨w.heap.size, 0, none⟩))) (h3 : tmps[3]? = some (.pointer (some ⟨w.heap.size + 1, 0, none⟩))) (z : Hd) (lz : List T)
    (b1 : Blk W w.heap.size 27 (cellsOf z lz.length)) (b2 : Blk W (w.heap.size + 1) 51 [.int .i64 0]) (hP : ReadPost p w (.returned (.tuple #[nv z lz.length, .int .i64 0])) W) :
    bodyPostD Try.prog Try.f40 (ReadPost p w) .ret { tmps := tmps, defers := [{ target := .fn (.func 71) #[.pointer (some ⟨w.heap.size, 0, none⟩), .pointer (some ⟨w.heap.size + 1, 0, none⟩)], args := #[] }] } W := by
  refine leaves_cons (f := 71) (args := #[.pointer (some ⟨w.heap.size, 0, none⟩), .pointer (some ⟨w.heap.size + 1, 0, none⟩)]) (by simp) (by simp [go_sem]) ?_
  refine (catch_idle _ _ W).mono ?_
  rintro e u' w'' ⟨rfl, rfl, rfl⟩
  have e0 := b1.cell 0; have e1 := b1.cell 1; have e2 := b1.cell 2; have e3 := b1.cell 3; have e4 := b1.cell 4; have e5 := b1.cell 5; have e6 := b1.cell 6
  have z0 := b2.cell 0
  simp only [cellsOf, List.getElem?_cons_zero, List.getElem?_cons_succ] at e0 e1 e2 e3 e4 e5 e6 z0
  have HP := Lib.hid hP
  clear hP
  refine ⟨.tuple #[nv z lz.length, .int .i64 0], ?_, HP.out⟩
  simp [results, Try.results40, go_sem, h2, h3, e0, e1, e2, e3, e4, e5, e6, z0]
theorem right_erase (t : T) : rightB (erase t) = rightB t := by
  unfold rightB; rw [count_erase, depth_erase, all_erase, List.all_map]
  congr 1
  exact congrArg (fun f => (all t).all f) (funext fun k => fits_erase k)
set_option maxHeartbeats 4000000 in
set_option maxRecDepth 100000 in
theorem read_any (A : Option Addr) (c : Nat) (p : List By) (hl : p.length ≤ 1000000) (hN : A = none → c = 0) (w : World) (hA : SrcIs w A p) :
    Calls Try.prog 40 #[.slice A p.length c] w (ReadPost p w) := by
  have hmf : ∀ (fn : Fn) (first cap : Array Value) (w : World), (Instr.makeFunc fn first cap).run Try.prog w = .ok (.func fn first cap) w := fun _ _ _ _ => rfl
  have HA := Lib.hid hA; have HN := Lib.hid hN
  clear hA hN
  go_enter_defers Try.func40, Try.ntmps40
  go_wp2_with fail
  have hB : Below w.heap.size w ((w.alloc (.cells zero7.toArray 27)).alloc (.cells #[.int .i64 0] 51)) := ((Below.refl _ _).alloc (Nat.le_refl _) _).alloc (by simp) _
  have b1 : Blk ((w.alloc (.cells zero7.toArray 27)).alloc (.cells #[.int .i64 0] 51)) w.heap.size 27 zero7 := (Blk.new w 27 zero7.toArray).alloc _
  have b2 := Blk.new (w.alloc (.cells zero7.toArray 27)) 51 #[.int .i64 0]
  rw [World.size_alloc] at b2
  have hz : ((w.alloc (.cells zero7.toArray 27)).alloc (.cells #[.int .i64 0] 51)).heap.size = w.heap.size + 2 := by simp
  refine (reader_any A c p hl HN.out _ (HA.out.below hB)).mono ?_
  rintro e w1 ⟨gr, rfl, hg, hrd, hb1⟩
  have HR0 : Hid (RIn w w1.heap.size gr 0 ⟨p, false⟩ zero7 (w1.alloc (.cells #[.pointer (some ⟨gr, 0, none⟩), .int .i64 0] 91))) := by
    rw [hz] at hg hb1
    have hb2 : Below w1.heap.size w1 (w1.alloc (.cells #[.pointer (some ⟨gr, 0, none⟩), .int .i64 0] 91)) := (Below.refl _ _).alloc (Nat.le_refl _) _
    obtain ⟨A1, c1, hblk, -⟩ := hrd.ex
    have hgl := hblk.lt
    have hs1 := hb1.size
    rw [hz] at hs1
    refine ⟨⟨Blk.new w1 91 _, hrd.below hb2 hgl, by omega, by omega⟩, (b1.below hb1 (by omega)).below hb2 (by omega), (b2.below hb1 (by omega)).below hb2 (by omega), ?_, by omega, by omega⟩
    exact (hB.trans (hb1.mono (by omega))).trans (hb2.mono (by omega))
  clear hB b1 b2 hz hg hrd hb1 HA HN
  go_upto_region 3 with fail
  generalize hW : w1.alloc (.cells #[.pointer (some ⟨gr, 0, none⟩), .int .i64 0] 91) = W2 at *
  clear hW
  have c0 := HR0.out.ar.blk.cell 0
  simp only [List.getElem?_cons_zero] at c0
  go_wp2_with fail
  refine (rtext_any gr gr ⟨p, false⟩ hl W2 HR0.out.ar.rd).mono ?_
  rintro e w3 ⟨rfl, h1, h2⟩
  have HR3 := Lib.hid (HR0.out.step (HR0.out.ar.read h1 h2) h2.ar)
  clear h1 h2 c0 HR0
  by_cases hm : textR ⟨p, false⟩ = magic
  · have hmb : (textR ⟨p, false⟩ == [103, 111, 100, 111, 119, 110, 49]) = true := by rw [list_beq]; exact decide_eq_true hm
    have HRP : Hid (readP rightB p = match nodeP 65 0 (textA ⟨p, false⟩) with | none => none | some (t, _, r) => if r.f || decide (0 < r.p.length) || !rightB t then none else some t) := by
      show _ = _; unfold readP; rw [if_pos hm]
      cases nodeP 65 0 (textA ⟨p, false⟩) <;> rfl
    clear hm
    have hr1 : (textA ⟨p, false⟩).p.length ≤ 1000000 := Nat.le_trans (Nat.le_trans (after_len _ _) (after_len _ _)) hl
    go_wp2_with fail
    refine (need_yes w3).mono ?_
    rintro e w4 ⟨rfl, rfl⟩
    clear hmb
    generalize textA ⟨p, false⟩ = r1 at *
    have HC : Hid (Calls Try.prog 75 #[.pointer (some ⟨w1.heap.size, 0, none⟩)] w3 (NodePost 65 w3 gr w1.heap.size gr 0 r1)) := node_of 65 gr w1.heap.size gr 0 r1 w3 hr1 (by omega) (by omega) HR3.out.ar.blk.lt (by obtain ⟨A, c, hg, -⟩ := HR3.out.ar.rd.ex; exact hg.lt) HR3.out.ar
    cases hnp : nodeP 65 0 r1 with
    | none =>
      have HNN : Hid (readP rightB p = none) := by show _ = _; rw [HRP.out, hnp]
      have HCN : Hid (Calls Try.prog 75 #[.pointer (some ⟨w1.heap.size, 0, none⟩)] w3 fun e w' => e = gave ∧ Turned (ArSet w1.heap.size gr) (ArSet w1.heap.size gr) w3 w') := HC.out.mono fun e w' h => by
        have h2 := h.2
        rw [hnp] at h2
        exact ⟨h2, h.1⟩
      clear hnp HC HRP
      go_wp2_with fail
      refine HCN.out.mono ?_
      rintro e w5 ⟨rfl, h5⟩
      have hla := HR3.out.la; have hlr := HR3.out.lr; have hlt := HR3.out.b1.lt
      have hb1 := h5.blk HR3.out.b1 (fun e => by rcases e with e | e <;> omega)
      have hb2 := h5.blk HR3.out.b2 (fun e => by rcases e with e | e <;> omega)
      have hbe := HR3.out.below.trans (h5.below (B := w.heap.size) (fun c e => by rcases e with e | e <;> omega) (by omega))
      have HB1 := Lib.hid hb1; have HB2 := Lib.hid hb2; have HBE := Lib.hid hbe
      clear hb1 hb2 hbe h5
      go_wp2_with fail
      exact read_gave rfl rfl zero7 rfl _ HB1.out HB2.out HBE.out HNN.out
    | some o =>
      obtain ⟨t, k2, r5⟩ := o
      have HCN : Hid (Calls Try.prog 75 #[.pointer (some ⟨w1.heap.size, 0, none⟩)] w3 fun e w' => ∃ z lz, e = .returned (nv z lz.length) ∧ erase (.mk z lz) = t ∧ Ok w' w'.heap.size (.mk z lz) ∧ InS (fun c => w3.heap.size ≤ c) (.mk z lz) ∧ ArIs w' gr w1.heap.size gr k2 r5 ∧ Turned (ArSet w1.heap.size gr) (ArSet w1.heap.size gr) w3 w') := HC.out.mono fun e w' h => by
        obtain ⟨h1, h2⟩ := h
        rw [hnp] at h2
        obtain ⟨z, lz, a1, a2, a3, a4, a5⟩ := h2
        exact ⟨z, lz, a1, a2, a3, a4, a5, h1⟩
      have HK2 := Lib.hid (nodeP_count 65 0 r1 _ hnp)
      have HRP2 : Hid (readP rightB p = if r5.f || decide (0 < r5.p.length) || !rightB t then none else some t) := by show _ = _; rw [HRP.out, hnp]
      clear hnp HC HRP
      go_wp2_with fail
      refine HCN.out.mono ?_
      rintro e w5 ⟨z, lz, rfl, h1, h2, h3, h4, h5⟩
      have HR5 := Lib.hid (HR3.out.step h4 h5)
      have HE := Lib.hid h1
      have hlt3 := HR3.out.b2.lt
      have HL := Lib.hid (RIn.lay HR5.out h2 (h3.mono (fun c hc => by show w.heap.size + 1 < c; omega)))
      have k0 := HR5.out.b1.cell 0; have k1 := HR5.out.b1.cell 1; have k2' := HR5.out.b1.cell 2; have k3 := HR5.out.b1.cell 3; have k4 := HR5.out.b1.cell 4; have k5 := HR5.out.b1.cell 5; have k6 := HR5.out.b1.cell 6
      have f0 := HR5.out.b1.frozen 0; have f1 := HR5.out.b1.frozen 1; have f2 := HR5.out.b1.frozen 2; have f3 := HR5.out.b1.frozen 3; have f4 := HR5.out.b1.frozen 4; have f5 := HR5.out.b1.frozen 5; have f6 := HR5.out.b1.frozen 6
      have hl6 := HR5.out.b1.lt
      simp only [List.getElem?_cons_zero, List.getElem?_cons_succ] at k0 k1 k2' k3 k4 k5 k6
      clear h1 h2 h3 h4 h5 HR3 HCN
      go_upto_region 5 with fail
      change Code.wp _ _ _ _ (set7 w5 w.heap.size (vb z.kind) (.slice z.na z.names.length z.nc) (.slice z.ka lz.length z.kc) (.slice z.da z.data.length z.dc) (.bool z.run) (.float .f64 z.stamp) (vs z.target))
      clear k0 k1 k2' k3 k4 k5 k6 f0 f1 f2 f3 f4 f5 f6 hl6 HR5
      generalize set7 w5 w.heap.size (vb z.kind) (.slice z.na z.names.length z.nc) (.slice z.ka lz.length z.kc) (.slice z.da z.data.length z.dc) (.bool z.run) (.float .f64 z.stamp) (vs z.target) = W6 at *
      obtain ⟨hR6, hok6, hin6⟩ := HL.out
      have HR6 := Lib.hid hR6; have HO6 := Lib.hid hok6; have HI6 := Lib.hid hin6
      obtain ⟨v6, hv6⟩ := hR6.ab
      obtain ⟨A6, q6, hg6⟩ := hR6.rb
      have c0 := hv6.cell 0
      have HG6 := Lib.hid hg6
      simp only [List.getElem?_cons_zero] at c0
      clear hR6 hok6 hin6 HL hv6 hg6
      go_wp2_with fail
      refine (end_blk gr q6 A6 r5 W6 HG6.out).mono ?_
      rintro e w7 ⟨rfl, rfl⟩
      by_cases hend : (r5.f || decide (0 < r5.p.length)) = true
      · have he : endR r5 = 2 := by unfold endR; rw [if_pos hend]
        have HNN : Hid (readP rightB p = none) := by show _ = _; rw [HRP2.out, hend]; rfl
        rw [he]
        clear he hend HRP2
        go_wp2_with fail
        refine (keep_no W6).mono ?_
        rintro e w7 ⟨rfl, rfl⟩
        go_wp2_with fail
        exact read_gave rfl rfl _ rfl _ HR6.out.b1 HR6.out.b2 HR6.out.below HNN.out
      · have hend' : (r5.f || decide (0 < r5.p.length)) = false := by simpa using hend
        have he : endR r5 = 0 := by unfold endR; rw [if_neg hend]
        have HRP3 : Hid (readP rightB p = if rightB t then some t else none) := by show _ = _; rw [HRP2.out, hend']; cases rightB t <;> rfl
        rw [he]
        clear he hend hend' HRP2
        go_wp2_with fail
        refine (keep_yes W6).mono ?_
        rintro e w7 ⟨rfl, rfl⟩
        clear c0
        have e0 := HR6.out.b1.cell 0; have e1 := HR6.out.b1.cell 1; have e2 := HR6.out.b1.cell 2; have e3 := HR6.out.b1.cell 3; have e4 := HR6.out.b1.cell 4; have e5 := HR6.out.b1.cell 5; have e6 := HR6.out.b1.cell 6
        simp only [cellsOf, List.getElem?_cons_zero, List.getElem?_cons_succ] at e0 e1 e2 e3 e4 e5 e6
        go_wp2_with fail
        clear e0 e1 e2 e3 e4 e5 e6
        have hcz : count (.mk z lz) ≤ 64 := by rw [← count_erase, HE.out]; have := HK2.out; omega
        refine (right_any z lz W6.heap.size W6 (Nat.le_refl _) HO6.out (by omega)).mono ?_
        rintro e w8 ⟨rfl, hb8⟩
        have HB8 := Lib.hid hb8
        have HRB : Hid (rightB (.mk z lz) = rightB t) := by show _ = _; rw [← HE.out, right_erase]
        clear hb8 hcz
        cases hrb : rightB (.mk z lz) with
        | false =>
          have HNN : Hid (readP rightB p = none) := by show _ = _; rw [HRP3.out, ← HRB.out, hrb]; rfl
          clear hrb HRP3 HRB
          go_wp2_with fail
          refine (need_no w8).mono ?_
          rintro e w9 ⟨rfl, rfl⟩
          go_wp2_with fail
          exact read_gave rfl rfl _ rfl _ (HR6.out.b1.below HB8.out HR6.out.b1.lt) (HR6.out.b2.below HB8.out HR6.out.b2.lt) (HR6.out.below.trans (HB8.out.mono (by have := HR6.out.below.size; omega))) HNN.out
        | true =>
          have HNN : Hid (readP rightB p = some t) := by show _ = _; rw [HRP3.out, ← HRB.out, hrb]; rfl
          clear hrb HRP3 HRB
          have HR8 := Lib.hid (HR6.out.keep HB8.out)
          have HO8 := Lib.hid ((HO6.out.keep HB8.out).up HB8.out.size)
          clear HR6 HO6
          go_wp2_with fail
          refine (need_yes w8).mono ?_
          rintro e w9 ⟨rfl, rfl⟩
          have e0 := HR8.out.b1.cell 0; have e1 := HR8.out.b1.cell 1; have e2 := HR8.out.b1.cell 2; have e3 := HR8.out.b1.cell 3; have e4 := HR8.out.b1.cell 4; have e5 := HR8.out.b1.cell 5; have e6 := HR8.out.b1.cell 6
          have f0 := HR8.out.b1.frozen 0; have f1 := HR8.out.b1.frozen 1; have f2 := HR8.out.b1.frozen 2; have f3 := HR8.out.b1.frozen 3; have f4 := HR8.out.b1.frozen 4; have f5 := HR8.out.b1.frozen 5; have f6 := HR8.out.b1.frozen 6
          have z0 := HR8.out.b2.cell 0; have y0 := HR8.out.b2.frozen 0
          simp only [cellsOf, List.getElem?_cons_zero, List.getElem?_cons_succ] at e0 e1 e2 e3 e4 e5 e6 z0
          have hl8 := HR8.out.b2.lt
          have HF := Lib.hid (RIn2.close HR8.out HO8.out HI6.out)
          go_wp2_with fail
          change bodyPostD _ _ _ _ _ ((set7 w8 w.heap.size (vb z.kind) (.slice z.na z.names.length z.nc) (.slice z.ka lz.length z.kc) (.slice z.da z.data.length z.dc) (.bool z.run) (.float .f64 z.stamp) (vs z.target)).setCell ⟨w.heap.size + 1, 0, none⟩ (.int .i64 0))
          obtain ⟨g1, g2, g3, g4⟩ := HF.out
          exact read_door rfl rfl z lz g1 g2 ⟨g3, by rw [HNN.out]; exact ⟨z, lz, rfl, HE.out, g4, HI6.out.mono (fun c hc => by omega)⟩⟩
  · have hmb : (textR ⟨p, false⟩ == [103, 111, 100, 111, 119, 110, 49]) = false := by rw [list_beq]; exact decide_eq_false hm
    have HNN : Hid (readP rightB p = none) := by show _ = _; unfold readP; rw [if_neg hm]
    clear hm
    go_wp2_with fail
    refine (need_no w3).mono ?_
    rintro e w4 ⟨rfl, rfl⟩
    clear hmb
    go_wp2_with fail
    exact read_gave rfl rfl zero7 rfl _ HR3.out.b1 HR3.out.b2 HR3.out.below HNN.out
end Go.Proofs.Ytlehgacbcacokaa

/- The contracts of the reference's Num and Text, and the walk of WireCut. -/
namespace Go.Proofs.Ytlehgacbcacokaa
open Go.RowKit BaseMath WireMath

theorem new_row (w : World) (l : List By) (n : Nat) (hn : l.length = n) (hm : n ≤ 1000000) : RowRel w 5 (l.map vb) (.slice (some ⟨w.heap.size, 0, .none⟩) n n) (w.alloc (.cells (l.map vb).toArray 5)) :=
  ⟨(Below.refl _ _).alloc (Nat.le_refl _) _, by simp, .inr ⟨w.heap.size, n, _, by simp [hn], Nat.le_refl _, Blk.new w 5 _, by simp; omega, by unfold maxLen; omega, by simp [hn], by rw [Nat.mul_one, List.length_map]; exact List.take_of_length_le (by simp)⟩⟩
theorem num_hi (n : Int) : IntKind.u64.wrap (((IntKind.u64.wrap n).tmod 65536).tdiv 256) % 256 = n / 256 % 256 := by
  rw [IntKind.wrap_u64 n, Int.tmod_eq_emod_of_nonneg (by omega), Int.tdiv_eq_ediv_of_nonneg (by omega), IntKind.wrap_u64]; omega
theorem num_lo (n : Int) : (IntKind.u64.wrap n).tmod 256 % 256 = n % 256 := by
  rw [IntKind.wrap_u64 n, Int.tmod_eq_emod_of_nonneg (by omega)]; omega
set_option maxHeartbeats 1000000 in
theorem rnum_any (n : Int) (w : World) :
    Calls Try.prog 79 #[.int .i64 n] w fun e w' => ∃ v, e = .returned v ∧ RowRel w 5 ((numB n).map vb) v w' := by
  have HR := Lib.hid (new_row w (numB n) 2 rfl (by decide))
  rw [numB_cells] at HR
  go_enter Try.func79, Try.ntmps79
  go_wp2_with fail
  go_ret
  refine ⟨_, rfl, ?_⟩
  rw [num_hi n, num_lo n]
  exact HR.out
set_option maxHeartbeats 1000000 in
theorem rtextb_any (s : List By) (hs : s.length ≤ 500000) (w : World) :
    Calls Try.prog 43 #[.string ⟨s.toArray⟩] w fun e w' => ∃ v, e = .returned v ∧ RowRel w 5 ((textB s).map vb) v w' := by
  go_enter Try.func43, Try.ntmps43
  go_wp2_with fail
  refine (rnum_any s.length w).mono ?_
  rintro e w1 ⟨v1, rfl, hr⟩
  obtain ⟨c, w2, hcv, hsrc, hb⟩ := str_bytes s w1
  have HS := Lib.hid hsrc
  have HR : Hid (RowRel w 5 ((numB s.length).map vb) v1 w2) := ⟨hr.below.trans (hb.mono hr.below.size), ownsRow_keep hr.own (fun k hk => hb.block k (hr.own.lt k hk).2)⟩
  clear hr hsrc hb
  have hsz := HR.out.below.size
  go_wp2_with (refine wpList_append_x rfl (.tmp 5) (.tmp 7) rfl w.heap.size v1 (numB s.length) rfl HR.out.own (some ⟨w1.heap.size, 0, none⟩) c s rfl (fun h => by cases h) HS.out (by rw [numB_length]; omega) hsz ?_)
  intro v3 w3 ho hg hk
  rw [← List.map_append, ← List.length_append] at ho
  have HR3 : Hid (RowRel w 5 ((textB s).map vb) v3 w3) := ⟨HR.out.below.grown hg hsz (fun k hk => (HR.out.own.lt k hk).1), by rw [List.length_map]; exact ho⟩
  clear ho hg hk HR HS
  go_wp2_with fail
  go_ret
  exact ⟨_, rfl, HR3.out⟩
end Go.Proofs.Ytlehgacbcacokaa
