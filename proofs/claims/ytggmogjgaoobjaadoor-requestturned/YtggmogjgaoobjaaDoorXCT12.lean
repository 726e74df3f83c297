/- The contract of each; those of Count, Depth, Size. -/
import Derived.Test.YtggmogjgaoobjaaDoorXCT11
import Derived.Shelf.Abstract
import Derived.Test.YtggmogjgaoobjaaDoorXCT10
import Derived.Test.YtggmogjgaoobjaaDoorXCT8
import Derived.Test.YtggmogjgaoobjaaDoorXCT9
import Derived.Deep.RegionHeld3
import Derived.Deep.CutBlock
import Derived.Test.YtggmogjgaoobjaaDoorXCT4
namespace Go.Proofs.YtggmogjgaoobjaaDoor
open Go.RowKit TreeMath RealMath

structure See0 (fn : Nat) (cp : Value) (top : Nat) {σ : Type} (step : σ → T → Nat → σ) (R : σ → World → Prop) (own : σ → Nat → Prop) : Prop where
  call : ∀ (s : σ) (x : Hd) (ks : List T) (d : Nat) (w : World), top ≤ w.heap.size → d ≤ 100000 → R s w → Ok w top (.mk x ks) →
    Calls Tryd.prog fn #[nv x ks.length, .int .i64 d, cp] w fun e w' => e = .returned (.tuple #[]) ∧ R (step s (.mk x ks) d) w' ∧ Turned (own s) (own (step s (.mk x ks) d)) w w'
  enters : ∀ (args : Array Value) (w : World), (callFunc fn args).run Tryd.prog w = .ok (.enter fn args) w
  keep : ∀ s w w', R s w → Below w.heap.size w w' → R s w'
  up : ∀ s c, own s c → top ≤ c
  lt : ∀ s w c, R s w → own s c → c < w.heap.size
def always {σ : Type} (step : σ → T → Nat → σ) (s : σ) (t : T) (d : Nat) : σ × Bool := (step s t d, true)
set_option maxRecDepth 100000 in
theorem runs_always {σ : Type} (step : σ → T → Nat → σ) : ∀ (s : σ) (l : List (T × Nat)), runs (always step) s l = (l.foldl (fun s p => step s p.1 p.2) s, true)
  | s, [] => rfl
  | s, (t, d) :: l => by rw [runs]; simp only [always, if_true, List.foldl_cons]; exact runs_always step _ l
end Go.Proofs.YtggmogjgaoobjaaDoor

/- The contracts of Count, Depth, Size: what is handed to each. -/
namespace Go.Proofs.YtggmogjgaoobjaaDoor
open Go.RowKit TreeMath RealMath

/-- a number in a variable of its own -/
def NumAt (g : Nat) (s : Int) (w : World) : Prop := Blk w g 3 [.int .i64 s]
set_option maxRecDepth 100000 in
theorem NumAt.set {g : Nat} {s : Int} {w : World} (h : NumAt g s w) (v : Int) : NumAt g v (w.setCell ⟨g, 0, none⟩ (.int .i64 v)) := by
  have := Blk.set h 0 (.int .i64 v)
  exact this
set_option maxRecDepth 100000 in
theorem turned_set {S : Nat → Prop} {w w1 : World} {g : Nat} (h : Below w.heap.size w w1) (hg : S g) (o : Nat) (v : Value) : Turned S S w (w1.setCell ⟨g, o, none⟩ v) :=
  ⟨h.os, h.tape, h.output, by rw [World.size_setCell]; exact h.size, fun c hc hn => by rw [Below.heap_setCell w1 ⟨g, o, none⟩ v c (fun e => hn (by simp only at e; rw [e]; exact hg))]; exact h.block c hc, fun _ h => Or.inl h⟩
set_option maxRecDepth 100000 in
theorem turned_sa {S : Nat → Prop} {w : World} {g : Nat} (hg : S g) (o : Nat) (v : Value) (ob : Obj) : Turned S S w ((w.setCell ⟨g, o, none⟩ v).alloc ob) :=
  (turned_set (Below.refl _ _) hg o v).trans (Turned.of_below ((Below.refl _ _).alloc (Nat.le_refl _) _))
set_option maxRecDepth 100000 in
theorem NumAt.sa {g : Nat} {s : Int} {w : World} (h : NumAt g s w) (v : Int) (ob : Obj) : NumAt g v ((w.setCell ⟨g, 0, none⟩ (.int .i64 v)).alloc ob) := Blk.alloc (h.set v) ob
set_option maxRecDepth 100000 in
theorem wrap_id {n : Int} (h1 : 0 ≤ n) (h2 : n ≤ 4611686018427387904) : wrap64 n = n := by unfold wrap64; omega
set_option maxRecDepth 100000 in
theorem fold_count : ∀ (l : List (T × Nat)) (s : Int), 0 ≤ s → s + l.length ≤ 4611686018427387904 → l.foldl (fun (s : Int) (_ : T × Nat) => wrap64 (s + 1)) s = s + l.length
  | [], s, _, _ => by simp
  | p :: l, s, h0, h => by
    simp only [List.length_cons] at h
    rw [List.foldl_cons, wrap_id (by omega) (by omega), fold_count l (s + 1) (by omega) (by omega)]; simp only [List.length_cons]; omega
set_option maxRecDepth 100000 in
theorem fold_depth : ∀ (l : List (T × Nat)) (s : Nat), l.foldl (fun (s : Int) (p : T × Nat) => if s < (p.2 : Int) then (p.2 : Int) else s) (s : Int) = (max s (most l) : Nat)
  | [], s => by simp [most]
  | p :: l, s => by
    rw [List.foldl_cons, most_cons, show (if (s : Int) < (p.2 : Int) then (p.2 : Int) else (s : Int)) = ((max s p.2 : Nat) : Int) by split <;> omega, fold_depth l (max s p.2)]
    congr 1; omega
def sizeL (l : List (T × Nat)) : Nat := (l.map fun p => p.1.hd.data.length).sum
set_option maxRecDepth 100000 in
theorem fold_size : ∀ (l : List (T × Nat)) (s : Int), 0 ≤ s → s + sizeL l ≤ 4611686018427387904 → l.foldl (fun (s : Int) (p : T × Nat) => wrap64 (s + (p.1.hd.data.length : Nat))) s = s + sizeL l
  | [], s, _, _ => by simp [sizeL]
  | p :: l, s, h0, h => by
    have e : sizeL (p :: l) = p.1.hd.data.length + sizeL l := by simp [sizeL]
    rw [e] at h ⊢
    rw [List.foldl_cons, wrap_id (by omega) (by omega), fold_size l _ (by omega) (by omega)]; omega
set_option maxRecDepth 100000 in
theorem size_eq (d : Nat) (t : T) : sizeL (pre d t) = size t := by
  unfold sizeL size; rw [← pre_fst d t, List.map_map]; rfl
end Go.Proofs.YtggmogjgaoobjaaDoor

/- The contract of fits. -/
namespace Go.Proofs.YtggmogjgaoobjaaDoor
open Go.RowKit TreeMath RealMath

end Go.Proofs.YtggmogjgaoobjaaDoor

/- The contracts of Depth, Size and Right. -/
namespace Go.Proofs.YtggmogjgaoobjaaDoor
open Go.RowKit TreeMath RealMath

/-- how many were shown, and whether to go on -/
def rightStep (s : Int) (t : T) (d : Nat) : Int × Bool := (wrap64 (s + 1), decide (wrap64 (s + 1) ≤ 64) && decide ((d : Int) ≤ 8) && fitsB t)
/-- may it be? -/
def rightB (t : T) : Bool := decide (count t ≤ 64) && decide (depth t ≤ 8) && (all t).all fitsB
set_option maxRecDepth 100000 in
theorem runs_right : ∀ (l : List (T × Nat)) (s : Nat), s ≤ 64 → (runs rightStep (s : Int) l).2 = (decide (s + l.length ≤ 64) && (l.all fun p => decide (p.2 ≤ 8)) && (l.all fun p => fitsB p.1))
  | [], s, h => by simp [runs, h]
  | (t, d) :: l, s, h => by
    rw [runs]
    have e : wrap64 ((s : Int) + 1) = ((s + 1 : Nat) : Int) := by rw [wrap_id (by omega) (by omega)]; rfl
    have e2 : (rightStep (s : Int) t d).2 = (decide (s + 1 ≤ 64) && decide (d ≤ 8) && fitsB t) := by
      show (decide (wrap64 ((s : Int) + 1) ≤ 64) && decide ((d : Int) ≤ 8) && fitsB t) = _
      rw [e, show decide (((s + 1 : Nat) : Int) ≤ 64) = decide (s + 1 ≤ 64) from decide_eq_decide.2 (by omega), show decide ((d : Int) ≤ 8) = decide (d ≤ 8) from decide_eq_decide.2 (by omega)]
    have e1 : (rightStep (s : Int) t d).1 = ((s + 1 : Nat) : Int) := e
    have key : ∀ (c : Bool) (a : Int × Bool) (b : Int), (if c = true then a else (b, false)).2 = (c && a.2) := by intro c a b; cases c <;> rfl
    rw [e1, e2, key]
    by_cases h1 : s + 1 ≤ 64
    · rw [runs_right l (s + 1) h1]
      rw [decide_eq_true h1, show decide (s + 1 + l.length ≤ 64) = decide (s + ((t, d) :: l).length ≤ 64) from decide_eq_decide.2 (by simp; omega)]
      simp only [List.all_cons]
      generalize decide (s + ((t, d) :: l).length ≤ 64) = b1
      generalize (l.all fun p => decide (p.2 ≤ 8)) = b2
      generalize (l.all fun p => fitsB p.1) = b3
      generalize decide (d ≤ 8) = b4
      generalize fitsB t = b5
      cases b1 <;> cases b2 <;> cases b3 <;> cases b4 <;> cases b5 <;> rfl
    · rw [decide_eq_false h1, decide_eq_false (by simp; omega : ¬ s + ((t, d) :: l).length ≤ 64)]; simp
set_option maxRecDepth 100000 in
theorem right_eq (t : T) : (runs rightStep 0 (pre 1 t)).2 = rightB t := by
  have h := runs_right (pre 1 t) 0 (by omega)
  rw [show ((0 : Nat) : Int) = 0 from rfl] at h
  rw [h]
  unfold rightB
  have e : (pre 1 t).length = count t := by unfold count; rw [← pre_fst 1, List.length_map]
  have e3 : ((pre 1 t).all fun p => fitsB p.1) = (all t).all fitsB := by rw [← pre_fst 1 t, List.all_map]; rfl
  have e2 : ((pre 1 t).all fun p => decide (p.2 ≤ 8)) = decide (depth t ≤ 8) := by
    rw [Bool.eq_iff_iff, List.all_eq_true, decide_eq_true_iff, show depth t = most (pre 1 t) by rw [most_pre 0]; omega, most_le]
    simp only [decide_eq_true_iff]
  rw [e, e2, e3, Nat.zero_add]
end Go.Proofs.YtggmogjgaoobjaaDoor

/- The contracts of the reference's Right, of the document's example, and of great. -/
namespace Go.Proofs.YtggmogjgaoobjaaDoor
open Go.RowKit TreeMath RealMath

set_option maxRecDepth 100000 in
theorem rightB_eq (t : T) : rightB t = (formB t && decide (depth t ≤ 8) && decide (count t ≤ 64)) := by
  unfold rightB; rw [formB_all]
  generalize decide (count t ≤ 64) = a; generalize decide (depth t ≤ 8) = b; generalize (all t).all fitsB = c
  cases a <;> cases b <;> cases c <;> rfl
set_option maxRecDepth 100000 in
set_option maxHeartbeats 2000000 in
theorem rright_any (x : Hd) (ks : List T) (top : Nat) (w : World) (htop : top ≤ w.heap.size) (hok : Ok w top (.mk x ks)) (hn : count (.mk x ks) ≤ 90000) (hf : Few (.mk x ks)) :
    Calls Tryd.prog 78 #[nv x ks.length] w fun e w' => e = .returned (.bool (rightB (.mk x ks))) ∧ Below w.heap.size w w' := by
  have HOK := Lib.hid hok; have HN := Lib.hid hn; have HF := Lib.hid hf
  have HE := Lib.hid (rightB_eq (.mk x ks))
  have hcb : count (.mk x ks) ≤ 90000 := hn
  have hdb : depth (.mk x ks) ≤ 90000 := Nat.le_trans (depth_count _) hn
  clear hok hn hf
  go_enter Tryd.func78, Tryd.ntmps78
  go_wp2_with fail
  have hbox := Blk.new w 80 #[vb x.kind, .slice x.na x.names.length x.nc, .slice x.ka ks.length x.kc, .slice x.da x.data.length x.dc, .bool x.run, .float .f64 x.stamp, vs x.target]
  have hB1 : Below w.heap.size w (w.alloc (.cells #[vb x.kind, .slice x.na x.names.length x.nc, .slice x.ka ks.length x.kc, .slice x.da x.data.length x.dc, .bool x.run, .float .f64 x.stamp, vs x.target] 80)) := (Below.refl _ _).alloc (Nat.le_refl _) _
  have hs1 : (w.alloc (.cells #[vb x.kind, .slice x.na x.names.length x.nc, .slice x.ka ks.length x.kc, .slice x.da x.data.length x.dc, .bool x.run, .float .f64 x.stamp, vs x.target] 80)).heap.size = w.heap.size + 1 := by simp
  generalize w.alloc (.cells #[vb x.kind, .slice x.na x.names.length x.nc, .slice x.ka ks.length x.kc, .slice x.da x.data.length x.dc, .bool x.run, .float .f64 x.stamp, vs x.target] 80) = W1 at *
  have HBOX := Lib.hid hbox; have HB1 := Lib.hid hB1; have HS1 := Lib.hid hs1
  clear hbox hB1 hs1
  refine (form_of top (.mk x ks) W1 (by have := HS1.out; omega) (HOK.out.keep (HB1.out.mono htop)) HN.out HF.out).mono ?_
  rintro e w1 ⟨rfl, hb1⟩
  have HB2 : Hid (Below (w.heap.size + 1) W1 w1) := hb1.mono (by have := HS1.out; omega)
  clear hb1
  generalize formB (.mk x ks) = bf at *
  cases bf with
  | false =>
    go_wp2_with fail
    go_ret
    exact ⟨by rw [HE.out]; rfl, HB1.out.trans (HB2.out.mono (by omega))⟩
  | true =>
    have hblk := HBOX.out.below HB2.out (by omega)
    have c0 := hblk.cell 0; have c1 := hblk.cell 1; have c2 := hblk.cell 2; have c3 := hblk.cell 3; have c4 := hblk.cell 4; have c5 := hblk.cell 5; have c6 := hblk.cell 6
    simp only [List.getElem?_cons_zero, List.getElem?_cons_succ] at c0 c1 c2 c3 c4 c5 c6
    clear hblk
    go_wp2_with fail
    have hsz : top ≤ w1.heap.size := by have := HB2.out.size; have := HS1.out; omega
    refine (rdepth_of top (.mk x ks) w1 hsz (HOK.out.keep ((HB1.out.mono htop).trans (HB2.out.mono (by omega)))) HN.out).mono ?_
    rintro e w2 ⟨rfl, hb2⟩
    have HB3 : Hid (Below (w.heap.size + 1) W1 w2) := HB2.out.trans (hb2.mono (by have := HB2.out.size; have := HS1.out; omega))
    clear hb2 c0 c1 c2 c3 c4 c5 c6 hsz
    generalize depth (.mk x ks) = dd at *
    have hblk := HBOX.out.below HB3.out (by omega)
    have c0 := hblk.cell 0; have c1 := hblk.cell 1; have c2 := hblk.cell 2; have c3 := hblk.cell 3; have c4 := hblk.cell 4; have c5 := hblk.cell 5; have c6 := hblk.cell 6
    simp only [List.getElem?_cons_zero, List.getElem?_cons_succ] at c0 c1 c2 c3 c4 c5 c6
    clear hblk
    by_cases h8 : dd ≤ 8
    · have h8' : decide ((dd : Int) ≤ 8) = true := decide_eq_true (by omega)
      rw [decide_eq_true h8] at HE
      go_wp2_with fail
      have hsz : top ≤ w2.heap.size := by have := HB3.out.size; have := HS1.out; omega
      refine (all_of top (.mk x ks) w2 hsz (HOK.out.keep ((HB1.out.mono htop).trans (HB3.out.mono (by omega)))) HN.out).mono ?_
      rintro e w3 ⟨v, rfl, hnod, hb3⟩
      have HB4 : Hid (Below w.heap.size w w3) := HB1.out.trans ((HB3.out.mono (by omega)).trans (hb3.mono (by have := HB3.out.size; have := HS1.out; omega)))
      obtain ⟨g, c, rfl, -, -, -, -, -⟩ := hnod.at (count_pos (.mk x ks))
      clear hb3 hnod c0 c1 c2 c3 c4 c5 c6
      change (all (T.mk x ks)).length ≤ 90000 at hcb
      unfold count at HE
      generalize (all (T.mk x ks)).length = cc at *
      by_cases h64 : cc ≤ 64
      · have h64' : decide ((cc : Int) ≤ 64) = true := decide_eq_true (by omega)
        rw [decide_eq_true h64] at HE
        go_wp2_with fail
        go_ret
        exact ⟨by rw [HE.out]; rfl, HB4.out⟩
      · have h64' : decide ((cc : Int) ≤ 64) = false := decide_eq_false (by omega)
        rw [decide_eq_false h64] at HE
        go_wp2_with fail
        go_ret
        exact ⟨by rw [HE.out]; rfl, HB4.out⟩
    · have h8' : decide ((dd : Int) ≤ 8) = false := decide_eq_false (by omega)
      rw [decide_eq_false h8] at HE
      go_wp2_with fail
      go_ret
      exact ⟨by rw [HE.out]; rfl, HB1.out.trans (HB3.out.mono (by omega))⟩
end Go.Proofs.YtggmogjgaoobjaaDoor

/- The contract of pack.lay (and of flag). -/
namespace Go.Proofs.YtggmogjgaoobjaaDoor
open Go.RowKit TreeMath RealMath WireMath PackMath

/-- what laying a node comes to -/
def LayPostT (w : World) (base g : Nat) (v : Value) (l : List By) (e : Ending) (w' : World) : Prop :=
  e = .returned (.tuple #[]) ∧ ∃ v', WrIs w' base g v' l ∧ WrStep g v v' w w'
/-- while a node is laid: the writer, the node's box -/
structure LInT (w : World) (base g : Nat) (v : Value) (cs : List Value) (W : World) (u : Value) (l : List By) : Prop where
  wr : WrIs W base g u l
  box : Blk W w.heap.size 80 cs
  step : WrStep g v u w W
  ne : u.ownBlock ≠ some w.heap.size
  glt : g < w.heap.size
set_option maxRecDepth 100000 in
theorem LInT.next {w W W' : World} {base g : Nat} {v u u' : Value} {cs : List Value} {l l' : List By} (h : LInT w base g v cs W u l) (h1 : WrIs W' base g u' l') (h2 : WrStep g u u' W W') : LInT w base g v cs W' u' l' := by
  have hlt := h.box.lt
  refine ⟨h1, ?_, h.step.trans h2, fun e => ?_, h.glt⟩
  · unfold Blk; rw [h2.other _ hlt (by have := h.glt; omega) h.ne]; exact h.box
  · rcases h2.own _ e with h3 | h3
    · exact h.ne h3
    · omega
set_option maxRecDepth 100000 in
theorem LInT.below {w W : World} {base g : Nat} {v u : Value} {cs : List Value} {l l0 : List By} (h : LInT w base g v cs W u l) (h0 : WrIs w base g v l0) : Below base w W := h.step.below h0 (by have := h0.lo; have := h.glt; omega)
set_option maxRecDepth 100000 in
theorem LInT.grown {w W W' : World} {base g : Nat} {v u : Value} {cs : List Value} {l : List By} (h : LInT w base g v cs W u l) (hb : Below W.heap.size W W') : LInT w base g v cs W' u l := h.next (h.wr.below hb) (WrStep.of_below hb)
set_option maxRecDepth 100000 in
theorem LInT.new {w : World} {base g : Nat} {v : Value} {l : List By} (h : WrIs w base g v l) (cs : Array Value) : LInT w base g v cs.toList (w.alloc (.cells cs 80)) v l := by
  have hb : Below w.heap.size w (w.alloc (.cells cs 80)) := (Below.refl _ _).alloc (Nat.le_refl _) _
  refine ⟨h.below hb, Blk.new w 80 cs, WrStep.of_below hb, fun e => ?_, h.blk.lt⟩
  have := (h.own.lt _ e).2; omega
set_option maxRecDepth 100000 in
theorem kids_len (x : Hd) (ks : List T) : ks.length ≤ count (.mk x ks) := by
  rw [count_mk]; have := len_le_count ks; omega
end Go.Proofs.YtggmogjgaoobjaaDoor

/- The contract of the reference's lay. -/
namespace Go.Proofs.YtggmogjgaoobjaaDoor
open Go.RowKit TreeMath RealMath WireMath PackMath

set_option maxRecDepth 100000 in
theorem own_base {w : World} {base base' n : Nat} {e : TypeId} {v : Value} {xs : List Value} (h : w.ownsRow base e 1 v n xs) (hb : base' ≤ base) : w.ownsRow base' e 1 v n xs := by
  refine ⟨h.1, ?_⟩
  rcases h.2 with h1 | ⟨k, cap, cur, rfl, h2, h3, h4⟩
  · exact .inl h1
  · exact .inr ⟨k, cap, cur, rfl, by omega, h3, h4⟩
set_option maxRecDepth 100000 in
theorem RowRel.lower {w w1 W : World} {e : TypeId} {l : List Value} {v : Value} (h : RowRel w1 e l v W) (hb : Below w.heap.size w w1) : RowRel w e l v W := ⟨hb.trans (h.below.mono hb.size), own_base h.own hb.size⟩
set_option maxRecDepth 100000 in
/-- bytes appended to a row of one's own -/
theorem wpList_app {w W0 : World} {ops : Array Oper} {rest : List Oper} {o : Oper} {a : Act} {Q : Exit → Act → World → Prop} (hgd : o.guard = none) (s x : Operand)
    (ho : o.op = .call { callee := .builtin .append, args := #[s, x], argTypes := #[37, 37] }) (v : Value) (xs : List By) (r : RowRel w 5 (xs.map vb) v W0) (hs : a.eval s = v)
    (A : Option Addr) (c : Nat) (l : List By) (hx : a.eval x = .slice A l.length c) (hN : A = none → c = 0) (hA : SrcIs W0 A l) (hbd : xs.length + l.length ≤ 1000000)
    (h : ∀ v' w', RowRel w 5 ((xs ++ l).map vb) v' w' → wpList Tryd.prog ops Q rest (a.put o.dst v') w') : wpList Tryd.prog ops Q (o :: rest) a W0 :=
  wpList_append_src hgd s x ho w.heap.size v xs.length xs hs (by simpa using r.own) A c l hx hN hA hbd r.below.size (fun v' w' h1 h2 => h v' w' ⟨r.below.grown h2 r.below.size (fun g hg => (r.own.lt g hg).1), by simpa using h1⟩)
def RLayOf (top : Nat) (t : T) : Prop := ∀ (w : World), top ≤ w.heap.size → Ok w top t → formT t → count t ≤ 64 →
  Calls Tryd.prog 79 #[val t] w fun e w' => ∃ v, e = .returned v ∧ RowRel w 5 ((layB t).map vb) v w'
set_option maxHeartbeats 4000000 in
set_option maxRecDepth 100000 in
theorem rlay_of (top : Nat) : ∀ t, RLayOf top t := by
  refine T.ind fun x ks IH => ?_
  intro w htop hok hform hcn
  show Calls Tryd.prog 79 #[nv x ks.length] w _
  have HOK := Lib.hid hok; have HF := Lib.hid hform; have HIH := Lib.hid IH
  clear hok hform IH
  go_enter Tryd.func79, Tryd.ntmps79
  go_upto_region 2 with fail
  have hbox := (Blk.new w 80 #[vb x.kind, .slice x.na x.names.length x.nc, .slice x.ka ks.length x.kc, .slice x.da x.data.length x.dc, .bool x.run, .float .f64 x.stamp, vs x.target]).alloc (.cells #[vb x.kind] 5)
  have hB1 : Below w.heap.size w (w.alloc (.cells #[vb x.kind, .slice x.na x.names.length x.nc, .slice x.ka ks.length x.kc, .slice x.da x.data.length x.dc, .bool x.run, .float .f64 x.stamp, vs x.target] 80)) := (Below.refl _ _).alloc (Nat.le_refl _) _
  have hs1 : (w.alloc (.cells #[vb x.kind, .slice x.na x.names.length x.nc, .slice x.ka ks.length x.kc, .slice x.da x.data.length x.dc, .bool x.run, .float .f64 x.stamp, vs x.target] 80)).heap.size = w.heap.size + 1 := by simp
  have hR1 := new_row (w.alloc (.cells #[vb x.kind, .slice x.na x.names.length x.nc, .slice x.ka ks.length x.kc, .slice x.da x.data.length x.dc, .bool x.run, .float .f64 x.stamp, vs x.target] 80)) [x.kind] 1 rfl (by decide)
  rw [hs1] at hR1
  simp only [List.map_cons, List.map_nil] at hR1
  generalize w.alloc (.cells #[vb x.kind, .slice x.na x.names.length x.nc, .slice x.ka ks.length x.kc, .slice x.da x.data.length x.dc, .bool x.run, .float .f64 x.stamp, vs x.target] 80) = W1 at *
  generalize W1.alloc (.cells #[vb x.kind] 5) = W2 at *
  have HBOX := Lib.hid hbox; have HB1 := Lib.hid hB1; have HS1 := Lib.hid hs1; have HR1 := Lib.hid hR1
  clear hbox hB1 hs1 hR1
  have c0 := HBOX.out.cell 0; have c1 := HBOX.out.cell 1; have c3 := HBOX.out.cell 3; have c4 := HBOX.out.cell 4; have c5 := HBOX.out.cell 5; have c6 := HBOX.out.cell 6
  simp only [List.getElem?_cons_zero, List.getElem?_cons_succ] at c0 c1 c3 c4 c5 c6
  have HKEEP : Hid (∀ W, Below W1.heap.size W1 W → Blk W w.heap.size 80 (cellsOf x ks.length) ∧ Ok W top (.mk x ks) ∧ top ≤ W.heap.size) := by
    intro W hW
    refine ⟨?_, HOK.out.keep ((HB1.out.trans (hW.mono HB1.out.size)).mono htop), Nat.le_trans htop (Nat.le_trans HB1.out.size hW.size)⟩
    have h1 := HR1.out.below
    unfold Blk
    rw [hW.block w.heap.size (by rw [HS1.out]; omega), ← h1.block w.heap.size (by rw [HS1.out]; omega)]
    exact HBOX.out
  have hcnt := count_pos (.mk x ks)
  rcases fits_cases HF.out.top with ⟨hk, hn, hno, -⟩ | ⟨hk, hd, -⟩ | ⟨hk, ht1, ht2, -⟩
  · have e1 : ((x.kind.toNat : Int) == 1) = true := by rw [hk]; rfl
    have HN := Lib.hid hn; have HNO := Lib.hid hno; have HK := Lib.hid hk
    have HB : Hid (layB (.mk x ks) = x.kind :: UInt8.ofNat x.names.length :: layL x.names ks) := by show _ = _; rw [layB, if_pos hk]
    have hlen : x.names.length ≤ 64 := by have := kids_len x ks; omega
    have HVB : Hid (vb (UInt8.ofNat x.names.length) = .int .u8 (x.names.length : Int)) := by show _ = _; rw [vb_mod]; congr 1; omega
    clear hn hno hk
    go_wp2_with (refine wpList_push Tryd.underlying37 info5 rfl (by decide) rfl (.tmp 12) (.tmp 17) rfl HR1.out rfl [.int .u8 (x.names.length : Int)] 1 rfl rfl rfl (by simp) ?_)
    intro v3 w3 hr3
    have HR3 : Hid (RowRel W1 5 (([x.kind] ++ [UInt8.ofNat x.names.length]).map vb) v3 w3) := by show RowRel _ _ _ _ _; rw [List.map_append, List.map_cons, List.map_cons, List.map_nil, HVB.out]; exact hr3
    clear hr3 c0 c1 c3 c4 c5 c6 HVB
    go_wp2_with fail
    go_loopw [3, 4] (fun vp vi wr => ∃ i : Nat, i ≤ x.names.length ∧ vi = .int .i64 i ∧ Hid (RowRel W1 5 (([x.kind] ++ [UInt8.ofNat x.names.length] ++ layL x.names (ks.take i)).map vb) vp wr)) (fun _ vi _ => x.names.length - (intOf vi).toNat)
    case atStart => exact ⟨0, Nat.zero_le _, rfl, by have h := HR3.out; simp only [List.take_zero, layL, List.append_nil]; exact h⟩
    case round =>
      obtain ⟨i, hi, rfl, HR⟩ := hrel
      rename World => W0
      rename Value => vp
      obtain ⟨hbx, hok0, htop0⟩ := HKEEP.out W0 HR.out.below
      have c1 := hbx.cell 1; have c2 := hbx.cell 2
      simp only [cellsOf, List.getElem?_cons_zero, List.getElem?_cons_succ] at c1 c2
      by_cases hlt : i < x.names.length
      · have hlk : i < ks.length := by rw [← HN.out]; exact hlt
        obtain ⟨nb, no, hna, hnc⟩ := hok0.hd.nsrc (by omega)
        have cn : W0.cell? ⟨nb, no + i, none⟩ = some (vs x.names[i]) := hnc i hlt
        rw [hna] at c1
        have HNM := Lib.hid (names_each HNO.out x.names[i] (List.getElem_mem hlt))
        have HLT := Lib.hid (layL_take x.names ks i hlk hlt)
        have hlen2 : ([x.kind] ++ [UInt8.ofNat x.names.length] ++ layL x.names (ks.take i)).length + 42 + (layB ks[i]).length ≤ 1000000 := by
          have h1 := layL_le (x.names.take i) (ks.take i) (fun k hk => HF.out.kid (List.mem_of_mem_take hk)) (fun s hs => names_each HNO.out s (List.mem_of_mem_take hs)) (by simp; omega)
          have h2 := all_count_le (x := x) i hlk
          have h3 : layL (x.names.take i) (ks.take i) = layL x.names (ks.take i) := layL_names x.names ks i
          have h4 := layB_le ks[i] (HF.out.kid (List.getElem_mem hlk))
          rw [h3] at h1
          simp only [List.length_append, List.length_cons, List.length_nil]
          omega
        have HLEN := Lib.hid hlen2
        have HKID := Lib.hid (hok0.kid (List.getElem_mem hlk))
        clear hnc hlen2 hbx hok0 hi
        generalize x.names[i] = nm at *
        go_wp2_with fail
        clear hna
        refine (rtextb_any nm (by have := HNM.out; omega) W0).mono ?_
        rintro e w4 ⟨u, rfl, hu⟩
        obtain ⟨A, c, rfl, hA, hN, -, -⟩ := hu.src
        have HR4 := Lib.hid (HR.out.below' hu.below)
        have HA := Lib.hid hA; have HNN := Lib.hid hN
        clear hu hA hN c1 c2 cn HR
        go_wp2_with (refine wpList_app rfl (.tmp 26) (.tmp 32) rfl _ _ HR4.out rfl A c (textB nm) rfl HNN.out HA.out (by rw [textB_length]; have := HLEN.out; have := HNM.out; omega) ?_)
        intro v5 w5 hr5
        have HR5 : Hid (RowRel W1 5 (([x.kind] ++ [UInt8.ofNat x.names.length] ++ layL x.names (ks.take i) ++ textB nm).map vb) v5 w5) := by show RowRel _ _ _ _ _; simpa using hr5
        clear hr5 HR4 HA HNN
        obtain ⟨hbx, hok0, htop0⟩ := HKEEP.out w5 HR5.out.below
        have c2 := hbx.cell 2
        simp only [cellsOf, List.getElem?_cons_zero, List.getElem?_cons_succ] at c2
        obtain ⟨a, oa, y, ly, hAe, hat, hu, hca⟩ := hok0.at.cells i hlk
        obtain ⟨a0, a1, a2, a3, a4, a5, a6⟩ := hca.seven
        rw [hAe] at c2
        have HC : Hid (Calls Tryd.prog 79 #[nv y ly.length] w5 fun e w' => ∃ v, e = .returned v ∧ RowRel w5 5 ((layB ks[i]).map vb) v w') := by
          have hc := HIH.out ks[i] (List.getElem_mem hlk) w5 htop0 (hok0.kid (List.getElem_mem hlk)) (HF.out.kid (List.getElem_mem hlk)) (by have := all_count_le (x := x) i hlk; omega)
          rw [hu] at hc ⊢
          exact hc
        clear hca hbx hok0 hu
        go_wp2_with fail
        clear hAe
        refine HC.out.mono ?_
        rintro e w6 ⟨u, rfl, hu6⟩
        obtain ⟨A, c, rfl, hA, hN, -, -⟩ := hu6.src
        have HR6 := Lib.hid (HR5.out.below' hu6.below)
        have HA := Lib.hid hA; have HNN := Lib.hid hN
        clear hu6 hA hN c2 a0 a1 a2 a3 a4 a5 a6 HR5 HC
        go_wp2_with (refine wpList_app rfl (.tmp 34) (.tmp 40) rfl _ _ HR6.out rfl A c (layB ks[i]) rfl HNN.out HA.out (by rw [List.length_append, textB_length]; have := HLEN.out; have := HNM.out; omega) ?_)
        intro v7 w7 hr7
        have HR7 := Lib.hid hr7
        clear hr7 HR6 HA HNN
        go_wp2_with fail
        go_roundw
        case rel => exact ⟨i + 1, by omega, by go_num, by show RowRel _ _ _ _ _; rw [HLT.out]; have h := HR7.out; simpa using h⟩
        case measure => simp [intOf]; omega
      · obtain rfl : i = x.names.length := by omega
        have HRW := Lib.hid (HR.out.lower HB1.out)
        clear hbx hok0
        go_wp2_with fail
        go_ret
        refine ⟨_, rfl, ?_⟩
        rw [HB.out]
        have h := HRW.out
        rw [HN.out, List.take_length, ← HN.out] at h
        exact h
  · have e1 : ((x.kind.toNat : Int) == 1) = false := by rw [hk]; rfl
    have e2 : ((x.kind.toNat : Int) == 2) = true := by rw [hk]; rfl
    have HB : Hid (layB (.mk x ks) = x.kind :: ((if x.run then 1 else 0) :: (wideB (canonB x.stamp) ++ textB x.data))) := by show _ = _; rw [layB, if_neg (by rw [hk]; decide), if_pos hk]
    have hst := HOK.out.hd.stamp
    have hcs := canonB_lt x.stamp hst
    have HK := Lib.hid hk; have HD := Lib.hid hd
    clear hk hd
    cases hrun : x.run with
    | true =>
      go_wp2_with (refine wpList_push Tryd.underlying37 info5 rfl (by decide) rfl (.tmp 46) (.tmp 47) rfl HR1.out rfl [.int .u8 1] 1 rfl rfl rfl (by simp) ?_)
      intro v3 w3 hr3
      have HR3 : Hid (RowRel W1 5 (([x.kind] ++ [1]).map vb) v3 w3) := hr3
      clear hr3 c0 c1 c3 c4 c5 c6
      obtain ⟨hbx, hok0, htop0⟩ := HKEEP.out w3 HR3.out.below
      have c5 := hbx.cell 5
      simp only [cellsOf, List.getElem?_cons_zero, List.getElem?_cons_succ] at c5
      clear hbx hok0 htop0
      go_wp2_with fail
      refine (refbits_any x.stamp w3).mono ?_
      rintro e w4 ⟨rfl, rfl⟩
      have HRW : Hid (∀ W, Calls Tryd.prog 66 #[.int .u64 (canonB x.stamp)] W fun e w' => ∃ v, e = .returned v ∧ RowRel W 5 ((wideB (canonB x.stamp)).map vb) v w') := fun W => rwide_any (canonB x.stamp) (by omega) W
      generalize canonB x.stamp = cb at *
      go_wp2_with fail
      refine (HRW.out w3).mono ?_
      rintro e w5 ⟨u, rfl, hu⟩
      obtain ⟨A, c, rfl, hA, hN, -, -⟩ := hu.src
      have HR5 := Lib.hid (HR3.out.below' hu.below)
      have HA := Lib.hid hA; have HNN := Lib.hid hN
      clear hu hA hN c5 HR3 HRW
      go_wp2_with (refine wpList_app rfl (.tmp 52) (.tmp 56) rfl _ _ HR5.out rfl A c (wideB cb) rfl HNN.out HA.out (by rw [wideB_length]; simp) ?_)
      intro v6 w6 hr6
      have HR6 : Hid (RowRel W1 5 (([x.kind] ++ [1] ++ wideB cb).map vb) v6 w6) := by show RowRel _ _ _ _ _; simpa using hr6
      clear hr6 HA HNN HR5
      obtain ⟨hbx, hok0, htop0⟩ := HKEEP.out w6 HR6.out.below
      have c3 := hbx.cell 3
      simp only [cellsOf, List.getElem?_cons_zero, List.getElem?_cons_succ] at c3
      have hcv := run_text_src (cap := x.dc) hok0.hd.dsrc
      clear hbx hok0 htop0
      go_wp2_with fail
      refine (rtextb_any x.data (by have := HD.out; omega) w6).mono ?_
      rintro e w7 ⟨u, rfl, hu⟩
      obtain ⟨A, c, rfl, hA, hN, -, -⟩ := hu.src
      have HR7 := Lib.hid (HR6.out.below' hu.below)
      have HA := Lib.hid hA; have HNN := Lib.hid hN
      clear hu hA hN c3 hcv HR6
      go_wp2_with (refine wpList_app rfl (.tmp 58) (.tmp 62) rfl _ _ HR7.out rfl A c (textB x.data) rfl HNN.out HA.out (by rw [textB_length, List.length_append, wideB_length]; have := HD.out; simp; omega) ?_)
      intro v8 w8 hr8
      have HR8 := Lib.hid (hr8.lower HB1.out)
      clear hr8
      go_wp2_with fail
      go_ret
      refine ⟨_, rfl, ?_⟩
      rw [HB.out, hrun]
      have h := HR8.out
      simpa using h
    | false =>
      go_wp2_with (refine wpList_push Tryd.underlying37 info5 rfl (by decide) rfl (.tmp 49) (.tmp 50) rfl HR1.out rfl [.int .u8 0] 1 rfl rfl rfl (by simp) ?_)
      intro v3 w3 hr3
      have HR3 : Hid (RowRel W1 5 (([x.kind] ++ [0]).map vb) v3 w3) := hr3
      clear hr3 c0 c1 c3 c4 c5 c6
      obtain ⟨hbx, hok0, htop0⟩ := HKEEP.out w3 HR3.out.below
      have c5 := hbx.cell 5
      simp only [cellsOf, List.getElem?_cons_zero, List.getElem?_cons_succ] at c5
      clear hbx hok0 htop0
      go_wp2_with fail
      refine (refbits_any x.stamp w3).mono ?_
      rintro e w4 ⟨rfl, rfl⟩
      have HRW : Hid (∀ W, Calls Tryd.prog 66 #[.int .u64 (canonB x.stamp)] W fun e w' => ∃ v, e = .returned v ∧ RowRel W 5 ((wideB (canonB x.stamp)).map vb) v w') := fun W => rwide_any (canonB x.stamp) (by omega) W
      generalize canonB x.stamp = cb at *
      go_wp2_with fail
      refine (HRW.out w3).mono ?_
      rintro e w5 ⟨u, rfl, hu⟩
      obtain ⟨A, c, rfl, hA, hN, -, -⟩ := hu.src
      have HR5 := Lib.hid (HR3.out.below' hu.below)
      have HA := Lib.hid hA; have HNN := Lib.hid hN
      clear hu hA hN c5 HR3 HRW
      go_wp2_with (refine wpList_app rfl (.tmp 52) (.tmp 56) rfl _ _ HR5.out rfl A c (wideB cb) rfl HNN.out HA.out (by rw [wideB_length]; simp) ?_)
      intro v6 w6 hr6
      have HR6 : Hid (RowRel W1 5 (([x.kind] ++ [0] ++ wideB cb).map vb) v6 w6) := by show RowRel _ _ _ _ _; simpa using hr6
      clear hr6 HA HNN HR5
      obtain ⟨hbx, hok0, htop0⟩ := HKEEP.out w6 HR6.out.below
      have c3 := hbx.cell 3
      simp only [cellsOf, List.getElem?_cons_zero, List.getElem?_cons_succ] at c3
      have hcv := run_text_src (cap := x.dc) hok0.hd.dsrc
      clear hbx hok0 htop0
      go_wp2_with fail
      refine (rtextb_any x.data (by have := HD.out; omega) w6).mono ?_
      rintro e w7 ⟨u, rfl, hu⟩
      obtain ⟨A, c, rfl, hA, hN, -, -⟩ := hu.src
      have HR7 := Lib.hid (HR6.out.below' hu.below)
      have HA := Lib.hid hA; have HNN := Lib.hid hN
      clear hu hA hN c3 hcv HR6
      go_wp2_with (refine wpList_app rfl (.tmp 58) (.tmp 62) rfl _ _ HR7.out rfl A c (textB x.data) rfl HNN.out HA.out (by rw [textB_length, List.length_append, wideB_length]; have := HD.out; simp; omega) ?_)
      intro v8 w8 hr8
      have HR8 := Lib.hid (hr8.lower HB1.out)
      clear hr8
      go_wp2_with fail
      go_ret
      refine ⟨_, rfl, ?_⟩
      rw [HB.out, hrun]
      have h := HR8.out
      simpa using h
  · have e1 : ((x.kind.toNat : Int) == 1) = false := by rw [hk]; rfl
    have e2 : ((x.kind.toNat : Int) == 2) = false := by rw [hk]; rfl
    have e3 : ((x.kind.toNat : Int) == 3) = true := by rw [hk]; rfl
    have HB : Hid (layB (.mk x ks) = x.kind :: textB x.target) := by show _ = _; rw [layB, if_neg (by rw [hk]; decide), if_neg (by rw [hk]; decide), if_pos hk]
    have HK := Lib.hid hk
    clear hk
    go_wp2_with fail
    refine (rtextb_any x.target (by omega) W2).mono ?_
    rintro e w3 ⟨u, rfl, hu⟩
    obtain ⟨A, c, rfl, hA, hN, -, -⟩ := hu.src
    have HR3 := Lib.hid (HR1.out.below' hu.below)
    have HA := Lib.hid hA; have HNN := Lib.hid hN
    clear hu hA hN c0 c1 c3 c4 c5 c6
    go_wp2_with (refine wpList_app rfl (.tmp 66) (.tmp 69) rfl _ [x.kind] HR3.out rfl A c (textB x.target) rfl HNN.out HA.out (by simp [textB_length]; omega) ?_)
    intro v4 w4 hr4
    have HR4 := Lib.hid (hr4.lower HB1.out)
    clear hr4
    go_wp2_with fail
    go_ret
    refine ⟨_, rfl, ?_⟩
    rw [HB.out]; exact HR4.out
end Go.Proofs.YtggmogjgaoobjaaDoor
