/- A region that draws its order and ends in stores into cells that it loads: what is loaded may be taken first, under a condition on the world that must hold behind every operation but those stores (X), which wait for it, be it through others. No program is named. -/
import Derived.OrdersHeld
import Derived.Deep.RegionHeld
namespace Go.Late
section
variable {P : Program} {ops : Array Oper} {Q : Exit → Act → World → Prop} {md : Region.Mode} {S : World → Prop} {X : List Nat}

/-- whatever order is picked; behind every operation that isn't among X the condition holds -/
def wpAnyX (P : Program) (md : Region.Mode) (ops : Array Oper) (Q : Exit → Act → World → Prop) (S : World → Prop) (X : List Nat) : Nat → Array Bool → Act → World → Prop
  | 0, l, a, w => Region.ready md ops l = [] ∧ Q .normal a w
  | n + 1, l, a, w => (Region.ready md ops l = [] → Q .normal a w) ∧ ∀ i ∈ Region.ready md ops l, wpOp P ops Q i (fun a' w' => (i ∉ X → S w') ∧ wpAnyX P md ops Q S X n (l.setIfInBounds i true) a' w') a w
theorem any_of_X : ∀ (n : Nat) (l : Array Bool) (a : Act) (w : World), wpAnyX P md ops Q S X n l a w → wpAny P md ops Q n l a w
  | 0, _, _, _, h => h
  | n + 1, _, _, _, h => ⟨h.1, fun i hi => wpOp_mono (fun a' w' k => any_of_X n _ a' w' k.2) (h.2 i hi)⟩
/-- does x wait for i, be it through others? -/
def dep (md : Region.Mode) (ops : Array Oper) : Nat → Nat → Nat → Bool
  | 0, _, _ => false
  | f + 1, x, i => match ops[x]? with
    | some o => o.after.any fun e => Region.binds md e && (e.on == i || dep md ops f e.on i)
    | none => false
/-- what has come up has come up behind all that it waits for -/
def Shutl (md : Region.Mode) (ops : Array Oper) (l : Array Bool) : Prop := ∀ x o, ops[x]? = some o → l.getD x false = true → ∀ e ∈ o.after, Region.binds md e = true → l.getD e.on false = true
theorem dep_listed {l : Array Bool} (hl : Shutl md ops l) {i : Nat} : ∀ (f x : Nat) (o : Oper), ops[x]? = some o → (∀ e ∈ o.after, Region.binds md e = true → l.getD e.on false = true) → dep md ops f x i = true → l.getD i false = true
  | 0, _, _, _, _, h => by cases h
  | f + 1, x, o, ho, hall, h => by
    rw [dep, ho] at h
    simp only [Array.any_eq_true'] at h
    obtain ⟨e, he, h2⟩ := h
    simp only [Bool.and_eq_true, Bool.or_eq_true, beq_iff_eq] at h2
    have h3 := hall e he h2.1
    rcases h2.2 with q | q
    · rw [← q]; exact h3
    · cases ho2 : ops[e.on]? with
      | none =>
        cases f with
        | zero => cases q
        | succ f => rw [dep, ho2] at q; cases q
      | some o2 => exact dep_listed hl f e.on o2 ho2 (hl _ o2 ho2 h3) q
theorem Shutl.set {l : Array Bool} (hl : Shutl md ops l) {j : Nat} (hj : j ∈ Region.ready md ops l) : Shutl md ops (l.setIfInBounds j true) := fun x o ho hx e he hb => by
  obtain ⟨_, oj, hoj, hall⟩ := mem_ready.1 hj
  refine getD_set_true ?_
  by_cases q : j = x
  · subst q
    rw [ho] at hoj
    cases hoj
    exact hall e he hb
  · rw [getD_set_ne false q] at hx
    exact hl x o ho hx e he hb
theorem first_X {f i : Nat} {oi : Oper} {v : Value} (hi : ops[i]? = some oi) (hsel : ∀ (j : Nat) (o : Oper) cs b, ops[j]? = some o → o.op ≠ .select cs b) (hX : ∀ x ∈ X, dep md ops f x i = true)
    (hQ : ∀ c a w, Q (.panic c) (a.put oi.dst v) w → Q (.panic c) a w) : ∀ (n : Nat) (l : Array Bool) (a : Act) (w : World), Shutl md ops l →
      (∀ j oj, ops[j]? = some oj → j ≠ i → l.getD j true = false → (∀ e ∈ oj.after, Region.binds md e = true → e.on ≠ i) → oi.apart ops oj = true) →
      i ∈ Region.ready md ops l → YieldsIf P ops S oi v a → S w → wpAnyX P md ops Q S X n (l.setIfInBounds i true) (a.put oi.dst v) w → wpAnyX P md ops Q S X (n + 1) l a w := by
  intro n
  induction n with
  | zero =>
    intro l a w _ _ hr hy hS H
    refine ⟨fun h0 => absurd hr (by rw [h0]; exact List.not_mem_nil), fun j hj => ?_⟩
    by_cases e : j = i
    · subst e; exact hy.wpOp hi hS ⟨fun _ => hS, H⟩
    · exact absurd (ready_mono hj e) (by rw [H.1]; exact List.not_mem_nil)
  | succ n ih =>
    intro l a w hl hfree hr hy hS H
    refine ⟨fun h0 => absurd hr (by rw [h0]; exact List.not_mem_nil), fun j hj => ?_⟩
    by_cases e : j = i
    · subst e; exact hy.wpOp hi hS ⟨fun _ => hS, H⟩
    · obtain ⟨hun, oj, hoj, hall⟩ := mem_ready.1 hj
      have hi0 : l.getD i false = true → False := fun h1 => by
        have h0 := (mem_ready.1 hr).1
        rcases Nat.lt_or_ge i l.size with q | q
        · simp [q] at h0 h1; rw [h0] at h1; cases h1
        · simp [Array.getElem?_eq_none q] at h1
      have hno : ∀ d ∈ oj.after, Region.binds md d = true → d.on ≠ i := fun d hd hb he => hi0 (by rw [← he]; exact hall d hd hb)
      have hjX : j ∉ X := fun hx => hi0 (dep_listed hl f j oj hoj hall (hX j hx))
      have k := wpOp_putIf hoj (hfree j oj hoj e hun hno) (fun cs b => hsel i oi cs b hi) (fun cs b => hsel j oj cs b hoj) hQ hy (H.2 j (ready_mono hj e))
      have hfree2 : ∀ m om, ops[m]? = some om → m ≠ i → (l.setIfInBounds j true).getD m true = false → (∀ d ∈ om.after, Region.binds md d = true → d.on ≠ i) → oi.apart ops om = true := fun m om hm hmi hu hn => by
        refine hfree m om hm hmi ?_ hn
        by_cases q : j = m
        · subst q; exact hun
        · rw [getD_set_ne true q] at hu; exact hu
      refine wpOp_mono (fun a' w' q => ⟨q.2.1, ih (l.setIfInBounds j true) a' w' (hl.set hj) hfree2 (ready_mono hr (Ne.symm e)) q.1 (q.2.1 hjX) ?_⟩) k
      rw [Array.setIfInBounds_comm _ _ e]
      exact q.2.2
/-- 'Shutl', for the kernel -/
def shutB (md : Region.Mode) (ops : Array Oper) (l : Array Bool) : Bool := (List.range ops.size).all fun x => match ops[x]? with | some o => !(l.getD x false) || o.after.all (fun e => !(Region.binds md e) || l.getD e.on false) | none => true
theorem shutB_spec {l : Array Bool} (h : shutB md ops l = true) : Shutl md ops l := fun x o ho hx e he hb => by
  have hlt : x < ops.size := (Array.getElem?_eq_some_iff.1 ho).1
  have h1 := List.all_eq_true.1 h x (List.mem_range.2 hlt)
  simp only [ho, hx, Bool.not_true, Bool.false_or, Array.all_eq_true_iff_forall_mem] at h1
  have h2 := h1 e he
  simpa [hb] using h2
theorem take_X {f i : Nat} {oi : Oper} {v : Value} {n : Nat} {l : Array Bool} {a : Act} {w : World} (hi : ops[i]? = some oi) (hs : Region.noSelect ops = true) (hf : Region.free md ops l i = true) (hr : (Region.ready md ops l).contains i = true) (hX : (X.all fun x => dep md ops f x i) = true) (hl : shutB md ops l = true)
    (hQ : ∀ c a w, Q (.panic c) (a.put oi.dst v) w → Q (.panic c) a w) (hw : Region.wanted oi (yielded ops a.tmps) = true) (hy : ∀ w, S w → (execOp a.eval oi).run P w = .ok (.value v) w) (hS : S w)
    (h : wpAnyX P md ops Q S X n (l.setIfInBounds i true) (a.put oi.dst v) w) : wpAnyX P md ops Q S X (n + 1) l a w :=
  first_X hi (Region.noSelect_spec hs) (List.all_eq_true.1 hX) hQ n l a w (shutB_spec hl) (Region.free_spec hi hf) (by simpa using hr) (.inl ⟨hw, hy⟩) hS h
def AllX (P : Program) (md : Region.Mode) (ops : Array Oper) (Q : Exit → Act → World → Prop) (S : World → Prop) (X : List Nat) (n : Nat) (l : Array Bool) (a : Act) (w : World) (rs : List Nat) : Prop :=
  ∀ i ∈ rs, wpOp P ops Q i (fun a' w' => (i ∉ X → S w') ∧ wpAnyX P md ops Q S X n (l.setIfInBounds i true) a' w') a w
theorem AllX.nil {n : Nat} {l : Array Bool} {a : Act} {w : World} : AllX P md ops Q S X n l a w [] := fun _ h => absurd h List.not_mem_nil
theorem AllX.cons {n : Nat} {l : Array Bool} {a : Act} {w : World} {i : Nat} {o : Oper} {rs : List Nat} (ho : ops[i]? = some o)
    (h : ∀ K' : Act → World → Prop, Shut (∀ a w, (i ∉ X → S w) → wpAnyX P md ops Q S X n (l.setIfInBounds i true) a w → K' a w) → if Region.wanted o (yielded ops a.tmps) = true then Oper.wp P o a w K' Q else K' (a.put o.dst undef) w)
    (hs : AllX P md ops Q S X n l a w rs) : AllX P md ops Q S X n l a w (i :: rs) := fun j hj => by
  rcases List.mem_cons.1 hj with rfl | hj
  · exact wpOp_step ho (fun K' hK => h K' (fun a w k1 k2 => hK a w ⟨k1, k2⟩))
  · exact hs j hj
theorem ready_X {rs : List Nat} {n : Nat} {l : Array Bool} {a : Act} {w : World} (hr : Region.ready md ops l = rs) (hne : rs ≠ []) (h : AllX P md ops Q S X n l a w rs) : wpAnyX P md ops Q S X (n + 1) l a w :=
  ⟨fun h0 => absurd (hr ▸ h0) hne, hr ▸ h⟩
theorem done_X {l : Array Bool} {a : Act} {w : World} (hr : Region.ready md ops l = []) (h : Q .normal a w) : ∀ n, wpAnyX P md ops Q S X n l a w
  | 0 => ⟨hr, h⟩
  | _ + 1 => ⟨fun _ => h, by rw [hr]; simp⟩
theorem region_X {id : Nat} {a : Act} {w : World} (S : World → Prop) (X : List Nat) (hm : P.follows .mixedOrders = true) (h : wpAnyX P .any ops Q S X ops.size (Array.replicate ops.size false) a w.drew) : (Code.region id ops true).wp P Q a w :=
  wp_region_any hm (any_of_X _ _ _ _ h)
end
end Go.Late
