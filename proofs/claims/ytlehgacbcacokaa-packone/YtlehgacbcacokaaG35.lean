/- A region that draws its order and ends in stores into cells that it loads: what is loaded may be taken first, under a condition on the world that must hold behind every operation but those stores (X), which wait for it, be it through others. No program is named. -/
import Derived.OrdersHeld
import Derived.Deep.RegionHeld
import Derived.Test.YtlehgacbcacokaaG34
import Derived.Test.YtlehgacbcacokaaG30
namespace Go.Late
section
variable {P : Program} {ops : Array Oper} {Q : Exit → Act → World → Prop} {md : Region.Mode} {S : World → Prop} {X : List Nat}

/-- whatever order is picked; behind every operation that isn't among X the condition holds -/
def wpAnyX (P : Program) (md : Region.Mode) (ops : Array Oper) (Q : Exit → Act → World → Prop) (S : World → Prop) (X : List Nat) : Nat → Array Bool → Act → World → Prop
  | 0, l, a, w => Region.ready md ops l = [] ∧ Q .normal a w
  | n + 1, l, a, w => (Region.ready md ops l = [] → Q .normal a w) ∧ ∀ i ∈ Region.ready md ops l, wpOp P ops Q i (fun a' w' => (i ∉ X → S w') ∧ wpAnyX P md ops Q S X n (l.setIfInBounds i true) a' w') a w
theorem any_of_X : ∀ (n : Nat) (l : Array Bool) (a : Act) (w : World), wpAnyX P md ops Q S X n l a w → wpAny P md ops Q n l a w
  | 0, _, _, _, h => h
  | n + 1, _, _, _, h => ⟨h.1, fun i hi => wpOp_mono (fun a' w' k => any_of_X n _ a' w' k.2) (h.2 i hi)⟩
/-- does x wait for i, be it through others? -/
def dep (md : Region.Mode) (ops : Array Oper) : Nat → Nat → Nat → Bool
  | 0, _, _ => false
  | f + 1, x, i => match ops[x]? with
    | some o => o.after.any fun e => Region.binds md e && (e.on == i || dep md ops f e.on i)
    | none => false
/-- what has come up has come up behind all that it waits for -/
def Shutl (md : Region.Mode) (ops : Array Oper) (l : Array Bool) : Prop := ∀ x o, ops[x]? = some o → l.getD x false = true → ∀ e ∈ o.after, Region.binds md e = true → l.getD e.on false = true
theorem dep_listed {l : Array Bool} (hl : Shutl md ops l) {i : Nat} : ∀ (f x : Nat) (o : Oper), ops[x]? = some o → (∀ e ∈ o.after, Region.binds md e = true → l.getD e.on false = true) → dep md ops f x i = true → l.getD i false = true
  | 0, _, _, _, _, h => by cases h
  | f + 1, x, o, ho, hall, h => by
    rw [dep, ho] at h
    simp only [Array.any_eq_true'] at h
    obtain ⟨e, he, h2⟩ := h
    simp only [Bool.and_eq_true, Bool.or_eq_true, beq_iff_eq] at h2
    have h3 := hall e he h2.1
    rcases h2.2 with q | q
    · rw [← q]; exact h3
    · cases ho2 : ops[e.on]? with
      | none =>
        cases f with
        | zero => cases q
        | succ f => rw [dep, ho2] at q; cases q
      | some o2 => exact dep_listed hl f e.on o2 ho2 (hl _ o2 ho2 h3) q
theorem Shutl.set {l : Array Bool} (hl : Shutl md ops l) {j : Nat} (hj : j ∈ Region.ready md ops l) : Shutl md ops (l.setIfInBounds j true) := fun x o ho hx e he hb => by
  obtain ⟨_, oj, hoj, hall⟩ := mem_ready.1 hj
  refine getD_set_true ?_
  by_cases q : j = x
  · subst q
    rw [ho] at hoj
    cases hoj
    exact hall e he hb
  · rw [getD_set_ne false q] at hx
    exact hl x o ho hx e he hb
theorem first_X {f i : Nat} {oi : Oper} {v : Value} (hi : ops[i]? = some oi) (hsel : ∀ (j : Nat) (o : Oper) cs b, ops[j]? = some o → o.op ≠ .select cs b) (hX : ∀ x ∈ X, dep md ops f x i = true)
    (hQ : ∀ c a w, Q (.panic c) (a.put oi.dst v) w → Q (.panic c) a w) : ∀ (n : Nat) (l : Array Bool) (a : Act) (w : World), Shutl md ops l →
      (∀ j oj, ops[j]? = some oj → j ≠ i → l.getD j true = false → (∀ e ∈ oj.after, Region.binds md e = true → e.on ≠ i) → oi.apart ops oj = true) →
      i ∈ Region.ready md ops l → YieldsIf P ops S oi v a → S w → wpAnyX P md ops Q S X n (l.setIfInBounds i true) (a.put oi.dst v) w → wpAnyX P md ops Q S X (n + 1) l a w := by
  intro n
  induction n with
  | zero =>
    intro l a w _ _ hr hy hS H
    refine ⟨fun h0 => absurd hr (by rw [h0]; exact List.not_mem_nil), fun j hj => ?_⟩
    by_cases e : j = i
    · subst e; exact hy.wpOp hi hS ⟨fun _ => hS, H⟩
    · exact absurd (ready_mono hj e) (by rw [H.1]; exact List.not_mem_nil)
  | succ n ih =>
    intro l a w hl hfree hr hy hS H
    refine ⟨fun h0 => absurd hr (by rw [h0]; exact List.not_mem_nil), fun j hj => ?_⟩
    by_cases e : j = i
    · subst e; exact hy.wpOp hi hS ⟨fun _ => hS, H⟩
    · obtain ⟨hun, oj, hoj, hall⟩ := mem_ready.1 hj
      have hi0 : l.getD i false = true → False := fun h1 => by
        have h0 := (mem_ready.1 hr).1
        rcases Nat.lt_or_ge i l.size with q | q
        · simp [q] at h0 h1; rw [h0] at h1; cases h1
        · simp [Array.getElem?_eq_none q] at h1
      have hno : ∀ d ∈ oj.after, Region.binds md d = true → d.on ≠ i := fun d hd hb he => hi0 (by rw [← he]; exact hall d hd hb)
      have hjX : j ∉ X := fun hx => hi0 (dep_listed hl f j oj hoj hall (hX j hx))
      have k := wpOp_putIf hoj (hfree j oj hoj e hun hno) (fun cs b => hsel i oi cs b hi) (fun cs b => hsel j oj cs b hoj) hQ hy (H.2 j (ready_mono hj e))
      have hfree2 : ∀ m om, ops[m]? = some om → m ≠ i → (l.setIfInBounds j true).getD m true = false → (∀ d ∈ om.after, Region.binds md d = true → d.on ≠ i) → oi.apart ops om = true := fun m om hm hmi hu hn => by
        refine hfree m om hm hmi ?_ hn
        by_cases q : j = m
        · subst q; exact hun
        · rw [getD_set_ne true q] at hu; exact hu
      refine wpOp_mono (fun a' w' q => ⟨q.2.1, ih (l.setIfInBounds j true) a' w' (hl.set hj) hfree2 (ready_mono hr (Ne.symm e)) q.1 (q.2.1 hjX) ?_⟩) k
      rw [Array.setIfInBounds_comm _ _ e]
      exact q.2.2
/-- 'Shutl', for the kernel -/
def shutB (md : Region.Mode) (ops : Array Oper) (l : Array Bool) : Bool := (List.range ops.size).all fun x => match ops[x]? with | some o => !(l.getD x false) || o.after.all (fun e => !(Region.binds md e) || l.getD e.on false) | none => true
theorem shutB_spec {l : Array Bool} (h : shutB md ops l = true) : Shutl md ops l := fun x o ho hx e he hb => by
  have hlt : x < ops.size := (Array.getElem?_eq_some_iff.1 ho).1
  have h1 := List.all_eq_true.1 h x (List.mem_range.2 hlt)
  simp only [ho, hx, Bool.not_true, Bool.false_or, Array.all_eq_true_iff_forall_mem] at h1
  have h2 := h1 e he
  simpa [hb] using h2
theorem take_X {f i : Nat} {oi : Oper} {v : Value} {n : Nat} {l : Array Bool} {a : Act} {w : World} (hi : ops[i]? = some oi) (hs : Region.noSelect ops = true) (hf : Region.free md ops l i = true) (hr : (Region.ready md ops l).contains i = true) (hX : (X.all fun x => dep md ops f x i) = true) (hl : shutB md ops l = true)
    (hQ : ∀ c a w, Q (.panic c) (a.put oi.dst v) w → Q (.panic c) a w) (hw : Region.wanted oi (yielded ops a.tmps) = true) (hy : ∀ w, S w → (execOp a.eval oi).run P w = .ok (.value v) w) (hS : S w)
    (h : wpAnyX P md ops Q S X n (l.setIfInBounds i true) (a.put oi.dst v) w) : wpAnyX P md ops Q S X (n + 1) l a w :=
  first_X hi (Region.noSelect_spec hs) (List.all_eq_true.1 hX) hQ n l a w (shutB_spec hl) (Region.free_spec hi hf) (by simpa using hr) (.inl ⟨hw, hy⟩) hS h
def AllX (P : Program) (md : Region.Mode) (ops : Array Oper) (Q : Exit → Act → World → Prop) (S : World → Prop) (X : List Nat) (n : Nat) (l : Array Bool) (a : Act) (w : World) (rs : List Nat) : Prop :=
  ∀ i ∈ rs, wpOp P ops Q i (fun a' w' => (i ∉ X → S w') ∧ wpAnyX P md ops Q S X n (l.setIfInBounds i true) a' w') a w
theorem AllX.nil {n : Nat} {l : Array Bool} {a : Act} {w : World} : AllX P md ops Q S X n l a w [] := fun _ h => absurd h List.not_mem_nil
theorem AllX.cons {n : Nat} {l : Array Bool} {a : Act} {w : World} {i : Nat} {o : Oper} {rs : List Nat} (ho : ops[i]? = some o)
    (h : ∀ K' : Act → World → Prop, Shut (∀ a w, (i ∉ X → S w) → wpAnyX P md ops Q S X n (l.setIfInBounds i true) a w → K' a w) → if Region.wanted o (yielded ops a.tmps) = true then Oper.wp P o a w K' Q else K' (a.put o.dst undef) w)
    (hs : AllX P md ops Q S X n l a w rs) : AllX P md ops Q S X n l a w (i :: rs) := fun j hj => by
  rcases List.mem_cons.1 hj with rfl | hj
  · exact wpOp_step ho (fun K' hK => h K' (fun a w k1 k2 => hK a w ⟨k1, k2⟩))
  · exact hs j hj
theorem ready_X {rs : List Nat} {n : Nat} {l : Array Bool} {a : Act} {w : World} (hr : Region.ready md ops l = rs) (hne : rs ≠ []) (h : AllX P md ops Q S X n l a w rs) : wpAnyX P md ops Q S X (n + 1) l a w :=
  ⟨fun h0 => absurd (hr ▸ h0) hne, hr ▸ h⟩
theorem done_X {l : Array Bool} {a : Act} {w : World} (hr : Region.ready md ops l = []) (h : Q .normal a w) : ∀ n, wpAnyX P md ops Q S X n l a w
  | 0 => ⟨hr, h⟩
  | _ + 1 => ⟨fun _ => h, by rw [hr]; simp⟩
theorem region_X {id : Nat} {a : Act} {w : World} (S : World → Prop) (X : List Nat) (hm : P.follows .mixedOrders = true) (h : wpAnyX P .any ops Q S X ops.size (Array.replicate ops.size false) a w.drew) : (Code.region id ops true).wp P Q a w :=
  wp_region_any hm (any_of_X _ _ _ _ h)
end
end Go.Late

/- The contract of the reference's node: directories, and all. -/
namespace Go.Proofs.Ytlehgacbcacokaa
open Go.RowKit TreeMath RealMath WireMath PackMath

/-- what the loop has come to -/
structure RDirAt (w : World) (top ga gr g3 d cnt : Nat) (ALL : Option (List (List By) × List T × Nat × Rd)) (i : Nat) (W : World) : Prop where
  ex : ∃ ns ks vn vk k r, RDirRel w top ga gr g3 k r ns ks vn vk W ∧ ns.length = i ∧ ks.length = i ∧ k ≤ 64 ∧ r.p.length ≤ 1000000 ∧ loopP (nodeR d) (cnt - i) ns (eraseL ks) k r = ALL
theorem nodeR_facts {d k : Nat} {r : Rd} {t : T} {k' : Nat} {r' : Rd} (h : nodeR d k r = some (t, k', r')) : k' ≤ 64 ∧ r'.p.length ≤ r.p.length := by
  have h1 := (nodeR_P d k r _ h).1 64 (by omega)
  exact ⟨(nodeP_count 64 k r _ h1).2, nodeP_len h1⟩
/-- the same, while a name and a kid are put behind the others: what the node's box has may be elder -/
structure RMid (w : World) (top ga gr g3 k : Nat) (r : Rd) (ns : List (List By)) (ks ys : List T) (u1 u2 vn vk : Value) (W : World) : Prop where
  nin : RNIn w top ga gr g3 k r [.int .u8 1, u1, u2, .slice none 0 0, .bool false, .float .f64 0, .string ⟨#[]⟩] W
  names : Strs W (g3 + 1) vn ns
  kids : Nodes W (g3 + 1) vk ks
  oks : ∀ t, t ∈ ks ∨ t ∈ ys → Ok W W.heap.size t ∧ InS (fun c => g3 < c ∧ vn.ownBlock ≠ some c ∧ vk.ownBlock ≠ some c) t
  each : ∀ s ∈ ns, s.length ≤ 65536
section
variable {w W W' : World} {top ga gr g3 k : Nat} {r : Rd} {ns : List (List By)} {ks ys : List T} {u1 u2 vn vk v' : Value}
theorem RDirRel.mid (h : RDirRel w top ga gr g3 k r ns ks vn vk W) {y : T} (h1 : Ok W W.heap.size y) (h2 : InS (fun c => g3 < c ∧ vn.ownBlock ≠ some c ∧ vk.ownBlock ≠ some c) y) : RMid w top ga gr g3 k r ns ks [y] vn vk vn vk W :=
  ⟨h.nin, h.names, h.kids, fun t ht => by rcases ht with e | e; exact h.oks t e; (obtain rfl : t = y := by simpa using e); exact ⟨h1, h2⟩, h.each⟩
theorem RMid.dir (h : RMid w top ga gr g3 k r ns ks [] vn vk vn vk W) : RDirRel w top ga gr g3 k r ns ks vn vk W := ⟨h.nin, h.names, h.kids, fun t ht => h.oks t (.inl ht), h.each⟩
theorem RMid.alloc (h : RMid w top ga gr g3 k r ns ks ys u1 u2 vn vk W) (o : Obj) : RMid w top ga gr g3 k r ns ks ys u1 u2 vn vk (W.alloc o) := by
  have hb : Below W.heap.size W (W.alloc o) := (Below.refl _ _).alloc (Nat.le_refl _) _
  exact ⟨h.nin.below hb, own_below h.names hb, own_below h.kids hb, fun t ht => ⟨((h.oks t ht).1.keep hb).up hb.size, (h.oks t ht).2⟩, h.each⟩
theorem RMid.appN {s : List By} (h : RMid w top ga gr g3 k r ns ks ys u1 u2 vn vk W) (hs : Strs W' (g3 + 1) v' (ns ++ [s])) (hg : W.grownBy W' vn.ownBlock) (hw : ∀ c, v'.ownBlock = some c → vn.ownBlock = some c ∨ W.heap.size ≤ c) (hl : s.length ≤ 65536) :
    RMid w top ga gr g3 k r (ns ++ [s]) ks ys u1 u2 v' vk W' := by
  refine ⟨h.nin.grow hg (fun c hc => by have := (h.names.lt c hc).1; omega), hs, h.kids.kept h.names hg, fun t ht => ?_, fun x hx => ?_⟩
  · obtain ⟨h1, h2⟩ := h.oks t ht
    refine ⟨h1.turned h2 (grown_turned hg) (fun c hc e => hc.2.1 e), (h2.and h1.inS).mono fun c hc => ⟨hc.1.1, fun e => ?_, hc.1.2.2⟩⟩
    rcases hw c e with e2 | e2
    · exact hc.1.2.1 e2
    · have := hc.2; omega
  · rcases List.mem_append.1 hx with e | e
    · exact h.each x e
    · obtain rfl : x = s := by simpa using e
      exact hl
theorem RMid.appK {y : T} (h : RMid w top ga gr g3 k r ns ks [y] u1 u2 vn vk W) (hs : Nodes W' (g3 + 1) v' (ks ++ [y])) (hg : W.grownBy W' vk.ownBlock) (hw : ∀ c, v'.ownBlock = some c → vk.ownBlock = some c ∨ W.heap.size ≤ c) :
    RMid w top ga gr g3 k r ns (ks ++ [y]) [] u1 u2 vn v' W' := by
  refine ⟨h.nin.grow hg (fun c hc => by have := (h.kids.lt c hc).1; omega), h.names.kept h.kids hg, hs, fun t ht => ?_, h.each⟩
  have ht' : t ∈ ks ∨ t ∈ [y] := by
    rcases ht with e | e
    · exact List.mem_append.1 e
    · cases e
  obtain ⟨h1, h2⟩ := h.oks t ht'
  refine ⟨h1.turned h2 (grown_turned hg) (fun c hc e => hc.2.2 e), (h2.and h1.inS).mono fun c hc => ⟨hc.1.1, hc.1.2.1, fun e => ?_⟩⟩
  rcases hw c e with e2 | e2
  · exact hc.1.2.2 e2
  · have := hc.2; omega
theorem RMid.set (h : RMid w top ga gr g3 k r ns ks ys u1 u2 vn vk W) (i : Nat) (v : Value) (a1 a2 : Value) (hc : ([.int .u8 1, u1, u2, .slice none 0 0, .bool false, .float .f64 0, .string ⟨#[]⟩] : List Value).set i v = [.int .u8 1, a1, a2, .slice none 0 0, .bool false, .float .f64 0, .string ⟨#[]⟩]) :
    RMid w top ga gr g3 k r ns ks ys a1 a2 vn vk (W.setCell ⟨g3, i, none⟩ v) := by
  have hn := h.nin.set i v
  rw [hc] at hn
  refine ⟨hn, own_set h.names (by omega), own_set h.kids (by omega), fun t ht => ?_, h.each⟩
  obtain ⟨h1, h2⟩ := h.oks t ht
  exact ⟨h1.turn h2 (fun c hc _ => Below.heap_setCell W ⟨g3, i, none⟩ v c (by have := hc.1; simp only; omega)) (fun _ _ hl => by rw [World.size_setCell]; exact hl), h2⟩
/-- the loads of the two appends, whatever was made besides -/
theorem RMid.nine {g : Nat} {z : Hd} {n : Nat} (h : RMid w top ga gr g3 k r ns ks ys u1 u2 vn vk W) (hb : Blk W g 27 (cellsOf z n)) :
    W.cell? ⟨g3, 1, none⟩ = some u1 ∧ W.cell? ⟨g3, 2, none⟩ = some u2 ∧ W.cell? ⟨g, 0, none⟩ = some (vb z.kind) ∧ W.cell? ⟨g, 1, none⟩ = some (.slice z.na z.names.length z.nc) ∧ W.cell? ⟨g, 2, none⟩ = some (.slice z.ka n z.kc) ∧ W.cell? ⟨g, 3, none⟩ = some (.slice z.da z.data.length z.dc) ∧ W.cell? ⟨g, 4, none⟩ = some (.bool z.run) ∧ W.cell? ⟨g, 5, none⟩ = some (.float .f64 z.stamp) ∧ W.cell? ⟨g, 6, none⟩ = some (vs z.target) :=
  ⟨h.nin.b3.cell 1, h.nin.b3.cell 2, hb.cell 0, hb.cell 1, hb.cell 2, hb.cell 3, hb.cell 4, hb.cell 5, hb.cell 6⟩
theorem Blk.grown {b : Nat} {t : TypeId} {cs : List Value} {v : Option Nat} (h : Blk W b t cs) (hg : W.grownBy W' v) (hne : v ≠ some b) : Blk W' b t cs := by
  unfold Blk; rw [hg.block b h.lt (fun e => hne e.symm)]; exact h
end
set_option maxHeartbeats 8000000 in
set_option maxRecDepth 100000 in
theorem rnode_dir (d top ga gr k deep : Nat) (r : Rd) (w : World) (hr : r.p.length ≤ 1000000) (hk : k < 64) (hd : deep ≤ 8) (hla : ga < w.heap.size) (hlr : gr < w.heap.size) (h : InIs w top ga gr k r) (hdd : deep + (d + 1) = 9) (IH : RNodeOf d) (hff : (after 1 r).f = false) (hkind : numR 1 r = 1) :
    Calls Try.prog 104 #[.pointer (some ⟨gr, 0, none⟩), .int .i64 deep, .pointer (some ⟨ga, 0, none⟩)] w (RNodePost (d + 1) w top ga gr k r) := by
  have HN : Hid (nodeR (d + 1) k r = match loopP (nodeR d) (numR 1 (after 1 r)) [] [] (k + 1) (after 1 (after 1 r)) with | none => none | some (ns, ks, k', r') => if r'.f then none else some (.mk (dirE ns) ks, k', r')) := by
    show _ = _
    rw [nodeR, if_neg (by rw [hff]; simp; omega), if_pos hkind]
    cases loopP (nodeR d) (numR 1 (after 1 r)) [] [] (k + 1) (after 1 (after 1 r)) <;> rfl
  have HKD := Lib.hid hkind; have HIH := Lib.hid IH
  clear hkind IH
  have HA : Hid (InIs ((w.setCell ⟨ga, 0, none⟩ (.int .i64 ((k : Int) + 1))).alloc (.cells zero7.toArray 27)) top ga gr (k + 1) r) := rstart_is h _
  have HOK := Lib.hid h.ok
  have c1 := h.blk.cell 0; have f1 := h.blk.frozen 0
  simp only [List.getElem?_cons_zero] at c1
  clear h
  have hnl : numR 1 r < 256 := numR_lt 1 r
  go_enter Try.func104, Try.ntmps104
  go_wp2_with fail
  refine (iwide_any top gr 1 (by omega) r hr HOK.out _ HA.out.rd).mono ?_
  rintro e w1 ⟨rfl, h1, h2⟩
  rw [HKD.out]
  have HI := Lib.hid (rstart_nin hla hlr #[.int .u8 1, .slice none 0 0, .slice none 0 0, .slice none 0 0, .bool false, .float .f64 0, .string ⟨#[]⟩] HA.out h1 h2 (ok_after HOK.out 1))
  clear h1 h2 HA c1 f1 hnl
  have hr1 := Nat.le_trans (after_len 1 r) hr
  have HOK1 := Lib.hid (ok_after HOK.out 1)
  clear HOK
  generalize after 1 r = r1 at *
  go_upto_region 3 with fail
  generalize hW : w1.alloc (.cells #[.int .u8 1, .slice none 0 0, .slice none 0 0, .slice none 0 0, .bool false, .float .f64 0, .string ⟨#[]⟩] 27) = W2 at *
  clear hW
  obtain ⟨A1, q1, hg1, -⟩ := HI.out.ar.rd.ex
  have cf := hg1.cell 1; have ck := HI.out.ar.blk.cell 0; have d0 := HI.out.b3.cell 0
  simp only [List.getElem?_cons_zero, List.getElem?_cons_succ] at cf ck d0
  rw [hff] at cf
  clear hg1 hff
  have e1 : decide ((8 : Int) < (deep : Int)) = false := decide_eq_false (by omega)
  have e3 : decide ((64 : Int) < (k : Int) + 1) = false := decide_eq_false (by omega)
  have e2 : decide ((64 : Int) < ((k + 1 : Nat) : Int)) = false := decide_eq_false (by omega)
  go_wp2_with fail
  refine (iwide_any top gr 1 (by omega) r1 hr1 HOK1.out W2 HI.out.ar.rd).mono ?_
  rintro e w3 ⟨rfl, h1, h2⟩
  have HI3 := Lib.hid (HI.out.step (HI.out.ar.read h1 h2 (ok_after HOK1.out 1)) h2.ar)
  clear h1 h2 d0 HI cf ck e1 e2 e3 HOK1
  have hcnt : numR 1 r1 < 256 := numR_lt 1 r1
  have hr2 := Nat.le_trans (after_len 1 r1) hr1
  generalize after 1 r1 = r2 at *
  generalize numR 1 r1 = cnt at *
  have HST : Hid (RDirAt w top ga gr w1.heap.size d cnt (loopP (nodeR d) cnt [] [] (k + 1) r2) 0 w3) := ⟨[], [], .slice none 0 0, .slice none 0 0, k + 1, r2, ⟨HI3.out, strs_nil _ _, nodes_nil _ _, (fun t ht => by cases ht), (fun t ht => by cases ht)⟩, rfl, rfl, by omega, hr2, rfl⟩
  clear HI3
  generalize hALL : loopP (nodeR d) cnt [] [] (k + 1) r2 = ALL at *
  clear hALL
  go_wp2_with fail
  go_loopw [10] (fun vi wr => ∃ i : Nat, i ≤ cnt ∧ vi = .int .i64 i ∧ Hid (RDirAt w top ga gr w1.heap.size d cnt ALL i wr)) (fun vi _ => cnt - (intOf vi).toNat)
  case atStart => exact ⟨0, Nat.zero_le _, rfl, HST.out⟩
  case round =>
    obtain ⟨i, hi, rfl, HP⟩ := hrel
    rename World => W0
    clear HST
    obtain ⟨ns, ks, vn, vk, k1, r3, hdr, hn1, hn2, hk1, hr3, hloop⟩ := HP.out.ex
    have HD := Lib.hid hdr; have HN1 := Lib.hid hn1; have HN2 := Lib.hid hn2; have HLP := Lib.hid hloop
    clear hdr hn1 hn2 hloop HP
    by_cases hlt : i < cnt
    · have HLS := Lib.hid ((loopP_step hlt ns (eraseL ks) k1 r3).symm.trans HLP.out)
      clear HLP
      have hr4 : (textA r3).p.length ≤ 1000000 := Nat.le_trans (Nat.le_trans (after_len _ _) (after_len _ _)) hr3
      have HTL : Hid ((textR r3).length ≤ 65536) := textR_len r3
      go_wp2_with fail
      refine (itext_any top gr r3 hr3 HD.out.nin.ar.ok W0 HD.out.nin.ar.rd).mono ?_
      rintro e w4 ⟨rfl, h1, h2⟩
      have HD4 := Lib.hid (HD.out.read (HD.out.nin.ar.read h1 h2 (ok_textA HD.out.nin.ar.ok)) h2.ar)
      clear h1 h2 HD
      generalize textR r3 = tx at *
      generalize textA r3 = r4 at *
      have HC : Hid (Calls Try.prog 104 #[.pointer (some ⟨gr, 0, none⟩), .int .i64 ((deep : Int) + 1), .pointer (some ⟨ga, 0, none⟩)] w4 (RNodePost d w4 top ga gr k1 r4)) := HIH.out top ga gr k1 (deep + 1) r4 w4 hr4 hk1 (by omega) HD4.out.nin.ar.blk.lt (by obtain ⟨A, c, hg, -⟩ := HD4.out.nin.ar.rd.ex; exact hg.lt) HD4.out.nin.ar
      cases hnp : nodeR d k1 r4 with
      | none =>
        have HCN : Hid (Calls Try.prog 104 #[.pointer (some ⟨gr, 0, none⟩), .int .i64 ((deep : Int) + 1), .pointer (some ⟨ga, 0, none⟩)] w4 fun e w' => ∃ z n, e = .returned (.tuple #[nv z n, .bool false]) ∧ Turned (ArSet ga gr) (ArSet ga gr) w4 w') := HC.out.mono fun e w' h => by
          have h2 := h.2
          rw [hnp] at h2
          obtain ⟨z, n, he⟩ := h2
          exact ⟨z, n, he, h.1⟩
        have HNN : Hid (nodeR (d + 1) k r = none) := by
          have h1 := HLS.out
          rw [hnp] at h1
          show _ = _
          rw [HN.out, ← h1]
        clear hnp HC HLS HN
        go_wp2_with fail
        refine HCN.out.mono ?_
        rintro e w5 ⟨z, n, rfl, h5⟩
        obtain ⟨An, cn, hvn, -⟩ := HD4.out.names.src
        obtain ⟨Ak, ck, hvk, -⟩ := HD4.out.kids.src
        subst hvn hvk
        have hla4 := HD4.out.nin.la; have hlr4 := HD4.out.nin.lr; have hlt4 := HD4.out.nin.lt
        have hb2 := h5.blk HD4.out.nin.b2 (fun e => by rcases e with e | e <;> omega)
        have hb3 := h5.blk HD4.out.nin.b3 (fun e => by rcases e with e | e <;> omega)
        have HT6 : Hid (Turned (ArSet ga gr) (ArSet ga gr) w (w5.alloc (.cells #[vb z.kind, .slice z.na z.names.length z.nc, .slice z.ka n z.kc, .slice z.da z.data.length z.dc, .bool z.run, .float .f64 z.stamp, vs z.target] 27))) := (HD4.out.nin.turned.trans h5).trans (Turned.of_below ((Below.refl _ _).alloc (Nat.le_refl _) _))
        have HB2 := Lib.hid (hb2.alloc (.cells #[vb z.kind, .slice z.na z.names.length z.nc, .slice z.ka n z.kc, .slice z.da z.data.length z.dc, .bool z.run, .float .f64 z.stamp, vs z.target] 27)); have HB3 := Lib.hid (hb3.alloc (.cells #[vb z.kind, .slice z.na z.names.length z.nc, .slice z.ka n z.kc, .slice z.da z.data.length z.dc, .bool z.run, .float .f64 z.stamp, vs z.target] 27))
        clear hb2 hb3 h5
        go_upto_region 14 with fail
        generalize hW : w5.alloc (.cells #[vb z.kind, .slice z.na z.names.length z.nc, .slice z.ka n z.kc, .slice z.da z.data.length z.dc, .bool z.run, .float .f64 z.stamp, vs z.target] 27) = W6 at *
        clear hW
        have d0 := HB3.out.cell 0; have d1 := HB3.out.cell 1; have d2 := HB3.out.cell 2; have d3 := HB3.out.cell 3; have d4 := HB3.out.cell 4; have d5 := HB3.out.cell 5; have d6 := HB3.out.cell 6
        have k0 := HB2.out.cell 0; have k1' := HB2.out.cell 1; have k2 := HB2.out.cell 2; have k3 := HB2.out.cell 3; have k4 := HB2.out.cell 4; have k5 := HB2.out.cell 5; have k6 := HB2.out.cell 6
        have f0 := HB2.out.frozen 0; have f1 := HB2.out.frozen 1; have f2 := HB2.out.frozen 2; have f3 := HB2.out.frozen 3; have f4 := HB2.out.frozen 4; have f5 := HB2.out.frozen 5; have f6 := HB2.out.frozen 6
        have hl6 := HB2.out.lt
        simp only [List.getElem?_cons_zero, List.getElem?_cons_succ] at d0 d1 d2 d3 d4 d5 d6 k0 k1' k2 k3 k4 k5 k6
        go_wp2_with fail
        exact rnode_false2 (dirHd An cn ns Ak ck) ks.length rfl rfl HB2.out HT6.out HNN.out
      | some o =>
        obtain ⟨t, k2, r5⟩ := o
        have HCN : Hid (Calls Try.prog 104 #[.pointer (some ⟨gr, 0, none⟩), .int .i64 ((deep : Int) + 1), .pointer (some ⟨ga, 0, none⟩)] w4 fun e w' => ∃ z lz, e = .returned (.tuple #[nv z lz.length, .bool true]) ∧ erase (.mk z lz) = t ∧ Ok w' w'.heap.size (.mk z lz) ∧ InS (fun c => w4.heap.size ≤ c) (.mk z lz) ∧ InIs w' top ga gr k2 r5 ∧ Turned (ArSet ga gr) (ArSet ga gr) w4 w') := HC.out.mono fun e w' h => by
          obtain ⟨h1, h2⟩ := h
          rw [hnp] at h2
          obtain ⟨z, lz, a1, a2, a3, a4, a5⟩ := h2
          exact ⟨z, lz, a1, a2, a3, a4, a5, h1⟩
        have HLS2 : Hid (loopP (nodeR d) (cnt - (i + 1)) (ns ++ [tx]) (eraseL ks ++ [t]) k2 r5 = ALL) := by
          have h1 := HLS.out
          rw [hnp] at h1
          exact h1
        have HK2 := Lib.hid (nodeR_facts hnp)
        clear hnp HC HLS
        go_wp2_with fail
        refine HCN.out.mono ?_
        rintro e w5 ⟨z, lz, rfl, h1, h2, h3, h4, h5⟩
        have HB5 : Hid (Below w5.heap.size w5 (w5.alloc (.cells #[vb z.kind, .slice z.na z.names.length z.nc, .slice z.ka lz.length z.kc, .slice z.da z.data.length z.dc, .bool z.run, .float .f64 z.stamp, vs z.target] 27))) := (Below.refl _ _).alloc (Nat.le_refl _) _
        have HD6 := Lib.hid ((HD4.out.read h4 h5).grown HB5.out)
        have HBX : Hid (Blk (w5.alloc (.cells #[vb z.kind, .slice z.na z.names.length z.nc, .slice z.ka lz.length z.kc, .slice z.da z.data.length z.dc, .bool z.run, .float .f64 z.stamp, vs z.target] 27)) w5.heap.size 27 (cellsOf z lz.length)) := Blk.new w5 27 _
        have HE := Lib.hid h1; have HO6 := Lib.hid ((h2.keep HB5.out).up HB5.out.size)
        have hgw : w1.heap.size < w4.heap.size := HD4.out.nin.b3.lt
        have HIN : Hid (InS (fun c => w1.heap.size < c ∧ vn.ownBlock ≠ some c ∧ vk.ownBlock ≠ some c) (.mk z lz)) := h3.mono fun c hc => ⟨by omega, fun e => by have := (HD4.out.names.lt c e).2; omega, fun e => by have := (HD4.out.kids.lt c e).2; omega⟩
        have HG5 : Hid (w1.heap.size < w5.heap.size) := Nat.lt_of_lt_of_le hgw h5.size
        have HNV : Hid (∀ c, vn.ownBlock = some c → c < w5.heap.size) := fun c e => Nat.lt_of_lt_of_le (HD4.out.names.lt c e).2 h5.size
        have HKV : Hid (∀ c, vk.ownBlock = some c → c < w5.heap.size) := fun c e => Nat.lt_of_lt_of_le (HD4.out.kids.lt c e).2 h5.size
        clear h1 h2 h3 h4 h5 HCN HD4 HB5
        go_upto_region 16 with fail
        generalize hW : w5.alloc (.cells #[vb z.kind, .slice z.na z.names.length z.nc, .slice z.ka lz.length z.kc, .slice z.da z.data.length z.dc, .bool z.run, .float .f64 z.stamp, vs z.target] 27) = W6 at *
        clear hW
        have HM0 : Hid (RMid w top ga gr w1.heap.size k2 r5 ns ks [.mk z lz] vn vk vn vk W6.drew) := by
          have hb : Below W6.heap.size W6 W6.drew := (Below.refl _ _).drew
          exact (HD6.out.grown hb).mid ((HO6.out.keep hb).up hb.size) HIN.out
        have HBX0 : Hid (Blk W6.drew w5.heap.size 27 (cellsOf z lz.length)) := HBX.out.drew
        have hnl : ns.length + 1 ≤ 1000000 := by have := HN1.out; omega
        have hkl : ks.length + 1 ≤ 1000000 := by have := HN2.out; omega
        clear HD6 HBX HO6 HIN
        refine Late.region_X (fun W' => W'.cell? ⟨w1.heap.size, 1, none⟩ = some vn ∧ W'.cell? ⟨w1.heap.size, 2, none⟩ = some vk ∧ W'.cell? ⟨w5.heap.size, 0, none⟩ = some (vb z.kind) ∧ W'.cell? ⟨w5.heap.size, 1, none⟩ = some (.slice z.na z.names.length z.nc) ∧ W'.cell? ⟨w5.heap.size, 2, none⟩ = some (.slice z.ka lz.length z.kc) ∧ W'.cell? ⟨w5.heap.size, 3, none⟩ = some (.slice z.da z.data.length z.dc) ∧ W'.cell? ⟨w5.heap.size, 4, none⟩ = some (.bool z.run) ∧ W'.cell? ⟨w5.heap.size, 5, none⟩ = some (.float .f64 z.stamp) ∧ W'.cell? ⟨w5.heap.size, 6, none⟩ = some (vs z.target)) [11, 12, 13] (by kernel_rfl) ?_
        generalize W6.drew = V0 at *
        have q0 := HM0.out.nine HBX0.out
        refine Late.take_X (f := 4) (i := 0) (v := ?_) rfl (by kernel_rfl) (by kernel_rfl) (by kernel_rfl) (by kernel_rfl) (by kernel_rfl) (fun _ _ _ h => h) (by rfl) ?_ q0 ?_
        rotate_left
        · intro w hw
          obtain ⟨s1, s2, s3, s4, s5, s6, s7, s8, s9⟩ := hw
          go_simp
          with_reducible rfl
        refine Late.take_X (f := 4) (i := 1) (v := ?_) rfl (by kernel_rfl) (by kernel_rfl) (by kernel_rfl) (by kernel_rfl) (by kernel_rfl) (fun _ _ _ h => h) (by rfl) ?_ q0 ?_
        rotate_left
        · intro w hw
          obtain ⟨s1, s2, s3, s4, s5, s6, s7, s8, s9⟩ := hw
          go_simp
          with_reducible rfl
        refine Late.take_X (f := 4) (i := 2) (v := ?_) rfl (by kernel_rfl) (by kernel_rfl) (by kernel_rfl) (by kernel_rfl) (by kernel_rfl) (fun _ _ _ h => h) (by rfl) ?_ q0 ?_
        rotate_left
        · intro w hw
          obtain ⟨s1, s2, s3, s4, s5, s6, s7, s8, s9⟩ := hw
          go_simp
          with_reducible rfl
        refine Late.take_X (f := 4) (i := 5) (v := ?_) rfl (by kernel_rfl) (by kernel_rfl) (by kernel_rfl) (by kernel_rfl) (by kernel_rfl) (fun _ _ _ h => h) (by rfl) ?_ q0 ?_
        rotate_left
        · intro w hw
          obtain ⟨s1, s2, s3, s4, s5, s6, s7, s8, s9⟩ := hw
          go_simp
          with_reducible rfl
        refine Late.take_X (f := 4) (i := 6) (v := ?_) rfl (by kernel_rfl) (by kernel_rfl) (by kernel_rfl) (by kernel_rfl) (by kernel_rfl) (fun _ _ _ h => h) (by rfl) ?_ q0 ?_
        rotate_left
        · intro w hw
          obtain ⟨s1, s2, s3, s4, s5, s6, s7, s8, s9⟩ := hw
          go_simp
          with_reducible rfl
        refine Late.take_X (f := 4) (i := 7) (v := ?_) rfl (by kernel_rfl) (by kernel_rfl) (by kernel_rfl) (by kernel_rfl) (by kernel_rfl) (fun _ _ _ h => h) (by rfl) ?_ q0 ?_
        rotate_left
        · intro w hw
          obtain ⟨s1, s2, s3, s4, s5, s6, s7, s8, s9⟩ := hw
          go_simp
          with_reducible rfl
        have hV5 : w5.heap.size < V0.heap.size := HBX0.out.lt
        refine Late.ready_X (rs := [3, 8]) (by kernel_rfl) (by simp) ?_
        refine Late.AllX.cons rfl (fun K' hK => ?_) ?_
        · have HMa := Lib.hid (HM0.out.alloc (.cells #[vs tx] 9))
          have HBa := Lib.hid (HBX0.out.alloc (.cells #[vs tx] 9))
          have HCA : Hid (∀ j u, ([tx].map vs)[j]? = some u → (V0.alloc (.cells #[vs tx] 9)).cell? ((⟨V0.heap.size, 0, none⟩ : Addr).add j) = some u) := fun j u hj => by
            rw [Addr.add_mid, Nat.zero_add, (Blk.new V0 9 #[vs tx]).cell]; exact hj
          go_simp
          refine hK.out _ _ (fun _ => HMa.out.nine HBa.out) ?_
          refine Late.ready_X (rs := [4, 8]) (by kernel_rfl) (by simp) ?_
          refine Late.AllX.cons rfl (fun K' hK => ?_) ?_
          · refine step_strs2 (by rfl) (.tmp 68) (.tmp 70) (by rfl) (w1.heap.size + 1) vn ns (by rfl) HMa.out.names ⟨V0.heap.size, 0, none⟩ 1 1 [tx] rfl (by rfl) HCA.out hnl HMa.out.nin.b3.lt ?_
            intro v7 w7 h7 g7 p7
            obtain ⟨A7, c7, rfl, -⟩ := h7.src
            have HM7 := Lib.hid (RMid.appN HMa.out h7 g7 p7 HTL.out)
            have HB7 := Lib.hid (Blk.grown HBa.out g7 (fun e => by have := HNV.out _ e; omega))
            have G7 := Lib.hid g7
            clear h7 p7 g7
            refine hK.out _ _ (fun _ => HM7.out.nine HB7.out) ?_
            refine Late.take_X (f := 4) (i := 10) (v := ?_) rfl (by kernel_rfl) (by kernel_rfl) (by kernel_rfl) (by kernel_rfl) (by kernel_rfl) (fun _ _ _ h => h) (by rfl) ?_ (HM7.out.nine HB7.out) ?_
            rotate_left
            · intro w hw
              obtain ⟨s1, s2, s3, s4, s5, s6, s7, s8, s9⟩ := hw
              go_simp
              with_reducible rfl
            have HMb := Lib.hid (HM7.out.alloc (.cells #[vb z.kind, .slice z.na z.names.length z.nc, .slice z.ka lz.length z.kc, .slice z.da z.data.length z.dc, .bool z.run, .float .f64 z.stamp, vs z.target] 27))
            have HBb := Lib.hid (HB7.out.alloc (.cells #[vb z.kind, .slice z.na z.names.length z.nc, .slice z.ka lz.length z.kc, .slice z.da z.data.length z.dc, .bool z.run, .float .f64 z.stamp, vs z.target] 27))
            have HCK : Hid (∀ j u, ([T.mk z lz].flatMap cellsT)[j]? = some u → (w7.alloc (.cells #[vb z.kind, .slice z.na z.names.length z.nc, .slice z.ka lz.length z.kc, .slice z.da z.data.length z.dc, .bool z.run, .float .f64 z.stamp, vs z.target] 27)).cell? ((⟨w7.heap.size, 0, none⟩ : Addr).add j) = some u) := fun j u hj => by
              rw [Addr.add_mid, Nat.zero_add, (Blk.new w7 27 #[vb z.kind, .slice z.na z.names.length z.nc, .slice z.ka lz.length z.kc, .slice z.da z.data.length z.dc, .bool z.run, .float .f64 z.stamp, vs z.target]).cell]; exact hj
            refine Late.ready_X (rs := [8]) (by kernel_rfl) (by simp) ?_
            refine Late.AllX.cons rfl (fun K' hK => ?_) Late.AllX.nil
            go_simp
            refine hK.out _ _ (fun _ => HMb.out.nine HBb.out) ?_
            refine Late.ready_X (rs := [9]) (by kernel_rfl) (by simp) ?_
            refine Late.AllX.cons rfl (fun K' hK => ?_) Late.AllX.nil
            refine step_nodes2 (by rfl) (.tmp 73) (.tmp 75) (by rfl) (w1.heap.size + 1) vk ks (by rfl) HMb.out.kids ⟨w7.heap.size, 0, none⟩ 1 1 [T.mk z lz] rfl (by rfl) HCK.out hkl HMb.out.nin.b3.lt ?_
            intro v8 w8 h8 g8 p8
            obtain ⟨A8, c8, rfl, -⟩ := h8.src
            have HM8 := Lib.hid (RMid.appK HMb.out h8 g8 p8)
            have HB8 := Lib.hid (Blk.grown HBb.out g8 (fun e => by have := HKV.out _ e; omega))
            clear h8 g8 p8
            refine hK.out _ _ (fun _ => HM8.out.nine HB8.out) ?_
            have c1 := HM8.out.nin.b3.cell 1; have f1 := HM8.out.nin.b3.frozen 1; have c2 := HM8.out.nin.b3.cell 2; have f2 := HM8.out.nin.b3.frozen 2; have hl8 := HM8.out.nin.b3.lt
            simp only [List.getElem?_cons_zero, List.getElem?_cons_succ] at c1 c2
            have HM9 := Lib.hid ((HM8.out.set 1 (.slice A7 (ns ++ [tx]).length c7) (.slice A7 (ns ++ [tx]).length c7) vk rfl).set 2 (.slice A8 (ks ++ [T.mk z lz]).length c8) _ (.slice A8 (ks ++ [T.mk z lz]).length c8) rfl).dir
            rw [List.length_append, List.length_append, List.length_singleton, List.length_singleton] at HM9
            refine Late.ready_X (rs := [11]) (by kernel_rfl) (by simp) ?_
            refine Late.AllX.cons rfl (fun K' hK => ?_) Late.AllX.nil
            go_simp
            refine hK.out _ _ (fun h => absurd (by simp) h) ?_
            refine Late.ready_X (rs := [12]) (by kernel_rfl) (by simp) ?_
            refine Late.AllX.cons rfl (fun K' hK => ?_) Late.AllX.nil
            go_simp
            refine hK.out _ _ (fun h => absurd (by simp) h) ?_
            refine Late.ready_X (rs := [13]) (by kernel_rfl) (by simp) ?_
            refine Late.AllX.cons rfl (fun K' hK => ?_) Late.AllX.nil
            go_simp
            refine hK.out _ _ (fun h => absurd (by simp) h) ?_
            refine Late.done_X (by kernel_rfl) ?_ _
            clear c1 f1 c2 f2
            go_wp2_with fail
            go_roundw
            case rel =>
              refine ⟨i + 1, by omega, by go_num, ?_⟩
              exact ⟨ns ++ [tx], ks ++ [T.mk z lz], _, _, k2, r5, HM9.out, by have := HN1.out; simp; omega, by have := HN2.out; simp; omega, HK2.out.1, Nat.le_trans HK2.out.2 hr4, by rw [eraseL_append, eraseL, eraseL, HE.out]; exact HLS2.out⟩
            case measure => simp [intOf]; omega
          · refine Late.AllX.cons rfl (fun K' hK => ?_) Late.AllX.nil
            have HMb := Lib.hid (HMa.out.alloc (.cells #[vb z.kind, .slice z.na z.names.length z.nc, .slice z.ka lz.length z.kc, .slice z.da z.data.length z.dc, .bool z.run, .float .f64 z.stamp, vs z.target] 27))
            have HBb := Lib.hid (HBa.out.alloc (.cells #[vb z.kind, .slice z.na z.names.length z.nc, .slice z.ka lz.length z.kc, .slice z.da z.data.length z.dc, .bool z.run, .float .f64 z.stamp, vs z.target] 27))
            have HCA2 : Hid (∀ j u, ([tx].map vs)[j]? = some u → ((V0.alloc (.cells #[vs tx] 9)).alloc (.cells #[vb z.kind, .slice z.na z.names.length z.nc, .slice z.ka lz.length z.kc, .slice z.da z.data.length z.dc, .bool z.run, .float .f64 z.stamp, vs z.target] 27)).cell? ((⟨V0.heap.size, 0, none⟩ : Addr).add j) = some u) := fun j u hj => by
              rw [Addr.add_mid, Nat.zero_add, ((Blk.new V0 9 #[vs tx]).alloc (.cells #[vb z.kind, .slice z.na z.names.length z.nc, .slice z.ka lz.length z.kc, .slice z.da z.data.length z.dc, .bool z.run, .float .f64 z.stamp, vs z.target] 27)).cell]; exact hj
            have HNB : Hid (Blk ((V0.alloc (.cells #[vs tx] 9)).alloc (.cells #[vb z.kind, .slice z.na z.names.length z.nc, .slice z.ka lz.length z.kc, .slice z.da z.data.length z.dc, .bool z.run, .float .f64 z.stamp, vs z.target] 27)) (V0.heap.size + 1) 27 (cellsOf z lz.length)) := by
              have := Blk.new (V0.alloc (.cells #[vs tx] 9)) 27 #[vb z.kind, .slice z.na z.names.length z.nc, .slice z.ka lz.length z.kc, .slice z.da z.data.length z.dc, .bool z.run, .float .f64 z.stamp, vs z.target]
              rw [World.size_alloc] at this; exact this
            go_simp
            refine hK.out _ _ (fun _ => HMb.out.nine HBb.out) ?_
            refine Late.ready_X (rs := [4]) (by kernel_rfl) (by simp) ?_
            refine Late.AllX.cons rfl (fun K' hK => ?_) Late.AllX.nil
            refine step_strs2 (by rfl) (.tmp 68) (.tmp 70) (by rfl) (w1.heap.size + 1) vn ns (by rfl) HMb.out.names ⟨V0.heap.size, 0, none⟩ 1 1 [tx] rfl (by rfl) HCA2.out hnl HMb.out.nin.b3.lt ?_
            intro v7 w7 h7 g7 p7
            obtain ⟨A7, c7, rfl, -⟩ := h7.src
            have HM7 := Lib.hid (RMid.appN HMb.out h7 g7 p7 HTL.out)
            have HB7 := Lib.hid (Blk.grown HBb.out g7 (fun e => by have := HNV.out _ e; omega))
            have G7 := Lib.hid g7
            clear h7 p7 g7
            refine hK.out _ _ (fun _ => HM7.out.nine HB7.out) ?_
            refine Late.take_X (f := 4) (i := 10) (v := ?_) rfl (by kernel_rfl) (by kernel_rfl) (by kernel_rfl) (by kernel_rfl) (by kernel_rfl) (fun _ _ _ h => h) (by rfl) ?_ (HM7.out.nine HB7.out) ?_
            rotate_left
            · intro w hw
              obtain ⟨s1, s2, s3, s4, s5, s6, s7, s8, s9⟩ := hw
              go_simp
              with_reducible rfl
            have HCK : Hid (∀ j u, ([T.mk z lz].flatMap cellsT)[j]? = some u → (w7).cell? ((⟨V0.heap.size + 1, 0, none⟩ : Addr).add j) = some u) := fun j u hj => by
              rw [Addr.add_mid, Nat.zero_add, (Blk.grown HNB.out G7.out (fun e => by have := HNV.out _ e; omega)).cell]; exact hj
            refine Late.ready_X (rs := [9]) (by kernel_rfl) (by simp) ?_
            refine Late.AllX.cons rfl (fun K' hK => ?_) Late.AllX.nil
            refine step_nodes2 (by rfl) (.tmp 73) (.tmp 75) (by rfl) (w1.heap.size + 1) vk ks (by rfl) HM7.out.kids ⟨V0.heap.size + 1, 0, none⟩ 1 1 [T.mk z lz] rfl (by rfl) HCK.out hkl HM7.out.nin.b3.lt ?_
            intro v8 w8 h8 g8 p8
            obtain ⟨A8, c8, rfl, -⟩ := h8.src
            have HM8 := Lib.hid (RMid.appK HM7.out h8 g8 p8)
            have HB8 := Lib.hid (Blk.grown HB7.out g8 (fun e => by have := HKV.out _ e; omega))
            clear h8 g8 p8
            refine hK.out _ _ (fun _ => HM8.out.nine HB8.out) ?_
            have c1 := HM8.out.nin.b3.cell 1; have f1 := HM8.out.nin.b3.frozen 1; have c2 := HM8.out.nin.b3.cell 2; have f2 := HM8.out.nin.b3.frozen 2; have hl8 := HM8.out.nin.b3.lt
            simp only [List.getElem?_cons_zero, List.getElem?_cons_succ] at c1 c2
            have HM9 := Lib.hid ((HM8.out.set 1 (.slice A7 (ns ++ [tx]).length c7) (.slice A7 (ns ++ [tx]).length c7) vk rfl).set 2 (.slice A8 (ks ++ [T.mk z lz]).length c8) _ (.slice A8 (ks ++ [T.mk z lz]).length c8) rfl).dir
            rw [List.length_append, List.length_append, List.length_singleton, List.length_singleton] at HM9
            refine Late.ready_X (rs := [11]) (by kernel_rfl) (by simp) ?_
            refine Late.AllX.cons rfl (fun K' hK => ?_) Late.AllX.nil
            go_simp
            refine hK.out _ _ (fun h => absurd (by simp) h) ?_
            refine Late.ready_X (rs := [12]) (by kernel_rfl) (by simp) ?_
            refine Late.AllX.cons rfl (fun K' hK => ?_) Late.AllX.nil
            go_simp
            refine hK.out _ _ (fun h => absurd (by simp) h) ?_
            refine Late.ready_X (rs := [13]) (by kernel_rfl) (by simp) ?_
            refine Late.AllX.cons rfl (fun K' hK => ?_) Late.AllX.nil
            go_simp
            refine hK.out _ _ (fun h => absurd (by simp) h) ?_
            refine Late.done_X (by kernel_rfl) ?_ _
            clear c1 f1 c2 f2
            go_wp2_with fail
            go_roundw
            case rel =>
              refine ⟨i + 1, by omega, by go_num, ?_⟩
              exact ⟨ns ++ [tx], ks ++ [T.mk z lz], _, _, k2, r5, HM9.out, by have := HN1.out; simp; omega, by have := HN2.out; simp; omega, HK2.out.1, Nat.le_trans HK2.out.2 hr4, by rw [eraseL_append, eraseL, eraseL, HE.out]; exact HLS2.out⟩
            case measure => simp [intOf]; omega
        · refine Late.AllX.cons rfl (fun K' hK => ?_) Late.AllX.nil
          have HMa := Lib.hid (HM0.out.alloc (.cells #[vb z.kind, .slice z.na z.names.length z.nc, .slice z.ka lz.length z.kc, .slice z.da z.data.length z.dc, .bool z.run, .float .f64 z.stamp, vs z.target] 27))
          have HBa := Lib.hid (HBX0.out.alloc (.cells #[vb z.kind, .slice z.na z.names.length z.nc, .slice z.ka lz.length z.kc, .slice z.da z.data.length z.dc, .bool z.run, .float .f64 z.stamp, vs z.target] 27))
          go_simp
          refine hK.out _ _ (fun _ => HMa.out.nine HBa.out) ?_
          have HMb := Lib.hid (HMa.out.alloc (.cells #[vs tx] 9))
          have HBb := Lib.hid (HBa.out.alloc (.cells #[vs tx] 9))
          have HNB : Hid (Blk ((V0.alloc (.cells #[vb z.kind, .slice z.na z.names.length z.nc, .slice z.ka lz.length z.kc, .slice z.da z.data.length z.dc, .bool z.run, .float .f64 z.stamp, vs z.target] 27)).alloc (.cells #[vs tx] 9)) V0.heap.size 27 (cellsOf z lz.length)) := (Blk.new V0 27 #[vb z.kind, .slice z.na z.names.length z.nc, .slice z.ka lz.length z.kc, .slice z.da z.data.length z.dc, .bool z.run, .float .f64 z.stamp, vs z.target]).alloc _
          have HCA2 : Hid (∀ j u, ([tx].map vs)[j]? = some u → ((V0.alloc (.cells #[vb z.kind, .slice z.na z.names.length z.nc, .slice z.ka lz.length z.kc, .slice z.da z.data.length z.dc, .bool z.run, .float .f64 z.stamp, vs z.target] 27)).alloc (.cells #[vs tx] 9)).cell? ((⟨V0.heap.size + 1, 0, none⟩ : Addr).add j) = some u) := fun j u hj => by
            have hb := Blk.new (V0.alloc (.cells #[vb z.kind, .slice z.na z.names.length z.nc, .slice z.ka lz.length z.kc, .slice z.da z.data.length z.dc, .bool z.run, .float .f64 z.stamp, vs z.target] 27)) 9 #[vs tx]
            rw [World.size_alloc] at hb
            rw [Addr.add_mid, Nat.zero_add, hb.cell]; exact hj
          refine Late.ready_X (rs := [3]) (by kernel_rfl) (by simp) ?_
          refine Late.AllX.cons rfl (fun K' hK => ?_) Late.AllX.nil
          go_simp
          refine hK.out _ _ (fun _ => HMb.out.nine HBb.out) ?_
          refine Late.ready_X (rs := [4]) (by kernel_rfl) (by simp) ?_
          refine Late.AllX.cons rfl (fun K' hK => ?_) Late.AllX.nil
          refine step_strs2 (by rfl) (.tmp 68) (.tmp 70) (by rfl) (w1.heap.size + 1) vn ns (by rfl) HMb.out.names ⟨V0.heap.size + 1, 0, none⟩ 1 1 [tx] rfl (by rfl) HCA2.out hnl HMb.out.nin.b3.lt ?_
          intro v7 w7 h7 g7 p7
          obtain ⟨A7, c7, rfl, -⟩ := h7.src
          have HM7 := Lib.hid (RMid.appN HMb.out h7 g7 p7 HTL.out)
          have HB7 := Lib.hid (Blk.grown HBb.out g7 (fun e => by have := HNV.out _ e; omega))
          have G7 := Lib.hid g7
          clear h7 p7 g7
          refine hK.out _ _ (fun _ => HM7.out.nine HB7.out) ?_
          refine Late.take_X (f := 4) (i := 10) (v := ?_) rfl (by kernel_rfl) (by kernel_rfl) (by kernel_rfl) (by kernel_rfl) (by kernel_rfl) (fun _ _ _ h => h) (by rfl) ?_ (HM7.out.nine HB7.out) ?_
          rotate_left
          · intro w hw
            obtain ⟨s1, s2, s3, s4, s5, s6, s7, s8, s9⟩ := hw
            go_simp
            with_reducible rfl
          have HCK : Hid (∀ j u, ([T.mk z lz].flatMap cellsT)[j]? = some u → (w7).cell? ((⟨V0.heap.size, 0, none⟩ : Addr).add j) = some u) := fun j u hj => by
            rw [Addr.add_mid, Nat.zero_add, (Blk.grown HNB.out G7.out (fun e => by have := HNV.out _ e; omega)).cell]; exact hj
          refine Late.ready_X (rs := [9]) (by kernel_rfl) (by simp) ?_
          refine Late.AllX.cons rfl (fun K' hK => ?_) Late.AllX.nil
          refine step_nodes2 (by rfl) (.tmp 73) (.tmp 75) (by rfl) (w1.heap.size + 1) vk ks (by rfl) HM7.out.kids ⟨V0.heap.size, 0, none⟩ 1 1 [T.mk z lz] rfl (by rfl) HCK.out hkl HM7.out.nin.b3.lt ?_
          intro v8 w8 h8 g8 p8
          obtain ⟨A8, c8, rfl, -⟩ := h8.src
          have HM8 := Lib.hid (RMid.appK HM7.out h8 g8 p8)
          have HB8 := Lib.hid (Blk.grown HB7.out g8 (fun e => by have := HKV.out _ e; omega))
          clear h8 g8 p8
          refine hK.out _ _ (fun _ => HM8.out.nine HB8.out) ?_
          have c1 := HM8.out.nin.b3.cell 1; have f1 := HM8.out.nin.b3.frozen 1; have c2 := HM8.out.nin.b3.cell 2; have f2 := HM8.out.nin.b3.frozen 2; have hl8 := HM8.out.nin.b3.lt
          simp only [List.getElem?_cons_zero, List.getElem?_cons_succ] at c1 c2
          have HM9 := Lib.hid ((HM8.out.set 1 (.slice A7 (ns ++ [tx]).length c7) (.slice A7 (ns ++ [tx]).length c7) vk rfl).set 2 (.slice A8 (ks ++ [T.mk z lz]).length c8) _ (.slice A8 (ks ++ [T.mk z lz]).length c8) rfl).dir
          rw [List.length_append, List.length_append, List.length_singleton, List.length_singleton] at HM9
          refine Late.ready_X (rs := [11]) (by kernel_rfl) (by simp) ?_
          refine Late.AllX.cons rfl (fun K' hK => ?_) Late.AllX.nil
          go_simp
          refine hK.out _ _ (fun h => absurd (by simp) h) ?_
          refine Late.ready_X (rs := [12]) (by kernel_rfl) (by simp) ?_
          refine Late.AllX.cons rfl (fun K' hK => ?_) Late.AllX.nil
          go_simp
          refine hK.out _ _ (fun h => absurd (by simp) h) ?_
          refine Late.ready_X (rs := [13]) (by kernel_rfl) (by simp) ?_
          refine Late.AllX.cons rfl (fun K' hK => ?_) Late.AllX.nil
          go_simp
          refine hK.out _ _ (fun h => absurd (by simp) h) ?_
          refine Late.done_X (by kernel_rfl) ?_ _
          clear c1 f1 c2 f2
          go_wp2_with fail
          go_roundw
          case rel =>
            refine ⟨i + 1, by omega, by go_num, ?_⟩
            exact ⟨ns ++ [tx], ks ++ [T.mk z lz], _, _, k2, r5, HM9.out, by have := HN1.out; simp; omega, by have := HN2.out; simp; omega, HK2.out.1, Nat.le_trans HK2.out.2 hr4, by rw [eraseL_append, eraseL, eraseL, HE.out]; exact HLS2.out⟩
          case measure => simp [intOf]; omega
    · obtain rfl : i = cnt := by omega
      have HNN : Hid (nodeR (d + 1) k r = if r3.f then none else some (.mk (dirE ns) (eraseL ks), k1, r3)) := by
        have h1 := HLP.out
        rw [Nat.sub_self, loopP] at h1
        show _ = _
        rw [HN.out, ← h1]
      clear HN HLP HIH
      obtain ⟨An, cn, hvn, hns, hnn, hnc, hnb⟩ := HD.out.names.src
      obtain ⟨Ak, ck, hvk, hks, hkn, hkc, hkb⟩ := HD.out.kids.src
      subst hvn hvk
      have hg3 := HD.out.nin.lt
      have HO9 : Hid (Ok W0 W0.heap.size (.mk (dirHd An cn ns Ak ck) ks)) := by
        refine ok_dir _ _ _ _ _ _ hns (fun _ a ha => (hnb a ha).2) hnn hnc (by have := HN1.out; unfold maxLen; omega) (fun s hs => by have := HD.out.each s hs; unfold maxLen; omega) hkn (by have := HN2.out; unfold maxLen; omega) hkc hks (fun t ht => (HD.out.oks t ht).1)
      have HIN9 : Hid (InS (fun c => w.heap.size < c) (.mk (dirHd An cn ns Ak ck) ks)) := inS_dir _ _ _ _ _ _ _ (fun _ a ha => by have := (hnb a ha).1; omega) (fun _ a ha => by have := (hkb a ha).1; omega) (fun t ht => (HD.out.oks t ht).2.mono fun c hc => by have := hc.1; omega)
      have HI4 := Lib.hid HD.out.nin
      clear hns hnn hnc hnb hks hkn hkc hkb HD
      have d0 := HI4.out.b3.cell 0; have d1 := HI4.out.b3.cell 1; have d2 := HI4.out.b3.cell 2; have d3 := HI4.out.b3.cell 3; have d4 := HI4.out.b3.cell 4; have d5 := HI4.out.b3.cell 5; have d6 := HI4.out.b3.cell 6
      simp only [List.getElem?_cons_zero, List.getElem?_cons_succ] at d0 d1 d2 d3 d4 d5 d6
      have k0 := HI4.out.b2.cell 0; have kk1 := HI4.out.b2.cell 1; have k2 := HI4.out.b2.cell 2; have k3 := HI4.out.b2.cell 3; have k4 := HI4.out.b2.cell 4; have k5 := HI4.out.b2.cell 5; have k6 := HI4.out.b2.cell 6
      have f0 := HI4.out.b2.frozen 0; have f1 := HI4.out.b2.frozen 1; have f2 := HI4.out.b2.frozen 2; have f3 := HI4.out.b2.frozen 3; have f4 := HI4.out.b2.frozen 4; have f5 := HI4.out.b2.frozen 5; have f6 := HI4.out.b2.frozen 6
      have hl6 := HI4.out.b2.lt
      simp only [List.getElem?_cons_zero, List.getElem?_cons_succ] at k0 kk1 k2 k3 k4 k5 k6
      obtain ⟨A4, q4, hg4, -⟩ := HI4.out.ar.rd.ex
      have cf := hg4.cell 1
      simp only [List.getElem?_cons_zero, List.getElem?_cons_succ] at cf
      clear hg4
      go_upto_region 25 with fail
      have hlr' : gr ≠ w.heap.size := by have := HI4.out.lr; omega
      have HSET : Hid (∀ c, c ≠ w.heap.size → (set7 W0 w.heap.size (.int .u8 1) (.slice An ns.length cn) (.slice Ak ks.length ck) (.slice none 0 0) (.bool false) (.float .f64 0) (.string ⟨#[]⟩)).heap[c]? = W0.heap[c]?) := set7_other W0 w.heap.size _ _ _ _ _ _ _
      have q0 : W0.drew.cell? ⟨w1.heap.size, 0, none⟩ = some (.int .u8 1) ∧ W0.drew.cell? ⟨w1.heap.size, 1, none⟩ = some (.slice An ns.length cn) ∧ W0.drew.cell? ⟨w1.heap.size, 2, none⟩ = some (.slice Ak ks.length ck) ∧ W0.drew.cell? ⟨w1.heap.size, 3, none⟩ = some (.slice none 0 0) ∧ W0.drew.cell? ⟨w1.heap.size, 4, none⟩ = some (.bool false) ∧ W0.drew.cell? ⟨w1.heap.size, 5, none⟩ = some (.float .f64 0) ∧ W0.drew.cell? ⟨w1.heap.size, 6, none⟩ = some (.string ⟨#[]⟩) ∧ W0.drew.cell? ⟨gr, 1, none⟩ = some (.bool r3.f) := ⟨d0, d1, d2, d3, d4, d5, d6, cf⟩
      have q1 : (set7 W0 w.heap.size (.int .u8 1) (.slice An ns.length cn) (.slice Ak ks.length ck) (.slice none 0 0) (.bool false) (.float .f64 0) (.string ⟨#[]⟩)).drew.cell? ⟨w1.heap.size, 0, none⟩ = some (.int .u8 1) ∧ (set7 W0 w.heap.size (.int .u8 1) (.slice An ns.length cn) (.slice Ak ks.length ck) (.slice none 0 0) (.bool false) (.float .f64 0) (.string ⟨#[]⟩)).drew.cell? ⟨w1.heap.size, 1, none⟩ = some (.slice An ns.length cn) ∧ (set7 W0 w.heap.size (.int .u8 1) (.slice An ns.length cn) (.slice Ak ks.length ck) (.slice none 0 0) (.bool false) (.float .f64 0) (.string ⟨#[]⟩)).drew.cell? ⟨w1.heap.size, 2, none⟩ = some (.slice Ak ks.length ck) ∧ (set7 W0 w.heap.size (.int .u8 1) (.slice An ns.length cn) (.slice Ak ks.length ck) (.slice none 0 0) (.bool false) (.float .f64 0) (.string ⟨#[]⟩)).drew.cell? ⟨w1.heap.size, 3, none⟩ = some (.slice none 0 0) ∧ (set7 W0 w.heap.size (.int .u8 1) (.slice An ns.length cn) (.slice Ak ks.length ck) (.slice none 0 0) (.bool false) (.float .f64 0) (.string ⟨#[]⟩)).drew.cell? ⟨w1.heap.size, 4, none⟩ = some (.bool false) ∧ (set7 W0 w.heap.size (.int .u8 1) (.slice An ns.length cn) (.slice Ak ks.length ck) (.slice none 0 0) (.bool false) (.float .f64 0) (.string ⟨#[]⟩)).drew.cell? ⟨w1.heap.size, 5, none⟩ = some (.float .f64 0) ∧ (set7 W0 w.heap.size (.int .u8 1) (.slice An ns.length cn) (.slice Ak ks.length ck) (.slice none 0 0) (.bool false) (.float .f64 0) (.string ⟨#[]⟩)).drew.cell? ⟨w1.heap.size, 6, none⟩ = some (.string ⟨#[]⟩) ∧ (set7 W0 w.heap.size (.int .u8 1) (.slice An ns.length cn) (.slice Ak ks.length ck) (.slice none 0 0) (.bool false) (.float .f64 0) (.string ⟨#[]⟩)).drew.cell? ⟨gr, 1, none⟩ = some (.bool r3.f) := by
        have hg : w1.heap.size ≠ w.heap.size := by omega
        exact ⟨(cells_kept HSET.out hg).trans d0, (cells_kept HSET.out hg).trans d1, (cells_kept HSET.out hg).trans d2, (cells_kept HSET.out hg).trans d3, (cells_kept HSET.out hg).trans d4, (cells_kept HSET.out hg).trans d5, (cells_kept HSET.out hg).trans d6, (cells_kept HSET.out hlr').trans cf⟩
      go_region_held3 (fun W' => W'.cell? ⟨w1.heap.size, 0, none⟩ = some (.int .u8 1) ∧ W'.cell? ⟨w1.heap.size, 1, none⟩ = some (.slice An ns.length cn) ∧ W'.cell? ⟨w1.heap.size, 2, none⟩ = some (.slice Ak ks.length ck) ∧ W'.cell? ⟨w1.heap.size, 3, none⟩ = some (.slice none 0 0) ∧ W'.cell? ⟨w1.heap.size, 4, none⟩ = some (.bool false) ∧ W'.cell? ⟨w1.heap.size, 5, none⟩ = some (.float .f64 0) ∧ W'.cell? ⟨w1.heap.size, 6, none⟩ = some (.string ⟨#[]⟩) ∧ W'.cell? ⟨gr, 1, none⟩ = some (.bool r3.f))
        (first | with_reducible exact q0 | with_reducible exact q1 | go_keep)
        (fail)
      all_goals
        clear d0 d1 d2 d3 d4 d5 d6 k0 kk1 k2 k3 k4 k5 k6 f0 f1 f2 f3 f4 f5 f6 cf q0 q1
        go_wp2_with fail
        exact rnode_end (dirHd An cn ns Ak ck) ks rfl rfl HI4.out HO9.out HIN9.out HNN.out
theorem rnode_of : ∀ d, RNodeOf d := by
  intro d
  induction d with
  | zero =>
    intro top ga gr k deep r w hr hk hd hla hlr h
    by_cases hf : (after 1 r).f = true
    · exact rnode_stop 0 top ga gr k deep r w hr hk (by omega) hla hlr h (.inl hf) rfl
    · exact rnode_stop 0 top ga gr k deep r w hr hk (by omega) hla hlr h (.inr (.inl ⟨by simpa using hf, by omega⟩)) rfl
  | succ d IH =>
    intro top ga gr k deep r w hr hk hd hla hlr h
    by_cases hf : (after 1 r).f = true
    · exact rnode_stop (d + 1) top ga gr k deep r w hr hk (by omega) hla hlr h (.inl hf) (by rw [nodeR, if_pos (by rw [hf]; rfl)])
    have hf' : (after 1 r).f = false := by simpa using hf
    by_cases h0 : 64 ≤ k
    · exact rnode_stop (d + 1) top ga gr k deep r w hr hk (by omega) hla hlr h (.inr (.inr ⟨hf', by omega, h0⟩)) (by rw [nodeR, if_pos (by rw [hf', decide_eq_true h0]; rfl)])
    by_cases h1 : numR 1 r = 1
    · exact rnode_dir d top ga gr k deep r w hr (by omega) (by omega) hla hlr h hd IH hf' h1
    by_cases h2 : numR 1 r = 2
    · exact rnode_file d top ga gr k deep r w hr (by omega) (by omega) hla hlr h hf' h2
    by_cases h3 : numR 1 r = 3
    · exact rnode_link d top ga gr k deep r w hr (by omega) (by omega) hla hlr h hf' h3
    exact rnode_other d top ga gr k deep r w hr (by omega) (by omega) hla hlr h hf' h1 h2 h3
end Go.Proofs.Ytlehgacbcacokaa
