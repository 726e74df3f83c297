/- A region that draws its order and ends in stores into cells that it loads: what is loaded may be taken first, under a condition on the world that must hold behind every operation but those stores (X), which wait for it, be it through others. No program is named. -/
import Derived.OrdersHeld
import Derived.Deep.RegionHeld
import Derived.Test.YtggmogjgaoobjaaDoorXCT7
import Derived.Test.YtggmogjgaoobjaaDoorXCT17
import Derived.Test.YtggmogjgaoobjaaDoorXCT26
namespace Go.Late
section
variable {P : Program} {ops : Array Oper} {Q : Exit → Act → World → Prop} {md : Region.Mode} {S : World → Prop} {X : List Nat}

/-- whatever order is picked; behind every operation that isn't among X the condition holds -/
def wpAnyX (P : Program) (md : Region.Mode) (ops : Array Oper) (Q : Exit → Act → World → Prop) (S : World → Prop) (X : List Nat) : Nat → Array Bool → Act → World → Prop
  | 0, l, a, w => Region.ready md ops l = [] ∧ Q .normal a w
  | n + 1, l, a, w => (Region.ready md ops l = [] → Q .normal a w) ∧ ∀ i ∈ Region.ready md ops l, wpOp P ops Q i (fun a' w' => (i ∉ X → S w') ∧ wpAnyX P md ops Q S X n (l.setIfInBounds i true) a' w') a w
theorem any_of_X : ∀ (n : Nat) (l : Array Bool) (a : Act) (w : World), wpAnyX P md ops Q S X n l a w → wpAny P md ops Q n l a w
  | 0, _, _, _, h => h
  | n + 1, _, _, _, h => ⟨h.1, fun i hi => wpOp_mono (fun a' w' k => any_of_X n _ a' w' k.2) (h.2 i hi)⟩
/-- does x wait for i, be it through others? -/
def dep (md : Region.Mode) (ops : Array Oper) : Nat → Nat → Nat → Bool
  | 0, _, _ => false
  | f + 1, x, i => match ops[x]? with
    | some o => o.after.any fun e => Region.binds md e && (e.on == i || dep md ops f e.on i)
    | none => false
/-- what has come up has come up behind all that it waits for -/
def Shutl (md : Region.Mode) (ops : Array Oper) (l : Array Bool) : Prop := ∀ x o, ops[x]? = some o → l.getD x false = true → ∀ e ∈ o.after, Region.binds md e = true → l.getD e.on false = true
theorem dep_listed {l : Array Bool} (hl : Shutl md ops l) {i : Nat} : ∀ (f x : Nat) (o : Oper), ops[x]? = some o → (∀ e ∈ o.after, Region.binds md e = true → l.getD e.on false = true) → dep md ops f x i = true → l.getD i false = true
  | 0, _, _, _, _, h => by cases h
  | f + 1, x, o, ho, hall, h => by
    rw [dep, ho] at h
    simp only [Array.any_eq_true'] at h
    obtain ⟨e, he, h2⟩ := h
    simp only [Bool.and_eq_true, Bool.or_eq_true, beq_iff_eq] at h2
    have h3 := hall e he h2.1
    rcases h2.2 with q | q
    · rw [← q]; exact h3
    · cases ho2 : ops[e.on]? with
      | none =>
        cases f with
        | zero => cases q
        | succ f => rw [dep, ho2] at q; cases q
      | some o2 => exact dep_listed hl f e.on o2 ho2 (hl _ o2 ho2 h3) q
theorem Shutl.set {l : Array Bool} (hl : Shutl md ops l) {j : Nat} (hj : j ∈ Region.ready md ops l) : Shutl md ops (l.setIfInBounds j true) := fun x o ho hx e he hb => by
  obtain ⟨_, oj, hoj, hall⟩ := mem_ready.1 hj
  refine getD_set_true ?_
  by_cases q : j = x
  · subst q
    rw [ho] at hoj
    cases hoj
    exact hall e he hb
  · rw [getD_set_ne false q] at hx
    exact hl x o ho hx e he hb
theorem first_X {f i : Nat} {oi : Oper} {v : Value} (hi : ops[i]? = some oi) (hsel : ∀ (j : Nat) (o : Oper) cs b, ops[j]? = some o → o.op ≠ .select cs b) (hX : ∀ x ∈ X, dep md ops f x i = true)
    (hQ : ∀ c a w, Q (.panic c) (a.put oi.dst v) w → Q (.panic c) a w) : ∀ (n : Nat) (l : Array Bool) (a : Act) (w : World), Shutl md ops l →
      (∀ j oj, ops[j]? = some oj → j ≠ i → l.getD j true = false → (∀ e ∈ oj.after, Region.binds md e = true → e.on ≠ i) → oi.apart ops oj = true) →
      i ∈ Region.ready md ops l → YieldsIf P ops S oi v a → S w → wpAnyX P md ops Q S X n (l.setIfInBounds i true) (a.put oi.dst v) w → wpAnyX P md ops Q S X (n + 1) l a w := by
  intro n
  induction n with
  | zero =>
    intro l a w _ _ hr hy hS H
    refine ⟨fun h0 => absurd hr (by rw [h0]; exact List.not_mem_nil), fun j hj => ?_⟩
    by_cases e : j = i
    · subst e; exact hy.wpOp hi hS ⟨fun _ => hS, H⟩
    · exact absurd (ready_mono hj e) (by rw [H.1]; exact List.not_mem_nil)
  | succ n ih =>
    intro l a w hl hfree hr hy hS H
    refine ⟨fun h0 => absurd hr (by rw [h0]; exact List.not_mem_nil), fun j hj => ?_⟩
    by_cases e : j = i
    · subst e; exact hy.wpOp hi hS ⟨fun _ => hS, H⟩
    · obtain ⟨hun, oj, hoj, hall⟩ := mem_ready.1 hj
      have hi0 : l.getD i false = true → False := fun h1 => by
        have h0 := (mem_ready.1 hr).1
        rcases Nat.lt_or_ge i l.size with q | q
        · simp [q] at h0 h1; rw [h0] at h1; cases h1
        · simp [Array.getElem?_eq_none q] at h1
      have hno : ∀ d ∈ oj.after, Region.binds md d = true → d.on ≠ i := fun d hd hb he => hi0 (by rw [← he]; exact hall d hd hb)
      have hjX : j ∉ X := fun hx => hi0 (dep_listed hl f j oj hoj hall (hX j hx))
      have k := wpOp_putIf hoj (hfree j oj hoj e hun hno) (fun cs b => hsel i oi cs b hi) (fun cs b => hsel j oj cs b hoj) hQ hy (H.2 j (ready_mono hj e))
      have hfree2 : ∀ m om, ops[m]? = some om → m ≠ i → (l.setIfInBounds j true).getD m true = false → (∀ d ∈ om.after, Region.binds md d = true → d.on ≠ i) → oi.apart ops om = true := fun m om hm hmi hu hn => by
        refine hfree m om hm hmi ?_ hn
        by_cases q : j = m
        · subst q; exact hun
        · rw [getD_set_ne true q] at hu; exact hu
      refine wpOp_mono (fun a' w' q => ⟨q.2.1, ih (l.setIfInBounds j true) a' w' (hl.set hj) hfree2 (ready_mono hr (Ne.symm e)) q.1 (q.2.1 hjX) ?_⟩) k
      rw [Array.setIfInBounds_comm _ _ e]
      exact q.2.2
/-- 'Shutl', for the kernel -/
def shutB (md : Region.Mode) (ops : Array Oper) (l : Array Bool) : Bool := (List.range ops.size).all fun x => match ops[x]? with | some o => !(l.getD x false) || o.after.all (fun e => !(Region.binds md e) || l.getD e.on false) | none => true
theorem shutB_spec {l : Array Bool} (h : shutB md ops l = true) : Shutl md ops l := fun x o ho hx e he hb => by
  have hlt : x < ops.size := (Array.getElem?_eq_some_iff.1 ho).1
  have h1 := List.all_eq_true.1 h x (List.mem_range.2 hlt)
  simp only [ho, hx, Bool.not_true, Bool.false_or, Array.all_eq_true_iff_forall_mem] at h1
  have h2 := h1 e he
  simpa [hb] using h2
theorem take_X {f i : Nat} {oi : Oper} {v : Value} {n : Nat} {l : Array Bool} {a : Act} {w : World} (hi : ops[i]? = some oi) (hs : Region.noSelect ops = true) (hf : Region.free md ops l i = true) (hr : (Region.ready md ops l).contains i = true) (hX : (X.all fun x => dep md ops f x i) = true) (hl : shutB md ops l = true)
    (hQ : ∀ c a w, Q (.panic c) (a.put oi.dst v) w → Q (.panic c) a w) (hw : Region.wanted oi (yielded ops a.tmps) = true) (hy : ∀ w, S w → (execOp a.eval oi).run P w = .ok (.value v) w) (hS : S w)
    (h : wpAnyX P md ops Q S X n (l.setIfInBounds i true) (a.put oi.dst v) w) : wpAnyX P md ops Q S X (n + 1) l a w :=
  first_X hi (Region.noSelect_spec hs) (List.all_eq_true.1 hX) hQ n l a w (shutB_spec hl) (Region.free_spec hi hf) (by simpa using hr) (.inl ⟨hw, hy⟩) hS h
def AllX (P : Program) (md : Region.Mode) (ops : Array Oper) (Q : Exit → Act → World → Prop) (S : World → Prop) (X : List Nat) (n : Nat) (l : Array Bool) (a : Act) (w : World) (rs : List Nat) : Prop :=
  ∀ i ∈ rs, wpOp P ops Q i (fun a' w' => (i ∉ X → S w') ∧ wpAnyX P md ops Q S X n (l.setIfInBounds i true) a' w') a w
theorem AllX.nil {n : Nat} {l : Array Bool} {a : Act} {w : World} : AllX P md ops Q S X n l a w [] := fun _ h => absurd h List.not_mem_nil
theorem AllX.cons {n : Nat} {l : Array Bool} {a : Act} {w : World} {i : Nat} {o : Oper} {rs : List Nat} (ho : ops[i]? = some o)
    (h : ∀ K' : Act → World → Prop, Shut (∀ a w, (i ∉ X → S w) → wpAnyX P md ops Q S X n (l.setIfInBounds i true) a w → K' a w) → if Region.wanted o (yielded ops a.tmps) = true then Oper.wp P o a w K' Q else K' (a.put o.dst undef) w)
    (hs : AllX P md ops Q S X n l a w rs) : AllX P md ops Q S X n l a w (i :: rs) := fun j hj => by
  rcases List.mem_cons.1 hj with rfl | hj
  · exact wpOp_step ho (fun K' hK => h K' (fun a w k1 k2 => hK a w ⟨k1, k2⟩))
  · exact hs j hj
theorem ready_X {rs : List Nat} {n : Nat} {l : Array Bool} {a : Act} {w : World} (hr : Region.ready md ops l = rs) (hne : rs ≠ []) (h : AllX P md ops Q S X n l a w rs) : wpAnyX P md ops Q S X (n + 1) l a w :=
  ⟨fun h0 => absurd (hr ▸ h0) hne, hr ▸ h⟩
theorem done_X {l : Array Bool} {a : Act} {w : World} (hr : Region.ready md ops l = []) (h : Q .normal a w) : ∀ n, wpAnyX P md ops Q S X n l a w
  | 0 => ⟨hr, h⟩
  | _ + 1 => ⟨fun _ => h, by rw [hr]; simp⟩
theorem region_X {id : Nat} {a : Act} {w : World} (S : World → Prop) (X : List Nat) (hm : P.follows .mixedOrders = true) (h : wpAnyX P .any ops Q S X ops.size (Array.replicate ops.size false) a w.drew) : (Code.region id ops true).wp P Q a w :=
  wp_region_any hm (any_of_X _ _ _ _ h)
end
end Go.Late

/- A world of archives and names: Begin. -/
namespace Go.Proofs.YtggmogjgaoobjaaDoor
open Go.RowKit RealMath BaseMath WireMath ReqMath PackMath
open TreeMath hiding By

/-- lists of Made that came in -/
structure TreesIs (w : World) (B : Nat) (A : Option Addr) (tt : List (List Md)) : Prop where
  at_ : 0 < tt.length → ∃ b o, A = some ⟨b, o, none⟩ ∧ b < B ∧ ∀ i (h : i < tt.length), ∃ A' c', w.cell? ⟨b, o + i, none⟩ = some (.slice A' tt[i].length c') ∧ Mades w B A' tt[i] ∧ tt[i].length ≤ c' ∧ c' ≤ maxLen
  le : B ≤ w.heap.size
set_option maxRecDepth 100000 in
theorem TreesIs.keep {w w' : World} {B : Nat} {A : Option Addr} {tt : List (List Md)} (h : TreesIs w B A tt) (hb : Below B w w') : TreesIs w' B A tt := by
  refine ⟨fun h0 => ?_, Nat.le_trans h.le hb.size⟩
  obtain ⟨b, o, e, hl, hc⟩ := h.at_ h0
  refine ⟨b, o, e, hl, fun i hi => ?_⟩
  obtain ⟨A', c', h1, h2, h3⟩ := hc i hi
  exact ⟨A', c', by rw [hb.cell (p := ⟨b, o + i, none⟩) hl]; exact h1, h2.keep hb, h3⟩
def names3 : List (List UInt8) := [[97], [98, 46, 99], [108, 105, 98, 45, 49]]
set_option maxRecDepth 100000 in
theorem info37 : (Tryd.prog.info? 37).map (fun i => (i.zero, i.size, i.bytes)) = some (some (.slice none 0 0), 1, 24) := by kernel_rfl
set_option maxRecDepth 100000 in
theorem ArIs.keepG {w w' : World} {v : Value} {a : List UInt8} (h : ArIs w v a) (hk : ∀ b, Ty5 w b → w'.heap[b]? = w.heap[b]?) : ArIs w' v a := by
  obtain ⟨A, c, rfl, h1, h2, h3, h4, h5⟩ := h
  refine ⟨A, c, rfl, fun h0 => ?_, h2, h3, h4, fun ad e => ?_⟩
  · obtain ⟨b, o, e, hc⟩ := h1 h0
    refine ⟨b, o, e, fun k hk' => ?_⟩
    rw [World.cell?_of_block (w := w) (a := ⟨b, o + k, none⟩) (hk b (h5 _ e))]; exact hc k hk'
  · obtain ⟨cs, hc⟩ := h5 ad e
    exact ⟨cs, by rw [hk _ ⟨cs, hc⟩]; exact hc⟩
set_option maxRecDepth 100000 in
theorem ArIs.grown {w w' : World} {base n : Nat} {e : TypeId} {r v : Value} {xs : List Value} {a : List UInt8} (h : ArIs w v a) (he : e ≠ 5) (ho : w.ownsRow base e 1 r n xs) (hg : w.grownBy w' r.ownBlock) : ArIs w' v a :=
  h.keepG fun b ⟨cs, hb⟩ => hg.block b (Array.getElem?_eq_some_iff.1 hb).1 (fun e' => by
    rcases ho.2 with ⟨rfl, _⟩ | ⟨k, cap, cur, rfl, _, hc, _⟩
    · cases e'
    · obtain rfl : k = b := by simpa [Value.ownBlock] using e'.symm
      rw [hb] at hc; injection hc with hc; injection hc with _ h2; exact he h2.symm)
set_option maxRecDepth 100000 in
theorem ArIs.set {w : World} {v x : Value} {a : List UInt8} {q i : Nat} {T : TypeId} {cs : List Value} (h : ArIs w v a) (hT : T ≠ 5) (hb : Blk w q T cs) : ArIs (w.setCell ⟨q, i, none⟩ x) v a :=
  h.keepG fun b ⟨cs', hb'⟩ => Below.heap_setCell w ⟨q, i, none⟩ x b (fun e => by
    simp only at e; subst e; unfold Blk at hb; rw [hb'] at hb; injection hb with hb; injection hb with _ h2; exact hT h2.symm)
/-- a world of archives, names and paths -/
def WorldIs (w : World) (v : Value) : Prop := ∃ (h k : Value) (g ca : Nat) (cells : List Value) (nb : Nat) (PV : Option Addr) (cp : Nat) (paths : List (List UInt8)), v = .agg #[h, k, .slice (some ⟨g, 0, none⟩) cells.length ca, .slice (some ⟨nb, 0, none⟩) 3 3, .slice PV paths.length cp] ∧ 0 < cells.length ∧ cells.length ≤ 30 ∧ (∀ j (hj : j < cells.length), w.cell? ⟨g, j, none⟩ = some cells[j]) ∧ (∀ c ∈ cells, ∃ a, ArIs w c a) ∧ StrsIs w (some ⟨nb, 0, none⟩) names3 ∧ 0 < paths.length ∧ paths.length ≤ 30 ∧ StrsIs w PV paths ∧ ∀ p ∈ paths, p.length ≤ 100
set_option maxRecDepth 100000 in
theorem blk_strs {w : World} {b : Nat} {ls : List (List UInt8)} (h : Blk w b 9 (ls.map vs)) : StrsIs w (some ⟨b, 0, none⟩) ls := fun _ => ⟨b, 0, rfl, fun k hk => by
  have := Blk.cell h k
  rw [Nat.zero_add, this, List.getElem?_map, List.getElem?_eq_getElem hk]; rfl⟩
def path0 : List UInt8 := [48, 49, 50, 51, 52, 53, 54, 55, 56, 57, 97, 98, 99, 100, 102, 103, 104, 105, 106, 107, 108, 109, 110, 112, 113, 114, 115, 118, 119, 120, 121, 122, 45, 110, 111]
set_option maxRecDepth 100000 in
theorem info34 : (Tryd.prog.info? 34).map (·.size) = some 5 := by kernel_rfl
/-- Begin's loop: w: ahead of it; nb: the names' block; nb + 1: the box -/
structure BRel (w : World) (nb : Nat) (h k : Value) (i : Nat) (wr : World) : Prop where
  ex : ∃ (cells : List Value) (v : Value), wr.ownsRow (nb + 2) 37 1 v i cells ∧ (∀ c ∈ cells, ∃ a, ArIs wr c a) ∧ Blk wr (nb + 1) 34 [h, k, v, .slice (some ⟨nb, 0, none⟩) 3 3, ns]
  nm : Blk wr nb 9 (names3.map vs)
  res : Blk wr w.heap.size 34 [ns, ns, ns, ns, ns]
  lt : w.heap.size < nb
  below : Below w.heap.size w wr
set_option maxHeartbeats 8000000 in
set_option maxRecDepth 100000 in
theorem begin_any (A : Option Addr) (c B : Nat) (tt : List (List Md)) (hl : tt.length ≤ 3) (hsm : ∀ l ∈ tt, l.length ≤ 6 ∧ ∀ x ∈ l, x.data.length ≤ 200) (w : World) (h : TreesIs w B A tt) :
    Calls Tryd.prog 12 #[.slice A tt.length c] w fun e w' => (∃ v, e = .returned v ∧ WorldIs w' v) ∧ Below w.heap.size w w' := by
  have H := Lib.hid h; have HSM := Lib.hid hsm
  have HBW := Lib.hid h.le
  clear h hsm
  go_enter Tryd.func12, Tryd.ntmps12
  go_wp2_with fail
  have HZ : Hid (Blk (w.alloc (.cells #[ns, ns, ns, ns, ns] 34)) w.heap.size 34 [ns, ns, ns, ns, ns]) := Blk.new w 34 _
  have HZB : Hid (Below w.heap.size w (w.alloc (.cells #[ns, ns, ns, ns, ns] 34))) := (Below.refl _ _).alloc (Nat.le_refl _) _
  refine (Hs.new_any _).mono ?_
  rintro e w1 ⟨t, rfl, ⟨gh, ch, gk, ck, rfl, hh, hk⟩, hb1⟩
  have hz1 := HZ.out.below hb1 (Blk.lt HZ.out)
  have hB1 : Below w.heap.size w w1 := HZB.out.trans (hb1.mono HZB.out.size)
  have HX : Hid (BRel w w1.heap.size (.slice (some ⟨gh, 0, none⟩) 8 ch) (.slice (some ⟨gk, 0, none⟩) 64 ck) 0 ((w1.alloc (.cells #[.string ⟨#[97]⟩, .string ⟨#[98, 46, 99]⟩, .string ⟨#[108, 105, 98, 45, 49]⟩] 9)).alloc (.cells #[.slice (some ⟨gh, 0, none⟩) 8 ch, .slice (some ⟨gk, 0, none⟩) 64 ck, ns, .slice (some ⟨w1.heap.size, 0, none⟩) 3 3, ns] 34))) := by
    refine ⟨⟨[], ns, World.ownsRow_nil _ _ _ _, (fun c hc => by cases hc), ?_⟩, (Blk.new w1 9 _).alloc _, (hz1.alloc _).alloc _, Blk.lt hz1, (hB1.alloc hB1.size _).alloc (by have := hB1.size; simp; omega) _⟩
    have := Blk.new (w1.alloc (.cells #[.string ⟨#[97]⟩, .string ⟨#[98, 46, 99]⟩, .string ⟨#[108, 105, 98, 45, 49]⟩] 9)) 34 #[.slice (some ⟨gh, 0, none⟩) 8 ch, .slice (some ⟨gk, 0, none⟩) 64 ck, ns, .slice (some ⟨w1.heap.size, 0, none⟩) 3 3, ns]
    simpa using this
  clear hb1 hh hk hz1 hB1 HZ HZB
  go_wp2_with fail
  have HOV : Hid ((Value.slice (some ⟨gh, 0, none⟩) 8 ch).oneCell' = true) := rfl
  have HOK : Hid ((Value.slice (some ⟨gk, 0, none⟩) 64 ck).oneCell' = true) := rfl
  generalize w1.heap.size = nb at *
  generalize Value.slice (some ⟨gh, 0, none⟩) 8 ch = hv at *
  generalize Value.slice (some ⟨gk, 0, none⟩) 64 ck = kv at *
  go_loopw [4] (fun vv wr => ∃ i : Nat, i ≤ tt.length ∧ vv = .int .i64 i ∧ Hid (BRel w nb hv kv i wr)) (fun vv _ => tt.length - (intOf vv).toNat)
  case atStart => exact ⟨0, Nat.zero_le _, rfl, HX.out⟩
  case round =>
    clear HX
    obtain ⟨i, hi, rfl, HXX⟩ := hrel
    rename World => W0
    obtain ⟨cells, v0, hown, hD, hbox⟩ := HXX.out.ex
    obtain ⟨O1, oc, hv1⟩ := own_form hown
    subst hv1
    have HREL := HXX; have HOWN := Lib.hid hown; have HDD := Lib.hid hD; have HBOX := Lib.hid hbox
    clear HXX hown hD hbox
    by_cases hlt : i < tt.length
    · have hlt' : (i : Int) < (tt.length : Int) := by omega
      have h4 : (i : Int) < 4 := by omega
      have hi0 : (0 : Int) ≤ (i : Int) := by omega
      have hbB : Below B w W0 := HREL.out.below.mono HBW.out
      obtain ⟨b, o, rfl, hbl, hc⟩ := (H.out.keep hbB).at_ (by omega)
      obtain ⟨A', c', c0, hm, hlc, hcm⟩ := hc i hlt
      have HM := Lib.hid hm
      have hs6 := HSM.out tt[i] (List.getElem_mem hlt)
      have HS6 := Lib.hid hs6
      have hBW := HBW.out
      have hW0 : w.heap.size ≤ W0.heap.size := HREL.out.below.size
      have hnb := HREL.out.lt
      generalize tt[i] = l at *
      have HOF : Hid (∀ W, Below W0.heap.size W0 W → Calls Tryd.prog 33 #[.slice A' l.length c'] W (OfPost W)) := fun W hW => refof_any l A' c' B W (by have := HS6.out.1; omega) hlc hcm HS6.out.2 (HM.out.keep (hW.mono (by omega)))
      have k0 := Blk.cell HBOX.out 2
      simp only [List.getElem?_cons_zero, List.getElem?_cons_succ] at k0
      have q0 : W0.drew.cell? ⟨nb + 1, 2, none⟩ = some (.slice O1 i oc) ∧ W0.drew.cell? ⟨b, o + i, none⟩ = some (.slice A' l.length c') := ⟨k0, c0⟩
      have HB3 : Hid (Below W0.heap.size W0 W0.drew) := (Below.refl _ _).drew
      have hbn : b < W0.heap.size := by omega
      have hbnb : b < nb + 2 := by omega
      have hnb0 : nb + 1 < W0.heap.size := Blk.lt HBOX.out
      clear hc hs6 k0 c0 hm
      go_upto_region 5 with fail
      refine Late.region_X (fun W' => W'.cell? ⟨nb + 1, 2, none⟩ = some (.slice O1 i oc) ∧ W'.cell? ⟨b, o + i, none⟩ = some (.slice A' l.length c')) [10] (by kernel_rfl) ?_
      have HOWN3 : Hid (World.ownsRow W0.drew (nb + 2) 37 1 (.slice O1 i oc) i cells) := HOWN.out
      have HBOX3 : Hid (Blk W0.drew (nb + 1) 34 [hv, kv, .slice O1 i oc, .slice (some ⟨nb, 0, none⟩) 3 3, ns]) := HBOX.out
      generalize W0.drew = W3 at *
      refine Late.take_X (f := 11) (i := 0) (v := ?_) rfl (by kernel_rfl) (by kernel_rfl) (by kernel_rfl) (by kernel_rfl) (by kernel_rfl) (fun _ _ _ h => h) (by rfl) ?_ q0 ?_
      rotate_left
      · intro w hw
        obtain ⟨s1, s2⟩ := hw
        go_simp
        with_reducible rfl
      refine Late.take_X (f := 11) (i := 1) (v := ?_) rfl (by kernel_rfl) (by kernel_rfl) (by kernel_rfl) (by kernel_rfl) (by kernel_rfl) (fun _ _ _ h => h) (by rfl) ?_ q0 ?_
      rotate_left
      · intro w hw
        obtain ⟨s1, s2⟩ := hw
        go_simp
        with_reducible rfl
      refine Late.take_X (f := 11) (i := 2) (v := ?_) rfl (by kernel_rfl) (by kernel_rfl) (by kernel_rfl) (by kernel_rfl) (by kernel_rfl) (fun _ _ _ h => h) (by rfl) ?_ q0 ?_
      rotate_left
      · intro w hw
        obtain ⟨s1, s2⟩ := hw
        go_simp
        with_reducible rfl
      refine Late.take_X (f := 11) (i := 3) (v := ?_) rfl (by kernel_rfl) (by kernel_rfl) (by kernel_rfl) (by kernel_rfl) (by kernel_rfl) (fun _ _ _ h => h) (by rfl) ?_ q0 ?_
      rotate_left
      · intro w hw
        obtain ⟨s1, s2⟩ := hw
        go_simp
        with_reducible rfl
      refine Late.take_X (f := 11) (i := 4) (v := ?_) rfl (by kernel_rfl) (by kernel_rfl) (by kernel_rfl) (by kernel_rfl) (by kernel_rfl) (fun _ _ _ h => h) (by rfl) ?_ q0 ?_
      rotate_left
      · intro w hw
        obtain ⟨s1, s2⟩ := hw
        go_simp
        with_reducible rfl
      refine Late.take_X (f := 11) (i := 5) (v := ?_) rfl (by kernel_rfl) (by kernel_rfl) (by kernel_rfl) (by kernel_rfl) (by kernel_rfl) (fun _ _ _ h => h) (by rfl) ?_ q0 ?_
      rotate_left
      · intro w hw
        obtain ⟨s1, s2⟩ := hw
        go_simp
        with_reducible rfl
      refine Late.ready_X (rs := [6]) (by kernel_rfl) (by simp) ?_
      refine Late.AllX.cons rfl (fun K' hK => ?_) Late.AllX.nil
      go_simp
      refine (HOF.out W3 HB3.out).mono ?_
      rintro e w4 ⟨⟨va, a, rfl, har⟩, hb4⟩
      have HAR := Lib.hid har
      obtain ⟨Aa, ca, rfl, -, -, -, -, -⟩ := har
      have hB4 : Below W0.heap.size W0 w4 := HB3.out.trans (hb4.mono HB3.out.size)
      have hown4 : World.ownsRow w4 (nb + 2) 37 1 (.slice O1 i oc) i cells := ownsRow_keepG HOWN3.out (fun c hc => hb4.block c (HOWN3.out.lt c hc).2)
      have hbox4 := HBOX3.out.below hb4 (Blk.lt HBOX3.out)
      have q4 : w4.cell? ⟨nb + 1, 2, none⟩ = some (.slice O1 i oc) ∧ w4.cell? ⟨b, o + i, none⟩ = some (.slice A' l.length c') := ⟨by have := Blk.cell hbox4 2; simpa using this, by rw [hb4.cell (p := ⟨b, o + i, none⟩) (by have := HB3.out.size; simp only; omega)]; exact q0.2⟩
      have hal5 : Below w4.heap.size w4 (w4.alloc (.cells #[.slice Aa a.length ca] 37)) := (Below.refl _ _).alloc (Nat.le_refl _) _
      have hown5 : World.ownsRow (w4.alloc (.cells #[.slice Aa a.length ca] 37)) (nb + 2) 37 1 (.slice O1 i oc) i cells := ownsRow_keepG hown4 (fun c hc => hal5.block c (hown4.lt c hc).2)
      have hbox5 := hbox4.below hal5 (Blk.lt hbox4)
      have hb4w : b < w4.heap.size := by have := hB4.size; omega
      have q5 : (w4.alloc (.cells #[.slice Aa a.length ca] 37)).cell? ⟨nb + 1, 2, none⟩ = some (.slice O1 i oc) ∧ (w4.alloc (.cells #[.slice Aa a.length ca] 37)).cell? ⟨b, o + i, none⟩ = some (.slice A' l.length c') := ⟨by have := Blk.cell hbox5 2; simpa using this, by rw [hal5.cell (p := ⟨b, o + i, none⟩) hb4w]; exact q4.2⟩
      have HB4 := Lib.hid hB4; have HB5 : Hid (Below W0.heap.size W0 (w4.alloc (.cells #[.slice Aa a.length ca] 37))) := hB4.trans (hal5.mono hB4.size)
      have HAR5 := Lib.hid (HAR.out.below hal5)
      have HOWN5 := Lib.hid hown5; have HBOX5 := Lib.hid hbox5; have Q4 := Lib.hid q4; have Q5 := Lib.hid q5
      have hnb5 : nb + 2 ≤ (w4.alloc (.cells #[.slice Aa a.length ca] 37)).heap.size := by have := HB5.out.size; omega
      have HNB5 := Lib.hid hnb5
      clear hb4 hB4 hown4 hbox4 q4 hal5 hown5 hbox5 q5 HAR HOWN3 HBOX3 HOWN HBOX q0 hnb5
      go_simp
      refine hK.out _ _ (fun _ => Q4.out) ?_
      refine Late.ready_X (rs := [7]) (by kernel_rfl) (by simp) ?_
      refine Late.AllX.cons rfl (fun K' hK => ?_) Late.AllX.nil
      go_simp
      refine hK.out _ _ (fun _ => Q5.out) ?_
      refine Late.ready_X (rs := [8]) (by kernel_rfl) (by simp) ?_
      refine Late.AllX.cons rfl (fun K' hK => ?_) Late.AllX.nil
      rw [if_pos (by rfl)]
      obtain ⟨i37, hi37, hz0, hz1, hz2⟩ := info_parts info37
      refine wp_append_own _ (.tmp 19) (.tmp 25) 31 rfl (nb + 2) 37 i37 (.slice none 0 0) 1 24 Tryd.underlying31 hi37 hz0 hz1 hz2 rfl (by decide) (.slice O1 i oc) i cells rfl HOWN5.out ⟨w4.heap.size, 0, none⟩ 1 1 [.slice Aa a.length ca] rfl rfl (new_cells w4 37 [.slice Aa a.length ca]) (by simp [Value.oneCell']) (by unfold maxLen; omega) (by omega) HNB5.out ?_
      intro v6 w6 ho6 hg6 _
      obtain ⟨O6, oc6, hv6⟩ := own_form ho6
      subst hv6
      have hbl6 : Below (nb + 2) (w4.alloc (.cells #[.slice Aa a.length ca] 37)) w6 := (Below.refl (nb + 2) _).grown hg6 HNB5.out (fun c hc => (HOWN5.out.lt c hc).1)
      have hbx6 := Blk.below HBOX5.out hbl6 (by omega)
      have q6 : w6.cell? ⟨nb + 1, 2, none⟩ = some (.slice O1 i oc) ∧ w6.cell? ⟨b, o + i, none⟩ = some (.slice A' l.length c') := ⟨by have := Blk.cell hbx6 2; simpa using this, by rw [hbl6.cell (p := ⟨b, o + i, none⟩) (by simp only; omega)]; exact Q5.out.2⟩
      have har6 : ∀ c ∈ cells ++ [.slice Aa a.length ca], ∃ a, ArIs w6 c a := by
        intro c hc
        rcases List.mem_append.1 hc with hc | hc
        · obtain ⟨a2, h2⟩ := HDD.out c hc
          exact ⟨a2, (h2.below HB5.out).grown (by decide) HOWN5.out hg6⟩
        · obtain rfl : c = .slice Aa a.length ca := by simpa using hc
          exact ⟨a, HAR5.out.grown (by decide) HOWN5.out hg6⟩
      have hBw6 : Below w.heap.size w w6 := (HREL.out.below.trans (HB5.out.mono hW0)).trans (hbl6.mono (by omega))
      have hcne : ∀ c, (Value.slice O6 (i + 1) oc6).ownBlock = some c → (w6.setCell ⟨nb + 1, 2, none⟩ (.slice O6 (i + 1) oc6)).heap[c]? = w6.heap[c]? := fun c hc => Below.heap_setCell w6 ⟨nb + 1, 2, none⟩ _ c (by have := (ho6.lt c hc).1; simp only; omega)
      have hnm5 := HREL.out.nm.below HB5.out (Blk.lt HREL.out.nm)
      have hrs5 := HREL.out.res.below HB5.out (Blk.lt HREL.out.res)
      have HX2 : Hid (BRel w nb hv kv (i + 1) (w6.setCell ⟨nb + 1, 2, none⟩ (.slice O6 (i + 1) oc6))) := by
        refine ⟨⟨_, _, ownsRow_keepG ho6 hcne, fun c hc => ?_, ?_⟩, ?_, ?_, hnb, hBw6.setCell (by simp only; omega) _⟩
        · obtain ⟨a2, h2⟩ := har6 c hc
          exact ⟨a2, h2.set (by decide) hbx6⟩
        · have := hbx6.set 2 (.slice O6 (i + 1) oc6)
          simpa using this
        · exact (Blk.below hnm5 hbl6 (by omega)).other (by simp only; omega) _
        · exact (Blk.below hrs5 hbl6 (by omega)).other (by simp only; omega) _
      have k6 := q6.1
      have f6 := Blk.frozen hbx6 2
      have Q6 := Lib.hid q6
      clear ho6 hg6 hbl6 hbx6 q6 har6 hBw6 hcne hnm5 hrs5 hi37 hz0 hz1 hz2
      refine hK.out _ _ (fun _ => Q6.out) ?_
      refine Late.ready_X (rs := [9]) (by kernel_rfl) (by simp) ?_
      refine Late.AllX.cons rfl (fun K' hK => ?_) Late.AllX.nil
      go_simp
      refine hK.out _ _ (fun _ => Q6.out) ?_
      refine Late.ready_X (rs := [10]) (by kernel_rfl) (by simp) ?_
      refine Late.AllX.cons rfl (fun K' hK => ?_) Late.AllX.nil
      go_simp
      refine hK.out _ _ (fun h => absurd (by simp) h) ?_
      refine Late.done_X (by kernel_rfl) ?_ _
      try (simp only [])
      clear k6 f6
      go_wp2_with fail
      go_roundw
      case rel => exact ⟨i + 1, by omega, by go_num, HX2.out⟩
      case measure => simp [intOf]; omega
    · have hlt' : ¬ ((i : Int) < (tt.length : Int)) := by omega
      have HF0 : Hid (∀ W, Calls Tryd.prog 33 #[.slice none 0 0] W (OfPost W)) := fun W => refof_any [] none 0 0 W (by simp) (by simp) (by unfold maxLen; omega) (by simp) ⟨fun h => absurd h (by simp), (fun m hm => by cases hm), (fun m hm => by cases hm), Nat.zero_le _⟩
      have k0 := Blk.cell HBOX.out 2
      simp only [List.getElem?_cons_zero, List.getElem?_cons_succ] at k0
      have hW0 : w.heap.size ≤ W0.heap.size := HREL.out.below.size
      have hnb := HREL.out.lt
      have hnb0 : nb + 1 < W0.heap.size := Blk.lt HBOX.out
      have q0 : W0.drew.cell? ⟨nb + 1, 2, none⟩ = some (.slice O1 i oc) := k0
      have HB3 : Hid (Below W0.heap.size W0 W0.drew) := (Below.refl _ _).drew
      go_upto_region 6 with fail
      clear k0
      refine Late.region_X (fun W' => W'.cell? ⟨nb + 1, 2, none⟩ = some (.slice O1 i oc)) [6] (by kernel_rfl) ?_
      have HOWN3 : Hid (World.ownsRow W0.drew (nb + 2) 37 1 (.slice O1 i oc) i cells) := HOWN.out
      have HBOX3 : Hid (Blk W0.drew (nb + 1) 34 [hv, kv, .slice O1 i oc, .slice (some ⟨nb, 0, none⟩) 3 3, ns]) := HBOX.out
      generalize W0.drew = W3 at *
      refine Late.take_X (f := 7) (i := 0) (v := ?_) rfl (by kernel_rfl) (by kernel_rfl) (by kernel_rfl) (by kernel_rfl) (by kernel_rfl) (fun _ _ _ h => h) (by rfl) ?_ q0 ?_
      rotate_left
      · intro w s1
        go_simp
        with_reducible rfl
      refine Late.take_X (f := 7) (i := 1) (v := ?_) rfl (by kernel_rfl) (by kernel_rfl) (by kernel_rfl) (by kernel_rfl) (by kernel_rfl) (fun _ _ _ h => h) (by rfl) ?_ q0 ?_
      rotate_left
      · intro w s1
        go_simp
        with_reducible rfl
      refine Late.ready_X (rs := [2]) (by kernel_rfl) (by simp) ?_
      refine Late.AllX.cons rfl (fun K' hK => ?_) Late.AllX.nil
      go_simp
      refine (HF0.out W3).mono ?_
      rintro e w4 ⟨⟨va, a, rfl, har⟩, hb4⟩
      have HAR := Lib.hid har
      obtain ⟨Aa, ca, rfl, -, -, -, -, -⟩ := har
      have hB4 : Below W0.heap.size W0 w4 := HB3.out.trans (hb4.mono HB3.out.size)
      have hown4 : World.ownsRow w4 (nb + 2) 37 1 (.slice O1 i oc) i cells := ownsRow_keepG HOWN3.out (fun c hc => hb4.block c (HOWN3.out.lt c hc).2)
      have hbox4 := HBOX3.out.below hb4 (Blk.lt HBOX3.out)
      have q4 : w4.cell? ⟨nb + 1, 2, none⟩ = some (.slice O1 i oc) := by have := Blk.cell hbox4 2; simpa using this
      have hal5 : Below w4.heap.size w4 (w4.alloc (.cells #[.slice Aa a.length ca] 37)) := (Below.refl _ _).alloc (Nat.le_refl _) _
      have hown5 : World.ownsRow (w4.alloc (.cells #[.slice Aa a.length ca] 37)) (nb + 2) 37 1 (.slice O1 i oc) i cells := ownsRow_keepG hown4 (fun c hc => hal5.block c (hown4.lt c hc).2)
      have hbox5 := hbox4.below hal5 (Blk.lt hbox4)
      have q5 : (w4.alloc (.cells #[.slice Aa a.length ca] 37)).cell? ⟨nb + 1, 2, none⟩ = some (.slice O1 i oc) := by have := Blk.cell hbox5 2; simpa using this
      have HB4 := Lib.hid hB4; have HB5 : Hid (Below W0.heap.size W0 (w4.alloc (.cells #[.slice Aa a.length ca] 37))) := hB4.trans (hal5.mono hB4.size)
      have HAR5 := Lib.hid (HAR.out.below hal5)
      have HOWN5 := Lib.hid hown5; have HBOX5 := Lib.hid hbox5; have Q4 := Lib.hid q4; have Q5 := Lib.hid q5
      have HNB5 : Hid (nb + 2 ≤ (w4.alloc (.cells #[.slice Aa a.length ca] 37)).heap.size) := by show _ ≤ _; have := HB5.out.size; omega
      clear hb4 hB4 hown4 hbox4 q4 hal5 hown5 hbox5 q5 HAR HOWN3 HBOX3 HOWN HBOX q0
      go_simp
      refine hK.out _ _ (fun _ => Q4.out) ?_
      refine Late.ready_X (rs := [3]) (by kernel_rfl) (by simp) ?_
      refine Late.AllX.cons rfl (fun K' hK => ?_) Late.AllX.nil
      go_simp
      refine hK.out _ _ (fun _ => Q5.out) ?_
      refine Late.ready_X (rs := [4]) (by kernel_rfl) (by simp) ?_
      refine Late.AllX.cons rfl (fun K' hK => ?_) Late.AllX.nil
      rw [if_pos (by rfl)]
      obtain ⟨i37, hi37, hz0, hz1, hz2⟩ := info_parts info37
      refine wp_append_own _ (.tmp 29) (.tmp 31) 31 rfl (nb + 2) 37 i37 (.slice none 0 0) 1 24 Tryd.underlying31 hi37 hz0 hz1 hz2 rfl (by decide) (.slice O1 i oc) i cells rfl HOWN5.out ⟨w4.heap.size, 0, none⟩ 1 1 [.slice Aa a.length ca] rfl rfl (new_cells w4 37 [.slice Aa a.length ca]) (by simp [Value.oneCell']) (by unfold maxLen; omega) (by omega) HNB5.out ?_
      intro v6 w6 ho6 hg6 _
      obtain ⟨O6, oc6, hv6⟩ := own_form ho6
      subst hv6
      have hbl6 : Below (nb + 2) (w4.alloc (.cells #[.slice Aa a.length ca] 37)) w6 := (Below.refl (nb + 2) _).grown hg6 HNB5.out (fun c hc => (HOWN5.out.lt c hc).1)
      have hbx6 := Blk.below HBOX5.out hbl6 (by omega)
      have q6 : w6.cell? ⟨nb + 1, 2, none⟩ = some (.slice O1 i oc) := by have := Blk.cell hbx6 2; simpa using this
      have har6 : ∀ c ∈ cells ++ [.slice Aa a.length ca], ∃ a, ArIs w6 c a := by
        intro c hc
        rcases List.mem_append.1 hc with hc | hc
        · obtain ⟨a2, h2⟩ := HDD.out c hc
          exact ⟨a2, (h2.below HB5.out).grown (by decide) HOWN5.out hg6⟩
        · obtain rfl : c = .slice Aa a.length ca := by simpa using hc
          exact ⟨a, HAR5.out.grown (by decide) HOWN5.out hg6⟩
      have hBw6 : Below w.heap.size w w6 := (HREL.out.below.trans (HB5.out.mono hW0)).trans (hbl6.mono (by omega))
      have hcne : ∀ c, (Value.slice O6 (i + 1) oc6).ownBlock = some c → (w6.setCell ⟨nb + 1, 2, none⟩ (.slice O6 (i + 1) oc6)).heap[c]? = w6.heap[c]? := fun c hc => Below.heap_setCell w6 ⟨nb + 1, 2, none⟩ _ c (by have := (ho6.lt c hc).1; simp only; omega)
      have hnm5 := HREL.out.nm.below HB5.out (Blk.lt HREL.out.nm)
      have hrs5 := HREL.out.res.below HB5.out (Blk.lt HREL.out.res)
      have hX2 : BRel w nb hv kv (i + 1) (w6.setCell ⟨nb + 1, 2, none⟩ (.slice O6 (i + 1) oc6)) ∧ True := by
        refine ⟨⟨⟨_, _, ownsRow_keepG ho6 hcne, fun c hc => ?_, ?_⟩, ?_, ?_, hnb, hBw6.setCell (by simp only; omega) _⟩, trivial⟩
        · obtain ⟨a2, h2⟩ := har6 c hc
          exact ⟨a2, h2.set (by decide) hbx6⟩
        · have := hbx6.set 2 (.slice O6 (i + 1) oc6)
          simpa using this
        · exact (Blk.below hnm5 hbl6 (by omega)).other (by simp only; omega) _
        · exact (Blk.below hrs5 hbl6 (by omega)).other (by simp only; omega) _
      have HX2 := Lib.hid hX2.1
      have k6 := q6
      have f6 := Blk.frozen hbx6 2
      have Q6 := Lib.hid q6
      have hsz6 := hBw6.size
      clear ho6 hg6 hbl6 hbx6 q6 har6 hBw6 hcne hnm5 hrs5 hi37 hz0 hz1 hz2 hX2
      refine hK.out _ _ (fun _ => Q6.out) ?_
      refine Late.ready_X (rs := [5]) (by kernel_rfl) (by simp) ?_
      refine Late.AllX.cons rfl (fun K' hK => ?_) Late.AllX.nil
      go_simp
      refine hK.out _ _ (fun _ => Q6.out) ?_
      refine Late.ready_X (rs := [6]) (by kernel_rfl) (by simp) ?_
      refine Late.AllX.cons rfl (fun K' hK => ?_) Late.AllX.nil
      go_simp
      refine hK.out _ _ (fun h => absurd (by simp) h) ?_
      refine Late.done_X (by kernel_rfl) ?_ _
      try (simp only [])
      clear k6 f6
      generalize w6.setCell ⟨nb + 1, 2, none⟩ (.slice O6 (i + 1) oc6) = w7 at *
      obtain ⟨cells7, v7, hown7, hd7, hbox7⟩ := HX2.out.ex
      obtain ⟨O7, oc7, hv7⟩ := own_form hown7
      subst hv7
      have HOWN7 := Lib.hid hown7; have HD7 := Lib.hid hd7; have HBOX7 := Lib.hid hbox7
      have b0 := Blk.cell HBOX7.out 0; have b1 := Blk.cell HBOX7.out 1; have b2 := Blk.cell HBOX7.out 2; have b3 := Blk.cell HBOX7.out 3; have b4 := Blk.cell HBOX7.out 4; have f4 := Blk.frozen HBOX7.out 4
      simp only [List.getElem?_cons_zero, List.getElem?_cons_succ] at b0 b1 b2 b3 b4
      have hl7 : nb + 1 < w7.heap.size := Blk.lt HBOX7.out
      clear hown7 hd7 hbox7
      have hfin : ∀ w8, RowSet ((w7.setCell ⟨nb + 1, 4, none⟩ (.slice (some ⟨w7.heap.size, 0, none⟩) 1 1)).alloc (.cells #[.string ⟨#[48, 49, 50, 51, 52, 53, 54, 55, 56, 57, 97, 98, 99, 100, 102, 103, 104, 105, 106, 107, 108, 109, 110, 112, 113, 114, 115, 118, 119, 120, 121, 122, 45, 110, 111]⟩] 9)) w.heap.size 34 [hv, kv, .slice O7 (i + 1) oc7, .slice (some ⟨nb, 0, none⟩) 3 3, .slice (some ⟨w7.heap.size, 0, none⟩) 1 1] w8 → WorldIs w8 (.agg #[hv, kv, .slice O7 (i + 1) oc7, .slice (some ⟨nb, 0, none⟩) 3 3, .slice (some ⟨w7.heap.size, 0, none⟩) 1 1]) ∧ Below w.heap.size w w8 := by
        intro w8 hrs
        have hsA : (w7.setCell ⟨nb + 1, 4, none⟩ (.slice (some ⟨w7.heap.size, 0, none⟩) 1 1)).heap.size = w7.heap.size := by simp
        have hown8 : World.ownsRow ((w7.setCell ⟨nb + 1, 4, none⟩ (.slice (some ⟨w7.heap.size, 0, none⟩) 1 1)).alloc (.cells #[.string ⟨#[48, 49, 50, 51, 52, 53, 54, 55, 56, 57, 97, 98, 99, 100, 102, 103, 104, 105, 106, 107, 108, 109, 110, 112, 113, 114, 115, 118, 119, 120, 121, 122, 45, 110, 111]⟩] 9)) (nb + 2) 37 1 (.slice O7 (i + 1) oc7) (i + 1) cells7 :=
          (ownsRow_keepG HOWN7.out (fun c hc => Below.heap_setCell w7 ⟨nb + 1, 4, none⟩ _ c (by have := (HOWN7.out.lt c hc).1; simp only; omega))).alloc _
        have hres8 : Blk ((w7.setCell ⟨nb + 1, 4, none⟩ (.slice (some ⟨w7.heap.size, 0, none⟩) 1 1)).alloc (.cells #[.string ⟨#[48, 49, 50, 51, 52, 53, 54, 55, 56, 57, 97, 98, 99, 100, 102, 103, 104, 105, 106, 107, 108, 109, 110, 112, 113, 114, 115, 118, 119, 120, 121, 122, 45, 110, 111]⟩] 9)) w.heap.size 34 _ := (HX2.out.res.other (by simp only; omega) _).alloc _
        have hnm8 : Blk ((w7.setCell ⟨nb + 1, 4, none⟩ (.slice (some ⟨w7.heap.size, 0, none⟩) 1 1)).alloc (.cells #[.string ⟨#[48, 49, 50, 51, 52, 53, 54, 55, 56, 57, 97, 98, 99, 100, 102, 103, 104, 105, 106, 107, 108, 109, 110, 112, 113, 114, 115, 118, 119, 120, 121, 122, 45, 110, 111]⟩] 9)) nb 9 (names3.map vs) := (HX2.out.nm.other (by simp only; omega) _).alloc _
        have hpt8 : Blk ((w7.setCell ⟨nb + 1, 4, none⟩ (.slice (some ⟨w7.heap.size, 0, none⟩) 1 1)).alloc (.cells #[.string ⟨#[48, 49, 50, 51, 52, 53, 54, 55, 56, 57, 97, 98, 99, 100, 102, 103, 104, 105, 106, 107, 108, 109, 110, 112, 113, 114, 115, 118, 119, 120, 121, 122, 45, 110, 111]⟩] 9)) w7.heap.size 9 ([path0].map vs) := by
          have := Blk.new (w7.setCell ⟨nb + 1, 4, none⟩ (.slice (some ⟨w7.heap.size, 0, none⟩) 1 1)) 9 #[.string ⟨#[48, 49, 50, 51, 52, 53, 54, 55, 56, 57, 97, 98, 99, 100, 102, 103, 104, 105, 106, 107, 108, 109, 110, 112, 113, 114, 115, 118, 119, 120, 121, 122, 45, 110, 111]⟩]
          rw [hsA] at this; exact this
        obtain ⟨g, cap, cur, hv3, hg0, hc0, hn0, hm0, hs0, ht0⟩ := own_block hown8 (by omega)
        have hbk : Blk ((w7.setCell ⟨nb + 1, 4, none⟩ (.slice (some ⟨w7.heap.size, 0, none⟩) 1 1)).alloc (.cells #[.string ⟨#[48, 49, 50, 51, 52, 53, 54, 55, 56, 57, 97, 98, 99, 100, 102, 103, 104, 105, 106, 107, 108, 109, 110, 112, 113, 114, 115, 118, 119, 120, 121, 122, 45, 110, 111]⟩] 9)) g 37 (cells7 ++ cur.toList.drop (i + 1)) := by
          unfold Blk; rw [Nat.mul_one] at ht0; rw [← ht0, List.take_append_drop]; exact hc0
        have hlen : cells7.length = i + 1 := by have := hown8.1; omega
        have hbk' := hrs.keep hbk (by omega)
        injection hv3 with e1 e0 e2
        subst e1
        refine ⟨⟨hv, kv, g, oc7, cells7, nb, some ⟨w7.heap.size, 0, none⟩, 1, [path0], by rw [hlen]; rfl, by omega, by omega, fun j hj => ?_, fun c hc => ?_, blk_strs (hrs.keep hnm8 (by omega)), by simp, by simp, blk_strs (hrs.keep hpt8 (by omega)), fun p hp => ?_⟩, hrs.below _ _ ((HX2.out.below.setCell (by simp only; omega) _).alloc (by have := HX2.out.below.size; rw [hsA]; omega) _) (Nat.le_refl _)⟩
        · have := Blk.cell hbk' j
          rw [this, List.getElem?_append_left hj, List.getElem?_eq_getElem hj]
        · obtain ⟨a2, h2⟩ := HD7.out c hc
          have h3 := (h2.set (i := 4) (x := .slice (some ⟨w7.heap.size, 0, none⟩) 1 1) (by decide) HBOX7.out).below ((Below.refl _ _).alloc (Nat.le_refl _) (.cells #[.string ⟨#[48, 49, 50, 51, 52, 53, 54, 55, 56, 57, 97, 98, 99, 100, 102, 103, 104, 105, 106, 107, 108, 109, 110, 112, 113, 114, 115, 118, 119, 120, 121, 122, 45, 110, 111]⟩] 9))
          exact ⟨a2, h3.keepG (fun b ⟨cs, hb⟩ => hrs.other b (fun e => by subst e; unfold Blk at hres8; rw [hb] at hres8; injection hres8 with q; injection q with _ q2; exact absurd q2 (by decide)))⟩
        · obtain rfl : p = path0 := by simpa using hp
          decide
      have HFIN := Lib.hid hfin
      have hres8 : Blk ((w7.setCell ⟨nb + 1, 4, none⟩ (.slice (some ⟨w7.heap.size, 0, none⟩) 1 1)).alloc (.cells #[.string ⟨#[48, 49, 50, 51, 52, 53, 54, 55, 56, 57, 97, 98, 99, 100, 102, 103, 104, 105, 106, 107, 108, 109, 110, 112, 113, 114, 115, 118, 119, 120, 121, 122, 45, 110, 111]⟩] 9)) w.heap.size 34 _ := (HX2.out.res.other (by simp only; omega) _).alloc _
      have HRES := Lib.hid hres8
      clear hfin hres8
      go_wp2_with (refine wpList_store_blk rfl (.tmp 2) (.tmp 36) rfl rfl (cs' := [hv, kv, .slice O7 (i + 1) oc7, .slice (some ⟨nb, 0, none⟩) 3 3, .slice (some ⟨w7.heap.size, 0, none⟩) 1 1]) rfl HRES.out rfl info34 (by simp only [List.all_cons, List.all_nil, HOV.out, HOK.out]; rfl) ?_)
      intro w8 hrs
      have d0 := hrs.blk.cell 0; have d1 := hrs.blk.cell 1; have d2 := hrs.blk.cell 2; have d3 := hrs.blk.cell 3; have d4 := hrs.blk.cell 4
      simp only [List.getElem?_cons_zero, List.getElem?_cons_succ] at d0 d1 d2 d3 d4
      have HF := Lib.hid (HFIN.out w8 hrs)
      clear hrs b0 b1 b2 b3 b4 f4
      go_wp2_with fail
      exact bodyPost_ret (v := .agg #[hv, kv, .slice O7 (i + 1) oc7, .slice (some ⟨nb, 0, none⟩) 3 3, .slice (some ⟨w7.heap.size, 0, none⟩) 1 1]) (by simp [results, Tryd.results12, go_sem, *]) rfl ⟨⟨_, rfl, HF.out.1⟩, HF.out.2⟩
  all_goals trace_state
end Go.Proofs.YtggmogjgaoobjaaDoor
