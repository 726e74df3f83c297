/- TreeMade: what each way of its switch makes of a tree. -/
import Derived.Test.YtlehgacbcacokaaR31
import Derived.Test.YtlehgacbcacokaaL5
import Derived.Laws.IdiomStrings
namespace Go.Proofs.Ytlehgacbcacokaa
open Go.RowKit TreeMath RealMath

theorem made_right {t : T} (h : MadeR t) : rightB t = true := by
  unfold rightB
  rw [h.fits, decide_eq_true h.depth, decide_eq_true (by have := h.count; omega : count t ≤ 64)]; rfl
theorem fits_names {x : Hd} {ks : List T} (h : fitsB (.mk x ks) = true) : x.names.length ≤ ks.length := by
  rw [fitsB] at h
  split at h
  · simp only [Bool.and_eq_true, decide_eq_true_eq] at h; omega
  · split at h
    · simp only [Bool.and_eq_true, decide_eq_true_eq] at h; have := h.1.1.2; rw [this]; simp
    · split at h
      · simp only [Bool.and_eq_true, decide_eq_true_eq] at h; have := h.1.1.2; rw [this]; simp
      · simp at h
theorem all_self (t : T) : t ∈ all t := by cases t; rw [all]; simp
theorem kids_le {x : Hd} {ks : List T} : ks.length ≤ count (.mk x ks) := by rw [count_mk]; have := len_le_count ks; omega
mutual
theorem mem_count : ∀ (t k : T), k ∈ all t → count k ≤ count t
  | .mk x ks, k, h => by
    rw [all] at h
    rcases List.mem_cons.1 h with e | e
    · rw [e]; omega
    · rw [count_mk]; have := memL_count ks k e; omega
theorem memL_count : ∀ (ks : List T) (k : T), k ∈ allL ks → count k ≤ (allL ks).length
  | [], k, h => by rw [allL] at h; cases h
  | a :: l, k, h => by
    rw [allL] at h ⊢
    rw [List.length_append]
    rcases List.mem_append.1 h with e | e
    · have := mem_count a k e; unfold count at this ⊢; omega
    · have := memL_count l k e; omega
end
theorem made_few {t : T} (h : MadeR t) : Few t := fun k hk => by
  have h1 := List.all_eq_true.1 h.fits k hk
  have h2 := mem_count t k hk
  have h3 := h.count
  obtain ⟨x, ks⟩ := k
  have h4 := fits_names h1
  have h5 := kids_le (x := x) (ks := ks)
  show x.names.length ≤ _
  omega
/-- another head, the same kids -/
theorem few_head {x z : Hd} {ks : List T} (h : Few (.mk x ks)) (hz : z.names.length ≤ 100000) : Few (.mk z ks) := fun k hk => by
  rw [all] at hk
  rcases List.mem_cons.1 hk with e | e
  · rw [e]; exact hz
  · exact h k (by rw [all]; exact List.mem_cons_of_mem _ e)
theorem count_head (x z : Hd) (ks : List T) : count (.mk z ks) = count (.mk x ks) := by rw [count_mk, count_mk]
theorem conv_bytes (s : List By) (W : World) : ∃ W6 cap, (convert 9 24 (vs s)).run Try.prog W = .ok (.slice (some ⟨W.heap.size, 0, none⟩) s.length cap) W6 ∧ Below W.heap.size W W6 ∧ W6.heap.size = W.heap.size + 1 ∧ BytesAt W6 W.heap.size 0 s ∧ s.length ≤ cap := by
  have hr := run_bytes_of_string (P := Try.prog) W 9 24 5 ⟨s.toArray⟩ Try.underlying9 Try.underlying24 Try.underlying5
  have hsz : (⟨s.toArray⟩ : ByteArray).size = s.length := by simp [ByteArray.size]
  have hge := grownCap_ge W (⟨s.toArray⟩ : ByteArray).size 0 5
  rw [hsz] at hr hge
  refine ⟨_, _, hr, (Below.refl _ _).drew.alloc (Nat.le_refl _) _, by simp, ?_, hge⟩
  intro k hk
  have hb := bytesRow_at ⟨s.toArray⟩ (grownCap W s.length 0 5) k (by simpa using hk)
  generalize bytesRow ⟨s.toArray⟩ (grownCap W s.length 0 5) = C at *
  have hh : (W.drew.alloc (.cells C 5 (C.size, C.size + 1))).heap[W.heap.size]? = some (.cells C 5 (C.size, C.size + 1)) := by
    show (W.heap.push _)[W.heap.size]? = _
    simp
  rw [Nat.zero_add, cell_of_row _ _ k C 5 _ hh, hb]
  rfl
/-- what the last question wants -/
structure Ready (w : World) (g9 g10 : Nat) (y z : Hd) (ly lz : List T) (W : World) : Prop where
  b9 : Blk W g9 27 (cellsT (.mk y ly))
  b10 : Blk W g10 27 (cellsT (.mk z lz))
  oky : Ok W W.heap.size (.mk y ly)
  okz : Ok W W.heap.size (.mk z lz)
  cn : count (.mk z lz) ≤ 90000
  few : Few (.mk z lz)
  below : Below w.heap.size w W
/-- where the switch stands -/
structure Sw (w : World) (g9 g10 : Nat) (y : Hd) (ly : List T) (W : World) : Prop where
  b9 : Blk W g9 27 (cellsT (.mk y ly))
  b10 : Blk W g10 27 (cellsT (.mk y ly))
  ne : g9 < g10
  wg : w.heap.size ≤ g9
  ok : Ok W g9 (.mk y ly)
  made : MadeR (.mk y ly)
  below : Below w.heap.size w W
theorem Sw.keep {w W W' : World} {g9 g10 : Nat} {y : Hd} {ly : List T} (h : Sw w g9 g10 y ly W) (hb : Below W.heap.size W W') : Sw w g9 g10 y ly W' :=
  ⟨h.b9.below hb h.b9.lt, h.b10.below hb h.b10.lt, h.ne, h.wg, h.ok.keep (hb.mono (Nat.le_of_lt h.b9.lt)), h.made, h.below.trans (hb.mono h.below.size)⟩
theorem sw_set {w W : World} {g9 g10 : Nat} {y z : Hd} {ly : List T} (h : Sw w g9 g10 y ly W) (o : Nat) (v : Value) (hz : (cellsT (.mk y ly)).set o v = cellsT (.mk z ly)) (hka : z.ka = y.ka) (hkc : z.kc = y.kc)
    (hzo : Below g9 W (W.setCell ⟨g10, o, none⟩ v) → HdOk (W.setCell ⟨g10, o, none⟩ v) (W.setCell ⟨g10, o, none⟩ v).heap.size z) (hkn : z.names.length ≤ 100000) : Ready w g9 g10 y z ly ly (W.setCell ⟨g10, o, none⟩ v) := by
  have hb : Below g9 W (W.setCell ⟨g10, o, none⟩ v) := (Below.refl _ _).setCell (by exact Nat.le_of_lt h.ne) _
  have hsz : g9 ≤ (W.setCell ⟨g10, o, none⟩ v).heap.size := by rw [World.size_setCell]; exact Nat.le_of_lt h.b9.lt
  have hok : Ok (W.setCell ⟨g10, o, none⟩ v) (W.setCell ⟨g10, o, none⟩ v).heap.size (.mk y ly) := (h.ok.keep hb).up hsz
  refine ⟨h.b9.other (by have := h.ne; show g9 ≠ g10; omega) _, ?_, hok, ?_, ?_, ?_, h.below.setCell (by have := h.ne; have := h.wg; show _ ≤ g10; omega) _⟩
  · have := h.b10.set o v; rw [hz] at this; exact this
  · refine .mk z ly (hzo hb) hok.len (by rw [hkc]; exact hok.cap) (by rw [hka]; exact hok.at) (fun k hk => hok.kid hk)
  · rw [count_head y]; have := h.made.count; omega
  · exact few_head (made_few h.made) hkn
theorem Sw.head {w W W' : World} {g9 g10 : Nat} {y : Hd} {ly : List T} (h : Sw w g9 g10 y ly W) (hb : Below g9 W W') : HdOk W' W'.heap.size y := ((h.ok.keep hb).up (Nat.le_trans (Nat.le_of_lt h.b9.lt) hb.size)).hd
theorem Sw.names {w W : World} {g9 g10 : Nat} {y : Hd} {ly : List T} (h : Sw w g9 g10 y ly W) : y.names.length ≤ 100000 := made_few h.made (.mk y ly) (all_self _)
end Go.Proofs.Ytlehgacbcacokaa
