/- The reference's kids: what holds while a directory's entries are put in. -/
import Derived.Test.YtlehgacbcacokaaW18a
import Derived.Test.YtlehgacbcacokaaR24
import Derived.Test.YtlehgacbcacokaaW17
namespace Go.Proofs.Ytlehgacbcacokaa
open Go.RowKit TreeMath RealMath

structure OutRel (w : World) (gb B : Nat) (l : List Md) (at_ deep i : Nat) (vn vk : Value) (ps : List Ent) (wr : World) : Prop where
  blk : Blk wr gb 27 [.int .u8 1, vn, vk, .slice none 0 0, .bool false, .float .f64 0, .string ⟨#[]⟩]
  names : Strs wr (gb + 1) vn (ps.map Prod.fst)
  kids : Nodes wr (gb + 1) vk (ps.map Prod.snd)
  oks : ∀ p ∈ ps, Ok wr wr.heap.size p.2 ∧ InS (fun c => c < B ∨ gb < c) p.2
  sorted : Sorted ps
  good : ∀ p ∈ ps, nameOk p.1 = true
  made : ∀ p ∈ ps, (all p.2).all fitsB = true ∧ depth p.2 + deep ≤ 8
  count : (allL (ps.map Prod.snd)).length ≤ below (parOf l) l.length at_ i
  len : ps.length ≤ i
  below : Below gb w wr
  eqs : ps.map eraseP = entT l (kidsT l (7 - deep)) at_ i
theorem OutRel.keep {w wr wr' : World} {gb B at_ deep i : Nat} {l : List Md} {vn vk : Value} {ps : List Ent} (h : OutRel w gb B l at_ deep i vn vk ps wr) (hb : Below wr.heap.size wr wr') : OutRel w gb B l at_ deep i vn vk ps wr' :=
  ⟨h.blk.below hb h.blk.lt, own_below h.names hb, own_below h.kids hb, fun p hp => ⟨((h.oks p hp).1.keep hb).up hb.size, (h.oks p hp).2⟩, h.sorted, h.good, h.made, h.count, h.len, h.below.trans (hb.mono (Nat.le_of_lt h.blk.lt)), h.eqs⟩
theorem out_skip {w wr : World} {gb B at_ deep i : Nat} {l : List Md} {vn vk : Value} {ps : List Ent} (h : OutRel w gb B l at_ deep i vn vk ps wr) (hp : parOf l i ≠ at_) : OutRel w gb B l at_ deep (i + 1) vn vk ps wr :=
  ⟨h.blk, h.names, h.kids, h.oks, h.sorted, h.good, h.made, Nat.le_trans h.count (below_mono _ _ _ _), Nat.le_succ_of_le h.len, h.below, by rw [h.eqs, entT, if_neg (fun e => hp e.2)]⟩
theorem out_start (w : World) (B : Nat) (l : List Md) (at_ deep i : Nat) (hi : i ≤ at_ + 1) : OutRel w w.heap.size B l at_ deep i (.slice none 0 0) (.slice none 0 0) [] (w.alloc (.cells #[.int .u8 1, .slice none 0 0, .slice none 0 0, .slice none 0 0, .bool false, .float .f64 0, .string ⟨#[]⟩] 27)) :=
  ⟨Blk.new w 27 _, strs_nil _ _, nodes_nil _ _, (fun p hp => by cases hp), List.Pairwise.nil, (fun p hp => by cases hp), (fun p hp => by cases hp), by rw [List.map_nil, allL]; simp, by simp, (Below.refl _ _).alloc (Nat.le_refl _) _, by rw [entT_start _ _ _ _ hi]; rfl⟩
theorem out_blk {w W w4 : World} {gb B at_ deep i : Nat} {l : List Md} {vn vk : Value} {ps : List Ent} (h : OutRel w gb B l at_ deep i vn vk ps W) (hb : Below W.heap.size W w4) : Blk w4 gb 27 [.int .u8 1, vn, vk, .slice none 0 0, .bool false, .float .f64 0, .string ⟨#[]⟩] := h.blk.below hb h.blk.lt
theorem set2_other (w : World) (g : Nat) (v1 v2 : Value) (c : Nat) (hc : c ≠ g) : ((w.setCell ⟨g, 1, none⟩ v1).setCell ⟨g, 2, none⟩ v2).heap[c]? = w.heap[c]? := by
  rw [Below.heap_setCell _ _ _ c (fun e => hc (by simpa using e)), Below.heap_setCell _ _ _ c (fun e => hc (by simpa using e))]
theorem out_step {w W w4 : World} {gb B at_ deep i : Nat} {l : List Md} {vn vk v1 v2 : Value} {ps : List Ent} {s : List By} {k : T} (h : OutRel w gb B l at_ deep i vn vk ps W) (hB : B ≤ gb) (hk1 : Ok W W.heap.size k) (hk2 : InS (fun c => c < B ∨ gb < c) k)
    (hk3 : (all k).all fitsB = true) (hk4 : depth k + deep ≤ 8) (hk5 : count k ≤ cnt (parOf l) l.length i) (hp : parOf l i = at_) (hi : at_ < i) (hs : nameOk s = true) (hsn : s = titleN ((l[i]?.map fun m => m.name).getD 0)) (hke : erase k = kidsT l (7 - deep) i)
    (ht : TwoRows W W.heap.size v1 v2 ((insR s k ps).map Prod.fst) ((insR s k ps).map Prod.snd) w4) :
    OutRel w gb B l at_ deep (i + 1) v1 v2 (insR s k ps) ((w4.setCell ⟨gb, 1, none⟩ v1).setCell ⟨gb, 2, none⟩ v2) := by
  have hgl := h.blk.lt
  have hb := out_blk h ht.below
  have key := set2_other w4 gb v1 v2
  have hsz : ((w4.setCell ⟨gb, 1, none⟩ v1).setCell ⟨gb, 2, none⟩ v2).heap.size = w4.heap.size := by simp only [World.size_setCell]
  have hws := ht.below.size
  have turn : ∀ t, Ok W W.heap.size t → InS (fun c => c < B ∨ gb < c) t → Ok ((w4.setCell ⟨gb, 1, none⟩ v1).setCell ⟨gb, 2, none⟩ v2) ((w4.setCell ⟨gb, 1, none⟩ v1).setCell ⟨gb, 2, none⟩ v2).heap.size t := fun t h1 h2 =>
    h1.turn h2 (fun c hc hl => by rw [key c (by rcases hc with e | e <;> omega)]; exact ht.below.block c hl) (fun c _ hl => by rw [hsz]; omega)
  refine ⟨?_, ?_, ?_, ?_, insR_sorted h.sorted, ?_, ?_, ?_, ?_, ?_, by rw [insR_erase, h.eqs, entT, if_pos ⟨hi, hp⟩, hke, hsn]⟩
  · have := (hb.set 1 v1).set 2 v2; simpa using this
  · exact own_weak (own_same ht.names fun c h1 _ => key c (by omega)) (by omega)
  · exact own_weak (own_same ht.kids fun c h1 _ => key c (by omega)) (by omega)
  · intro p hp'
    rcases insR_mem hp' with e | e
    · rw [e]; exact ⟨turn k hk1 hk2, hk2⟩
    · exact ⟨turn p.2 (h.oks p e).1 (h.oks p e).2, (h.oks p e).2⟩
  · intro p hp'
    rcases insR_mem hp' with e | e
    · rw [e]; exact hs
    · exact h.good p e
  · intro p hp'
    rcases insR_mem hp' with e | e
    · rw [e]; exact ⟨hk3, hk4⟩
    · exact h.made p e
  · have h1 := insR_count s k ps
    have h2 := below_step (parOf l) l.length at_ i hp hi
    have h3 := h.count
    omega
  · have := insR_length s k ps; have := h.len; omega
  · exact ((h.below.trans (ht.below.mono (Nat.le_of_lt hgl))).setCell (by exact Nat.le_refl _) _).setCell (by exact Nat.le_refl _) _
theorem all_fits {ks : List T} (h : ∀ k ∈ ks, (all k).all fitsB = true) : (allL ks).all fitsB = true := by
  induction ks with
  | nil => rw [allL]; rfl
  | cons k l ih => rw [allL, List.all_append, h k (by simp), ih (fun j hj => h j (by simp [hj]))]; rfl
theorem depth_kids {ks : List T} {d : Nat} (h : ∀ k ∈ ks, depth k ≤ d) : depthL ks ≤ d := by
  induction ks with
  | nil => rw [depthL]; omega
  | cons k l ih => rw [depthL]; have := h k (by simp); have := ih (fun j hj => h j (by simp [hj])); omega
theorem out_done {w wr : World} {gb B at_ deep i : Nat} {l : List Md} {vn vk : Value} {ps : List Ent} (h : OutRel w gb B l at_ deep i vn vk ps wr) (hat : at_ < l.length) (hi : i ≤ 40) (hd : deep ≤ 7) (hil : i = l.length) (hkd : kidsT l (8 - deep) at_ = .mk (dirE ((entT l (kidsT l (7 - deep)) at_ l.length).map Prod.fst)) ((entT l (kidsT l (7 - deep)) at_ l.length).map Prod.snd)) :
    ∃ An cn Ak ck, vn = .slice An ps.length cn ∧ vk = .slice Ak ps.length ck ∧ Ok wr wr.heap.size (.mk (dirHd An cn (ps.map Prod.fst) Ak ck) (ps.map Prod.snd)) ∧ InS (fun c => c < B ∨ gb < c) (.mk (dirHd An cn (ps.map Prod.fst) Ak ck) (ps.map Prod.snd)) ∧
      MadeT l at_ deep (.mk (dirHd An cn (ps.map Prod.fst) Ak ck) (ps.map Prod.snd)) := by
  obtain ⟨An, cn, hn, hns, hnn, hnc, hnb⟩ := h.names.src
  obtain ⟨Ak, ck, hkv, hks, hkn, hkc, hkb⟩ := h.kids.src
  have hlen := h.len
  rw [List.length_map] at hn hnc hkv hkc
  refine ⟨An, cn, Ak, ck, hn, hkv, ok_dir _ _ _ _ _ _ hns (fun _ a ha => (hnb a ha).2) hnn (by rw [List.length_map]; exact hnc) (by rw [List.length_map]; unfold maxLen; omega) ?_ hkn (by rw [List.length_map]; unfold maxLen; omega) (by rw [List.length_map]; exact hkc) hks ?_, ?_, ?_⟩
  · intro t ht
    obtain ⟨p, hp, rfl⟩ := List.mem_map.1 ht
    have := h.good p hp
    unfold nameOk at this
    simp only [Bool.and_eq_true, decide_eq_true_eq] at this
    have := this.1.1.1.1.2
    unfold maxLen; omega
  · intro t ht
    obtain ⟨p, hp, rfl⟩ := List.mem_map.1 ht
    exact (h.oks p hp).1
  · refine inS_dir _ _ _ _ _ _ _ (fun _ a ha => .inr (by have := (hnb a ha).1; omega)) (fun _ a ha => .inr (by have := (hkb a ha).1; omega)) ?_
    intro t ht
    obtain ⟨p, hp, rfl⟩ := List.mem_map.1 ht
    exact (h.oks p hp).2
  · refine ⟨?_, ?_, ?_, ?_⟩
    · rw [all, List.all_cons, fits_dir, namesOk_sorted h.sorted h.good, List.length_map, List.length_map, decide_eq_true rfl, all_fits (fun t ht => by obtain ⟨p, hp, rfl⟩ := List.mem_map.1 ht; exact (h.made p hp).1)]; rfl
    · have := depth_kids (ks := ps.map Prod.snd) (d := 8 - deep) (fun t ht => by obtain ⟨p, hp, rfl⟩ := List.mem_map.1 ht; have := (h.made p hp).2; omega)
      rw [TreeMath.depth]; omega
    · rw [count_mk]; have := h.count; have := below_cnt (parOf l) l.length at_ i hat; omega
    · rw [hkd, ← hil, ← h.eqs, erase, eraseL_map, List.map_map, List.map_map, List.map_map]; rfl
theorem made_file (l : List Md) (at_ deep : Nat) (da : Option Addr) (dc : Nat) (data : List By) (run : Bool) (stamp : Nat) (h : data.length ≤ 200) (hat : at_ < l.length) (hd : deep ≤ 8) (he : kidsT l (8 - deep) at_ = .mk (fileE data run stamp) []) : MadeT l at_ deep (.mk (fileHd da dc data run stamp) []) :=
  ⟨by rw [all, allL, List.all_cons, fits_file, decide_eq_true (by omega)]; rfl, by rw [TreeMath.depth, depthL]; omega, by rw [count_mk, allL]; have := below_cnt (parOf l) l.length at_ 0 hat; simp; omega, by rw [he]; rfl⟩
theorem made_link (l : List Md) (at_ deep : Nat) (t : List By) (h : t.length ≤ 200) (hat : at_ < l.length) (hd : deep ≤ 8) (he : kidsT l (8 - deep) at_ = .mk (linkE (116 :: t)) []) : MadeT l at_ deep (.mk (linkHd (116 :: t)) []) :=
  ⟨by rw [all, allL, List.all_cons, fits_link, decide_eq_true (by simp), decide_eq_true (by simp; omega)]; rfl, by rw [TreeMath.depth, depthL]; omega, by rw [count_mk, allL]; have := below_cnt (parOf l) l.length at_ 0 hat; simp; omega, by rw [he]; rfl⟩
end Go.Proofs.Ytlehgacbcacokaa
