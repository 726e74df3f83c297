/- The contract of the law's lay. -/
import Derived.Test.YtefifdejepafgaaW15
import Derived.Deep.DeepCutAuto
namespace Go.Proofs.Ytefifdejepafgaa
open Go.RowKit BaseMath WireMath

/-- an item's bytes -/
def itemB (x : It) : List By :=
  if x.kind.toNat % 5 = 0 then [UInt8.ofNat x.n] else if x.kind.toNat % 5 = 1 then numB x.n else if x.kind.toNat % 5 = 2 then wideB x.n else if x.kind.toNat % 5 = 3 then textB x.s else textsB x.ll
def layN (its : List It) (i : Nat) : List By := (its.take i).flatMap itemB
theorem layN_succ (its : List It) (i : Nat) (h : i < its.length) : layN its (i + 1) = layN its i ++ itemB its[i] := by
  unfold layN; rw [List.take_succ_eq_append_getElem h, List.flatMap_append, List.flatMap_cons, List.flatMap_nil, List.append_nil]
theorem flat_small (ll : List (List By)) (h : smallB ll = true) : (ll.flatMap textB).length ≤ 62 * ll.length := by
  induction ll with
  | nil => simp
  | cons t ll ih =>
    simp only [smallB, List.all_cons, Bool.and_eq_true, decide_eq_true_eq] at h
    have := ih h.2
    rw [List.flatMap_cons, List.length_append, List.length_cons]
    simp only [textB, numB, List.length_append, List.length_cons, List.length_nil]; omega
theorem short_parts {x : It} (h : shortB x = true) : x.s.length ≤ 300 ∧ x.ll.length ≤ 20 ∧ smallB x.ll = true ∧ (x.ll.flatMap textB).length ≤ 1240 := by
  simp only [shortB, Bool.and_eq_true, decide_eq_true_eq] at h
  have := flat_small x.ll h.2
  exact ⟨h.1.1, h.1.2, h.2, by omega⟩
theorem itemB_le {x : It} (h : shortB x = true) : (itemB x).length ≤ 1241 := by
  obtain ⟨h1, _, _, h2⟩ := short_parts h
  unfold itemB
  repeat' split
  · simp
  · simp [numB]
  · simp [wideB]
  · simp [textB, numB]; omega
  · simp only [textsB, List.length_append, List.length_cons, List.length_nil]; omega
theorem layN_le (its : List It) (h : shortsB its = true) (i : Nat) (hi : i ≤ its.length) : (layN its i).length ≤ 1241 * i := by
  induction i with
  | zero => simp [layN]
  | succ i ih =>
    rw [layN_succ its i (by omega), List.length_append]
    have := ih (by omega)
    simp only [shortsB, Bool.and_eq_true, List.all_eq_true] at h
    have := itemB_le (h.1 its[i] (List.getElem_mem (by omega)))
    omega
/-- the writer and the reference's row, apart -/
structure LayRel (w : World) (l1 l2 : List By) (v v2 : Value) (wr : World) : Prop where
  is : WrIs wr w.heap.size w.heap.size v l1
  row : wr.ownsRow w.heap.size 5 1 v2 l2.length (l2.map vb)
  apart : ∀ k, v2.ownBlock = some k → v.ownBlock ≠ some k
  below : Below w.heap.size w wr
theorem LayRel.grow {w wr w1 : World} {l1 l2 : List By} {v v2 : Value} (h : LayRel w l1 l2 v v2 wr) (hb : Below wr.heap.size wr w1) : LayRel w l1 l2 v v2 w1 :=
  ⟨h.is.below hb, ownsRow_keep h.row (fun k hk => hb.block k (h.row.lt k hk).2), h.apart, h.below.trans (hb.mono h.below.size)⟩
theorem LayRel.write {w wr w1 : World} {l1 l2 l1' : List By} {v v2 v' : Value} (h : LayRel w l1 l2 v v2 wr) (h1 : WrIs w1 w.heap.size w.heap.size v' l1') (t : WrStep w.heap.size v v' wr w1) : LayRel w l1' l2 v' v2 w1 := by
  refine ⟨h1, ownsRow_keep h.row (fun k hk => t.other k (h.row.lt k hk).2 ?_ (h.apart k hk)), fun k hk e => ?_, h.below.trans (t.below h.is h.below.size)⟩
  · intro e; subst e; exact own_ne (by decide) h.is.blk h.row hk
  · rcases t.own k e with h2 | h2
    · exact h.apart k hk h2
    · have := (h.row.lt k hk).2; omega
theorem LayRel.push {w wr w1 : World} {l1 l2 l2' : List By} {v v2 v2' : Value} (h : LayRel w l1 l2 v v2 wr) (ho : w1.ownsRow w.heap.size 5 1 v2' l2'.length (l2'.map vb)) (hg : wr.grownBy w1 v2.ownBlock)
    (hk : ∀ k, v2'.ownBlock = some k → v2.ownBlock = some k ∨ wr.heap.size ≤ k) : LayRel w l1 l2' v v2' w1 := by
  have hne := own_ne (by decide) h.is.blk h.row
  refine ⟨⟨?_, ownsRow_keep h.is.own (fun k hk2 => hg.block k (h.is.own.lt k hk2).2 (fun e => h.apart k e.symm hk2)), Nat.le_refl _⟩, ho, fun k hk2 e => ?_, h.below.grown hg h.below.size (fun k hk2 => (h.row.lt k hk2).1)⟩
  · unfold Blk; rw [hg.block _ h.is.blk.lt (fun e => hne e.symm)]; exact h.is.blk
  · rcases hk k hk2 with h2 | h2
    · exact h.apart k h2 e
    · have := (h.is.own.lt k e).2; omega
theorem LayRel.start (w : World) : LayRel w [] [] (.slice none 0 0) (.slice none 0 0) (w.alloc (.cells #[.slice none 0 0] 62)) :=
  ⟨writer_new w, World.ownsRow_nil _ _ _ _, (fun k hk => by cases hk), (Below.refl _ _).alloc (Nat.le_refl _) _⟩
theorem numB_wrap (n : Int) : numB (wrap64 n) = numB n := by
  have h1 : wrap64 n / 256 % 256 = n / 256 % 256 := by unfold wrap64; omega
  have h2 : wrap64 n % 256 = n % 256 := by unfold wrap64; omega
  unfold numB; rw [h1, h2]
/-- what lay comes to -/
def LayPost (l : List By) (w : World) (e : Ending) (w' : World) : Prop :=
  ∃ A1 c1 A2 c2, e = .returned (.tuple #[.slice A1 l.length c1, .slice A2 l.length c2]) ∧ SrcIs w' A1 l ∧ (A1 = none → c1 = 0) ∧ SrcIs w' A2 l ∧ (A2 = none → c2 = 0) ∧ Below w.heap.size w w'
set_option maxHeartbeats 2000000 in
set_option maxRecDepth 100000 in
theorem lay25_any (A : Option Addr) (cap : Nat) (its : List It) (hsh : shortsB its = true) (w : World) (hA : ItemsIs w A its) :
    Calls Try.prog 25 #[.slice A its.length cap] w (LayPost (layN its its.length) w) := by
  have HA := Lib.hid hA; clear hA
  have hl30 : its.length ≤ 30 := by simp only [shortsB, Bool.and_eq_true, decide_eq_true_eq] at hsh; exact hsh.2
  have HSH := Lib.hid hsh; clear hsh
  have H0 := Lib.hid (LayRel.start w)
  go_enter Try.func25, Try.ntmps25
  go_wp2_with fail
  go_loopw [5, 6] (fun v2 vi wr => ∃ i : Nat, i ≤ its.length ∧ vi = .int .i64 i ∧ Hid (∃ v, LayRel w (layN its i) (layN its i) v v2 wr)) (fun _ vi _ => its.length - (intOf vi).toNat)
  case atStart => exact ⟨0, Nat.zero_le _, rfl, _, H0.out⟩
  case round =>
    clear H0
    obtain ⟨i, hi, rfl, HR⟩ := hrel
    rename World => W0
    obtain ⟨v, hv⟩ := HR.out
    have HL := Lib.hid hv
    have hln := layN_le its HSH.out i hi
    clear hv HR
    by_cases hlt : i < its.length
    · obtain ⟨b, o, hAe, hc⟩ := (HA.out.below HL.out.below) (by omega)
      subst hAe
      obtain ⟨hat, hok⟩ := hc i hlt
      have c0 := hat 0 _ rfl
      have c1 := hat 1 _ rfl
      have c2 := hat 2 _ rfl
      have c3 := hat 3 _ rfl
      rw [Nat.add_zero] at c0
      have hshx : shortB its[i] = true := by
        have := HSH.out
        simp only [shortsB, Bool.and_eq_true, List.all_eq_true] at this
        exact this.1 _ (List.getElem_mem hlt)
      have HLS := Lib.hid (layN_succ its i hlt)
      have HSRCW : Hid (0 < its[i].ll.length → ∀ a, its[i].la = some a → a.block < w.heap.size) := ((HA.out (by omega)).elim fun b' h => h.elim fun o' h => (h.2 i hlt).2.src.lt)
      clear hc hat
      generalize its[i] = x at *
      obtain ⟨hs1, hs2, hs3, hs4⟩ := short_parts hshx
      have HIL := Lib.hid (itemB_le hshx)
      have hxn := hok.n
      go_upto_region 7 with fail
      clear c0 c1 c2 c3
      have hbal : Below W0.heap.size W0 (W0.alloc (.cells #[vb x.kind, .int .u64 (x.n : Nat), vs x.s, .slice x.la x.ll.length x.lc] 46)) := (Below.refl _ _).alloc (Nat.le_refl _) _
      have HLX := Lib.hid (HL.out.grow hbal)
      have HOK := Lib.hid (hok.below hbal)
      have HBX : Hid (Blk (W0.alloc (.cells #[vb x.kind, .int .u64 (x.n : Nat), vs x.s, .slice x.la x.ll.length x.lc] 46)) W0.heap.size 46 x.vals) := Blk.new W0 46 _
      have HOWN : Hid (v.ownBlock ≠ some W0.heap.size) := fun e => by have := (HL.out.is.own.lt _ e).2; omega
      have hgw : w.heap.size < W0.heap.size := HL.out.is.blk.lt
      have HSRC : Hid (0 < x.ll.length → ∀ a, x.la = some a → a.block < w.heap.size) := HSRCW.out
      generalize W0.alloc (.cells #[vb x.kind, .int .u64 (x.n : Nat), vs x.s, .slice x.la x.ll.length x.lc] 46) = Wx at *
      clear hbal hok HL
      have d0 := HBX.out.cell 0; have d1 := HBX.out.cell 1; have d2 := HBX.out.cell 2; have d3 := HBX.out.cell 3
      simp only [It.vals, List.getElem?_cons_zero, List.getElem?_cons_succ] at d0 d1 d2 d3
      have hd5 : (x.kind.toNat : Int) % 5 = 0 ∨ (x.kind.toNat : Int) % 5 = 1 ∨ (x.kind.toNat : Int) % 5 = 2 ∨ (x.kind.toNat : Int) % 5 = 3 ∨ (x.kind.toNat : Int) % 5 = 4 := by omega
      have hkb : x.kind.toNat < 256 := x.kind.toNat_lt
      rcases hd5 with hd | hd | hd | hd | hd
      · have HI : Hid (itemB x = [UInt8.ofNat x.n]) := by show _ = _; unfold itemB; rw [if_pos (by omega)]
        rw [HI.out] at HLS HIL
        go_wp2_with fail
        rw [← vb_mod x.n]
        refine (wbyte_any w.heap.size w.heap.size v (layN its i) (UInt8.ofNat x.n) (by omega) _ HLX.out.is).mono ?_
        rintro e w1 ⟨rfl, v1, h1, t1⟩
        have HL1 := Lib.hid (HLX.out.write h1 t1)
        have hbx : Blk w1 W0.heap.size 46 x.vals := by unfold Blk; rw [t1.other W0.heap.size HBX.out.lt (by omega) HOWN.out]; exact HBX.out
        have e1 := hbx.cell 1
        simp only [It.vals, List.getElem?_cons_zero, List.getElem?_cons_succ] at e1
        have HBW := Lib.hid (t1.below HLX.out.is HLX.out.below.size)
        clear h1 t1 hbx d0 d1 d2 d3 HLX HBX
        have hns := new_src w1 [UInt8.ofNat x.n]
        rw [List.map_cons, List.map_nil, vb_mod] at hns
        have HS2 := Lib.hid hns
        have HL2 : Hid (LayRel w _ _ v1 _ (w1.alloc (.cells #[.int .u8 ((x.n : Int) % 256)] 5))) := HL1.out.grow ((Below.refl _ _).alloc (Nat.le_refl _) _)
        have hsz := HL2.out.below.size
        clear hns HL1
        go_wp2_with (refine wpList_append_x rfl (.tmp 39) (.tmp 43) rfl w.heap.size _ (layN its i) rfl HL2.out.row (some ⟨w1.heap.size, 0, none⟩) 1 [UInt8.ofNat x.n] rfl (fun h => by cases h) HS2.out (by simp; omega) hsz ?_)
        intro v3 w3 ho hg hk3
        have HN : Hid (∃ v, LayRel w (layN its (i + 1)) (layN its (i + 1)) v v3 w3) := by
          refine ⟨v1, ?_⟩
          rw [HLS.out]
          refine HL2.out.push ?_ hg (by first | exact hk3 | simpa using hk3)
          first | exact ho | (rw [List.length_append, List.map_append]; exact ho) | simpa using ho
        clear ho hg hk3 HL2
        go_wp2_with fail
        go_roundw
        case rel => exact ⟨i + 1, by omega, by go_num, HN.out⟩
        case measure => simp [intOf]; omega
      · have HI : Hid (itemB x = numB (wrap64 x.n)) := by show _ = _; unfold itemB; rw [if_neg (by omega)]; rw [if_pos (by omega), numB_wrap]
        rw [HI.out] at HLS HIL
        go_wp2_with fail
        refine (wnum_any w.heap.size w.heap.size v (layN its i) (wrap64 x.n) (by omega) _ HLX.out.is).mono ?_
        rintro e w1 ⟨rfl, v1, h1, t1⟩
        have HL1 := Lib.hid (HLX.out.write h1 t1)
        have hbx : Blk w1 W0.heap.size 46 x.vals := by unfold Blk; rw [t1.other W0.heap.size HBX.out.lt (by omega) HOWN.out]; exact HBX.out
        have e1 := hbx.cell 1
        simp only [It.vals, List.getElem?_cons_zero, List.getElem?_cons_succ] at e1
        have HBW := Lib.hid (t1.below HLX.out.is HLX.out.below.size)
        clear h1 t1 hbx d0 d1 d2 d3 HLX HBX
        go_wp2_with fail
        refine (rnum_any (wrap64 x.n) w1).mono ?_
        rintro e w2 ⟨v2, rfl, hr2⟩
        have HL2 := Lib.hid (HL1.out.grow hr2.below)
        obtain ⟨A2, c2, rfl, hs2', hn2, -, -⟩ := hr2.src
        have HS2 := Lib.hid hs2'; have HN2 := Lib.hid hn2
        have hsz := HL2.out.below.size
        clear hr2 hs2' hn2 HL1
        go_wp2_with (refine wpList_append_x rfl (.tmp 52) (.tmp 56) rfl w.heap.size _ (layN its i) rfl HL2.out.row A2 c2 _ rfl HN2.out HS2.out (by have := HIL.out; omega) hsz ?_)
        intro v3 w3 ho hg hk3
        have HN : Hid (∃ v, LayRel w (layN its (i + 1)) (layN its (i + 1)) v v3 w3) := by
          refine ⟨v1, ?_⟩
          rw [HLS.out]
          refine HL2.out.push ?_ hg (by first | exact hk3 | simpa using hk3)
          first | exact ho | (rw [List.length_append, List.map_append]; exact ho) | simpa using ho
        clear ho hg hk3 HL2
        go_wp2_with fail
        go_roundw
        case rel => exact ⟨i + 1, by omega, by go_num, HN.out⟩
        case measure => simp [intOf]; omega
      · have HI : Hid (itemB x = wideB x.n) := by show _ = _; unfold itemB; rw [if_neg (by omega)]; rw [if_neg (by omega)]; rw [if_pos (by omega)]
        rw [HI.out] at HLS HIL
        go_wp2_with fail
        refine (wwide_any w.heap.size w.heap.size v (layN its i) x.n hxn (by omega) _ HLX.out.is).mono ?_
        rintro e w1 ⟨rfl, v1, h1, t1⟩
        have HL1 := Lib.hid (HLX.out.write h1 t1)
        have hbx : Blk w1 W0.heap.size 46 x.vals := by unfold Blk; rw [t1.other W0.heap.size HBX.out.lt (by omega) HOWN.out]; exact HBX.out
        have e1 := hbx.cell 1
        simp only [It.vals, List.getElem?_cons_zero, List.getElem?_cons_succ] at e1
        have HBW := Lib.hid (t1.below HLX.out.is HLX.out.below.size)
        clear h1 t1 hbx d0 d1 d2 d3 HLX HBX
        go_wp2_with fail
        refine (rwide_any x.n hxn w1).mono ?_
        rintro e w2 ⟨v2, rfl, hr2⟩
        have HL2 := Lib.hid (HL1.out.grow hr2.below)
        obtain ⟨A2, c2, rfl, hs2', hn2, -, -⟩ := hr2.src
        have HS2 := Lib.hid hs2'; have HN2 := Lib.hid hn2
        have hsz := HL2.out.below.size
        clear hr2 hs2' hn2 HL1
        go_wp2_with (refine wpList_append_x rfl (.tmp 64) (.tmp 67) rfl w.heap.size _ (layN its i) rfl HL2.out.row A2 c2 _ rfl HN2.out HS2.out (by have := HIL.out; omega) hsz ?_)
        intro v3 w3 ho hg hk3
        have HN : Hid (∃ v, LayRel w (layN its (i + 1)) (layN its (i + 1)) v v3 w3) := by
          refine ⟨v1, ?_⟩
          rw [HLS.out]
          refine HL2.out.push ?_ hg (by first | exact hk3 | simpa using hk3)
          first | exact ho | (rw [List.length_append, List.map_append]; exact ho) | simpa using ho
        clear ho hg hk3 HL2
        go_wp2_with fail
        go_roundw
        case rel => exact ⟨i + 1, by omega, by go_num, HN.out⟩
        case measure => simp [intOf]; omega
      · have HI : Hid (itemB x = textB x.s) := by show _ = _; unfold itemB; rw [if_neg (by omega)]; rw [if_neg (by omega)]; rw [if_neg (by omega)]; rw [if_pos (by omega)]
        rw [HI.out] at HLS HIL
        go_wp2_with fail
        refine (wtext_any w.heap.size w.heap.size v (layN its i) x.s (by omega) _ HLX.out.is).mono ?_
        rintro e w1 ⟨rfl, v1, h1, t1⟩
        have HL1 := Lib.hid (HLX.out.write h1 t1)
        have hbx : Blk w1 W0.heap.size 46 x.vals := by unfold Blk; rw [t1.other W0.heap.size HBX.out.lt (by omega) HOWN.out]; exact HBX.out
        have e1 := hbx.cell 2
        simp only [It.vals, List.getElem?_cons_zero, List.getElem?_cons_succ] at e1
        have HBW := Lib.hid (t1.below HLX.out.is HLX.out.below.size)
        clear h1 t1 hbx d0 d1 d2 d3 HLX HBX
        go_wp2_with fail
        refine (rtextb_any x.s (by omega) w1).mono ?_
        rintro e w2 ⟨v2, rfl, hr2⟩
        have HL2 := Lib.hid (HL1.out.grow hr2.below)
        obtain ⟨A2, c2, rfl, hs2', hn2, -, -⟩ := hr2.src
        have HS2 := Lib.hid hs2'; have HN2 := Lib.hid hn2
        have hsz := HL2.out.below.size
        clear hr2 hs2' hn2 HL1
        go_wp2_with (refine wpList_append_x rfl (.tmp 75) (.tmp 78) rfl w.heap.size _ (layN its i) rfl HL2.out.row A2 c2 _ rfl HN2.out HS2.out (by have := HIL.out; omega) hsz ?_)
        intro v3 w3 ho hg hk3
        have HN : Hid (∃ v, LayRel w (layN its (i + 1)) (layN its (i + 1)) v v3 w3) := by
          refine ⟨v1, ?_⟩
          rw [HLS.out]
          refine HL2.out.push ?_ hg (by first | exact hk3 | simpa using hk3)
          first | exact ho | (rw [List.length_append, List.map_append]; exact ho) | simpa using ho
        clear ho hg hk3 HL2
        go_wp2_with fail
        go_roundw
        case rel => exact ⟨i + 1, by omega, by go_num, HN.out⟩
        case measure => simp [intOf]; omega
      · have HI : Hid (itemB x = textsB x.ll) := by show _ = _; unfold itemB; rw [if_neg (by omega)]; rw [if_neg (by omega)]; rw [if_neg (by omega)]; rw [if_neg (by omega)]
        rw [HI.out] at HLS HIL
        go_wp2_with fail
        refine (wtexts_any w.heap.size w.heap.size v (layN its i) x.la x.lc x.ll (by omega) (by omega) _ HLX.out.is HOK.out.src HSRC.out).mono ?_
        rintro e w1 ⟨rfl, v1, h1, t1⟩
        have HL1 := Lib.hid (HLX.out.write h1 t1)
        have hbx : Blk w1 W0.heap.size 46 x.vals := by unfold Blk; rw [t1.other W0.heap.size HBX.out.lt (by omega) HOWN.out]; exact HBX.out
        have e1 := hbx.cell 3
        simp only [It.vals, List.getElem?_cons_zero, List.getElem?_cons_succ] at e1
        have HBW := Lib.hid (t1.below HLX.out.is HLX.out.below.size)
        clear h1 t1 hbx d0 d1 d2 d3 HLX HBX
        go_wp2_with fail
        refine (rtextsb_any x.la x.lc x.ll (by omega) (by omega) w1 (HOK.out.src.below HBW.out HSRC.out)).mono ?_
        rintro e w2 ⟨v2, rfl, hr2⟩
        have HL2 := Lib.hid (HL1.out.grow hr2.below)
        obtain ⟨A2, c2, rfl, hs2', hn2, -, -⟩ := hr2.src
        have HS2 := Lib.hid hs2'; have HN2 := Lib.hid hn2
        have hsz := HL2.out.below.size
        clear hr2 hs2' hn2 HL1
        go_wp2_with (refine wpList_append_x rfl (.tmp 27) (.tmp 30) rfl w.heap.size _ (layN its i) rfl HL2.out.row A2 c2 _ rfl HN2.out HS2.out (by have := HIL.out; omega) hsz ?_)
        intro v3 w3 ho hg hk3
        have HN : Hid (∃ v, LayRel w (layN its (i + 1)) (layN its (i + 1)) v v3 w3) := by
          refine ⟨v1, ?_⟩
          rw [HLS.out]
          refine HL2.out.push ?_ hg (by first | exact hk3 | simpa using hk3)
          first | exact ho | (rw [List.length_append, List.map_append]; exact ho) | simpa using ho
        clear ho hg hk3 HL2
        go_wp2_with fail
        go_roundw
        case rel => exact ⟨i + 1, by omega, by go_num, HN.out⟩
        case measure => simp [intOf]; omega
    · obtain rfl : i = its.length := by omega
      go_wp2_with fail
      refine (wbytes_any w.heap.size w.heap.size v (layN its its.length) (by omega) W0 HL.out.is).mono ?_
      rintro e w1 ⟨v1, rfl, hr⟩
      have HL1 := Lib.hid (HL.out.grow hr.below)
      obtain ⟨A1, c1, rfl, hs1, hn1, -, -⟩ := hr.src
      obtain ⟨A2, c2, hv2, hs2, hn2, -, -⟩ := own_src HL1.out.row rfl
      subst hv2
      have HS1 := Lib.hid hs1; have HN1 := Lib.hid hn1; have HS2 := Lib.hid hs2; have HN2 := Lib.hid hn2
      clear hr hs1 hn1 hs2 hn2 HL
      go_wp2_with fail
      go_ret2
      exact ⟨A1, c1, A2, c2, rfl, HS1.out, HN1.out, HS2.out, HN2.out, HL1.out.below⟩
end Go.Proofs.Ytefifdejepafgaa
