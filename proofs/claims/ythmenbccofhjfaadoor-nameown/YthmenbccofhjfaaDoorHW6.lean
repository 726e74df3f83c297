/- The contract of Sum. -/
import Derived.Test.YthmenbccofhjfaaDoorHW5
namespace Go.Proofs.YthmenbccofhjfaaDoor.Hs
open Go.RowKit HashMath

theorem SrcIs.below {w w' : World} {A : Option Addr} {p : List By} (h : SrcIs w A p) (hb : Below w.heap.size w w') : SrcIs w' A p := fun h0 => by
  obtain ⟨b, o, rfl, hc⟩ := h h0
  exact ⟨b, o, rfl, hc.below hb (hc.lt h0)⟩
theorem SrcIs.drop {w : World} {b o : Nat} {p : List By} (h : BytesAt w b o p) (k : Nat) (hk : k ≤ p.length) : BytesAt w b (o + k) (p.drop k) := fun j hj => by
  have hj' : k + j < p.length := by simp at hj; omega
  rw [Nat.add_assoc, h (k + j) hj']; simp
theorem BytesAt.take {w : World} {b o : Nat} {p : List By} (h : BytesAt w b o p) (k : Nat) : BytesAt w b o (p.take k) := fun j hj => by
  have hj' : j < p.length := by simp at hj; omega
  rw [h j hj']; simp
/-- THE LOAD OF A WHOLE ARRAY in a region that draws its order, ahead of a forced tail -/
theorem wpStill_load_blk {P : Program} {ops : Array Oper} {rest : List Oper} {op : Oper} {a : Act} {w : World} {Q : Act → Prop} {b : Nat} {t : TypeId} {cs : List Value} {n : Nat} {e : TypeId} (hgd : op.guard = none) (x : Operand) (ho : op.op = .load t x)
    (hx : a.eval x = .pointer (some ⟨b, 0, none⟩)) (h : Blk w b t cs) (hu : P.underlying t = some (.array n e)) (hi : (P.info? t).map (·.size) = some cs.length)
    (k : wpStill P ops w Q rest (a.put op.dst (.agg cs.toArray))) : wpStill P ops w Q (op :: rest) a := by
  refine wpStill_step fun K hK => ?_
  simp only [Region.wanted, hgd, if_true]
  unfold Oper.still execOp
  simp only [ho, hx, Sem.run_bind, h.load (P := P) hu hi, Result.andThen_ok, Sem.run_pure, Oper.stillUpon_value]
  exact hK _ k
theorem run_congr (K : List Wd) (s : St) (p t : List By) (k : Nat) (h : 64 * k ≤ p.length) : run K s p k = run K s (p ++ t) k := by
  induction k with
  | zero => rfl
  | succ k ih =>
    show comp K (run K s p k) _ = comp K (run K s (p ++ t) k) _
    rw [ih (by omega), List.drop_append_of_le_length (by omega), List.take_append_of_le_length (by simp; omega)]
/-- what is behind the whole blocks -/
def rest (p : List By) (k : Nat) : List By := (pad p).drop (64 * k)
theorem rest_eq (p : List By) (k m z : Nat) (h : 64 * k + m = p.length) (hm : m < 64) (hz : m < 56 ∧ z = 55 - m ∨ 56 ≤ m ∧ z = 119 - m) :
    p.drop (64 * k) ++ [128#8] ++ List.replicate z 0#8 ++ be8 (8 * p.length) = rest p k := by
  have e : zeros p.length = z := by unfold zeros; omega
  unfold rest pad
  rw [e, List.append_assoc, List.append_assoc, List.append_assoc p, List.append_assoc p, List.drop_append_of_le_length (by omega)]
  simp
theorem run_pad (p : List By) (k : Nat) (h : 64 * k ≤ p.length) : run K0 H0 p k = run K0 H0 (pad p) k := by
  unfold pad
  rw [List.append_assoc, List.append_assoc]; exact run_congr _ _ _ _ _ h
theorem rest_length (p : List By) (k : Nat) : (rest p k).length = (pad p).length - 64 * k := by unfold rest; simp
theorem rest_run (p : List By) (k j : Nat) : comp K0 (run K0 H0 (pad p) (k + j)) (((rest p k).drop (64 * j)).take 64) = run K0 H0 (pad p) (k + (j + 1)) := by
  unfold rest
  rw [List.drop_drop, show 64 * k + 64 * j = 64 * (k + j) by omega]; rfl
theorem _root_.Go.Blk.bytes {w : World} {g : Nat} {l : List By} (h : Blk w g 5 (l.map vb)) : BytesAt w g 0 l := fun k hk => by
  rw [Nat.zero_add, h.cell, List.getElem?_map, List.getElem?_eq_getElem hk]; rfl
/-- what the blocks of Sum hold while the end is mixed in -/
structure SumEnd (w : World) (g : Nat) (p : List By) (k j : Nat) (wr : World) : Prop where
  below : Below w.heap.size w wr
  words : Blk wr w.heap.size 77 (cellsS (run K0 H0 (pad p) (k + j)))
  bytes : Blk wr g 5 ((rest p k).map vb)
structure SumRel (w : World) (s : St) (wr : World) : Prop where
  below : Below w.heap.size w wr
  words : Blk wr w.heap.size 77 (cellsS s)

set_option maxHeartbeats 1000000 in
set_option maxRecDepth 100000 in
theorem sum_any (A : Option Addr) (cap : Nat) (p : List By) (hp : p.length ≤ 1000) (hcap : p.length ≤ cap) (w : World) (ht : Tabs w) (hA : SrcIs w A p) :
    Calls Tryd.prog 33 #[.slice A p.length cap] w fun e w' => ∃ v, e = .returned v ∧ w'.ownsRow w.heap.size 5 1 v 32 ((sum p).map vb) ∧ Below w.heap.size w w' := by
  obtain ⟨hz39, hs39⟩ := zero_of_info info39
  have HZ39 := Lib.hid hs39; clear hs39
  have HA := Lib.hid hA; clear hA
  have HT := Lib.hid ht; clear ht
  go_enter Tryd.func33, Tryd.ntmps33
  go_upto_region 2 with (first
    | (refine wpList_load_mid rfl 77 (.global 0) rfl 0 0 rfl (cellsS H0) _ HT.out.start Tryd.underlying77 rfl HZ39.out ?_)
    | (refine wpList_store_blk (cs' := cellsS H0) rfl (.tmp 3) (.tmp 6) rfl rfl rfl (Blk.new w 77 #[.int .u32 0, .int .u32 0, .int .u32 0, .int .u32 0, .int .u32 0, .int .u32 0, .int .u32 0, .int .u32 0]) rfl HZ39.out rfl ?_; intro w1 hset; have HS := Lib.hid hset; clear hset))
  have HR0 : Hid (SumRel w H0 w1) := ⟨HS.out.below _ _ ((Below.refl _ _).alloc (Nat.le_refl _) _) (Nat.le_refl _), HS.out.blk⟩
  clear HS
  go_wp2_with fail
  go_loopw [4] (fun v wr => ∃ (k m c' : Nat) (A' : Option Addr), Hid (64 * k + m = p.length) ∧ v = .slice A' m c' ∧ m ≤ c' ∧ Hid (SrcIs w A' (p.drop (64 * k))) ∧ Hid (SumRel w (run K0 H0 p k) wr)) (fun v _ => match v with | .slice _ n _ => n | _ => 0)
  case atStart => exact ⟨0, p.length, cap, A, (by omega : 64 * 0 + p.length = p.length), rfl, hcap, HA.out, HR0.out⟩
  case round =>
    clear HR0
    obtain ⟨k, m, c', A', HM, rfl, hc', HA', HR⟩ := hrel
    rename World => W0
    by_cases hlt : 64 ≤ m
    · have hdl : (p.drop (64 * k)).length = m := by have := HM.out; simp; omega
      obtain ⟨b, o, rfl, hb⟩ := HA'.out (by omega)
      have hb1 : BytesAt w b o ((p.drop (64 * k)).take 64) := hb.take 64
      have hbl := hb.lt (by omega)
      have HB1 := Lib.hid hb1
      have HB := Lib.hid hb
      clear hb1 hb HA'
      have HD := Lib.hid hdl; clear hdl
      have h64 : (64 : Int) ≤ m := by omega
      have h64c : (64 : Int) ≤ c' := by omega
      go_wp2_with fail
      refine wp_region_still_tail 3 (by kernel_rfl) (by kernel_rfl) ?_
      simp only [List.take_succ_cons, List.take_zero, List.drop_succ_cons, List.drop_zero]
      replace HR : Hid (SumRel w (run K0 H0 p k) W0.drew) := ⟨HR.out.below.drew, HR.out.words.drew⟩
      change wpStill _ _ W0.drew (fun a' => wpList _ _ _ _ a' W0.drew) _ _
      generalize W0.drew = W1 at *
      refine wpStill_load_blk rfl (.tmp 3) rfl rfl HR.out.words Tryd.underlying77 HZ39.out ?_
      repeat still_step
      refine wpStill_nil ?_
      go_wp2_with fail
      refine (mix_any (run K0 H0 p k) b o c' ((p.drop (64 * k)).take 64) (by have := HD.out; simp at this ⊢; omega) W1 (HT.out.below HR.out.below HT.out.size) (HB1.out.below HR.out.below hbl)).mono ?_
      rintro e w2 ⟨rfl, hb2⟩
      obtain ⟨s1, hs1⟩ : ∃ s1, s1 = run K0 H0 p (k + 1) := ⟨_, rfl⟩
      rw [show comp K0 (run K0 H0 p k) ((p.drop (64 * k)).take 64) = s1 from hs1.symm]
      have HS1 := Lib.hid hs1; clear hs1
      have Hb2 : Hid (Below w.heap.size w w2) := HR.out.below.trans (hb2.mono HR.out.below.size)
      have HW2 : Hid (Blk w2 w.heap.size 77 (cellsS (run K0 H0 p k))) := HR.out.words.below hb2 HR.out.words.lt
      clear hb2 HR
      generalize run K0 H0 p k = s0 at *
      go_wp2_with (refine wpList_store_blk (cs' := cellsS s1) rfl (.tmp 3) (.tmp 14) rfl rfl rfl HW2.out rfl HZ39.out rfl ?_; intro w3 hset; have HS := Lib.hid hset; clear hset)
      go_roundw
      case rel =>
        refine ⟨k + 1, m - 64, c' - 64, _, ?_, rfl, by omega, ?_, ?_⟩
        · have := HM.out; show _ = _; omega
        · show SrcIs _ _ _
          intro h0
          have hd := HD.out
          have hm := HM.out
          have hc2 : ¬ c' = 64 := by simp at h0; omega
          rw [if_neg hc2]
          refine ⟨b, o + 64, rfl, ?_⟩
          have := SrcIs.drop HB.out 64 (by omega)
          rw [List.drop_drop] at this
          exact this
        · rw [← HS1.out]; exact ⟨HS.out.below _ _ Hb2.out (Nat.le_refl _), HS.out.blk⟩
      case measure => simp; omega
    · have hdl : (p.drop (64 * k)).length = m := by have := HM.out; simp; omega
      have HD := Lib.hid hdl; clear hdl
      have HSrc := Lib.hid (HA'.out.below HR.out.below)
      clear HA'
      have hp2 : p.length ≤ 1000000 := by omega
      have h64n : decide ((64 : Int) ≤ m) = false := decide_eq_false (by omega)
      obtain ⟨sz, hszl, CE⟩ : ∃ sz, Hid (sz = (rest p k).length) ∧ Hid (Calls Tryd.prog 49 #[.slice A' m c', .int .i64 p.length] W0 fun e w' => e = .returned (.slice (some ⟨W0.heap.size, 0, none⟩) sz sz) ∧ EndRel W0 (rest p k) w') := by
        have hd := HD.out
        have hm := HM.out
        have hl := rest_length p k
        have hpl := pad_length p
        by_cases h56 : m < 56
        · refine ⟨64, ?_, ?_⟩
          · show _ = _; rw [hl, hpl]; unfold zeros; omega
          · have := ending_short A' c' p.length (p.drop (64 * k)) (by omega) hp2 W0 HSrc.out
            rw [hd, rest_eq p k m (55 - m) hm (by omega) (by omega)] at this
            exact this
        · refine ⟨128, ?_, ?_⟩
          · show _ = _; rw [hl, hpl]; unfold zeros; omega
          · have := ending_long A' c' p.length (p.drop (64 * k)) (by omega) (by omega) hp2 W0 HSrc.out
            rw [hd, rest_eq p k m (119 - m) hm (by omega) (by omega)] at this
            exact this
      go_wp2_with fail
      refine CE.out.mono ?_
      rintro e w2 ⟨rfl, he⟩
      have HE : Hid (SumEnd w W0.heap.size p k 0 w2) := by
        refine ⟨HR.out.below.trans (he.below.mono HR.out.below.size), ?_, he.blk⟩
        have := HR.out.words.below he.below HR.out.words.lt
        rw [run_pad p k (by have := HM.out; omega)] at this
        exact this
      have hg : w.heap.size < W0.heap.size := HR.out.words.lt
      clear he CE HSrc HR
      generalize W0.heap.size = g at *
      have HLM : Hid ((rest p k).length % 64 = 0) := by
        have := HM.out
        show _ = _; rw [rest_length p k]; have := pad_mod p; have := pad_length p; omega
      go_wp2_with fail
      go_loopw [5] (fun v wr => ∃ (j m c : Nat) (A' : Option Addr), Hid (64 * j + m = (rest p k).length) ∧ v = .slice A' m c ∧ m ≤ c ∧ Hid (0 < m → A' = some ⟨g, 64 * j, none⟩) ∧ Hid (SumEnd w g p k j wr)) (fun v _ => match v with | .slice _ n _ => n | _ => 0)
      case atStart => exact ⟨0, sz, sz, _, (by rw [hszl.out]; omega : 64 * 0 + sz = (rest p k).length), rfl, Nat.le_refl _, (fun _ => rfl : 0 < sz → _ = _), HE.out⟩
      case round =>
        clear HE
        rename World => Wr
        obtain ⟨j, n, c, A2, HJ, rfl, hc, HA2, HR⟩ := hrel
        by_cases h0 : 0 < n
        · have hn64 : 64 ≤ n := by have := HJ.out; have := HLM.out; omega
          obtain rfl := HA2.out h0
          have hbs : BytesAt Wr g (64 * j) (((rest p k).drop (64 * j)).take 64) := by
            have := (SrcIs.drop HR.out.bytes.bytes (64 * j) (by have := HJ.out; omega)).take 64
            rwa [Nat.zero_add] at this
          have HB := Lib.hid hbs; clear hbs HA2
          have HBL : Hid ((((rest p k).drop (64 * j)).take 64).length = 64) := by have := HJ.out; show _ = _; simp; omega
          have h64 : (64 : Int) ≤ n := by omega
          have h64c : (64 : Int) ≤ c := by omega
          have hn0 : (0 : Int) < n := by omega
          go_wp2_with fail
          refine wp_region_still_tail 3 (by kernel_rfl) (by kernel_rfl) ?_
          simp only [List.take_succ_cons, List.take_zero, List.drop_succ_cons, List.drop_zero]
          replace HR : Hid (SumEnd w g p k j Wr.drew) := ⟨HR.out.below.drew, HR.out.words.drew, HR.out.bytes.drew⟩
          replace HB : Hid (BytesAt Wr.drew g (64 * j) (((rest p k).drop (64 * j)).take 64)) := HB
          change wpStill _ _ Wr.drew (fun a' => wpList _ _ _ _ a' Wr.drew) _ _
          generalize Wr.drew = W1 at *
          refine wpStill_load_blk rfl (.tmp 3) rfl rfl HR.out.words Tryd.underlying77 HZ39.out ?_
          repeat still_step
          refine wpStill_nil ?_
          go_wp2_with fail
          refine (mix_any (run K0 H0 (pad p) (k + j)) g (64 * j) c (((rest p k).drop (64 * j)).take 64) HBL.out W1 (HT.out.below HR.out.below HT.out.size) HB.out).mono ?_
          rintro e w3 ⟨rfl, hb2⟩
          obtain ⟨s1, hs1⟩ : ∃ s1, s1 = run K0 H0 (pad p) (k + (j + 1)) := ⟨_, rfl⟩
          rw [rest_run, ← hs1]
          have HS1 := Lib.hid hs1; clear hs1
          have Hb2 : Hid (Below w.heap.size w w3) := HR.out.below.trans (hb2.mono HR.out.below.size)
          have HW2 : Hid (Blk w3 w.heap.size 77 (cellsS (run K0 H0 (pad p) (k + j)))) := HR.out.words.below hb2 HR.out.words.lt
          have HG2 : Hid (Blk w3 g 5 ((rest p k).map vb)) := HR.out.bytes.below hb2 HR.out.bytes.lt
          clear hb2 HR HB
          generalize run K0 H0 (pad p) (k + j) = s0 at *
          go_wp2_with (refine wpList_store_blk (cs' := cellsS s1) rfl (.tmp 3) (.tmp 29) rfl rfl rfl HW2.out rfl HZ39.out rfl ?_; intro w4 hset; have HS := Lib.hid hset; clear hset)
          go_roundw
          case rel =>
            refine ⟨j + 1, n - 64, c - 64, _, ?_, rfl, by omega, ?_, ?_⟩
            · have := HJ.out; show _ = _; omega
            · show 0 < n - 64 → _
              intro hh
              have hc2 : ¬ c = 64 := by omega
              rw [if_neg hc2, show 64 * (j + 1) = 64 * j + 64 by omega]
            · refine ⟨HS.out.below _ _ Hb2.out (Nat.le_refl _), ?_, HS.out.keep HG2.out (by omega)⟩
              rw [← HS1.out]; exact HS.out.blk
          case measure => simp; omega
        · obtain rfl : n = 0 := by omega
          have hE : run K0 H0 (pad p) (k + j) = run K0 H0 (pad p) ((pad p).length / 64) := by
            have h1 := HJ.out; have h2 := rest_length p k; have h3 := HM.out; have h4 := pad_length p
            congr 1; omega
          have hw := HR.out.words
          rw [hE] at hw
          have hO : (sum p).map vb = (outN (run K0 H0 (pad p) ((pad p).length / 64)).list).map vb := rfl
          have HBel := Lib.hid HR.out.below
          have HW := Lib.hid hw; have HO := Lib.hid hO
          clear hw hO hE HR
          generalize run K0 H0 (pad p) ((pad p).length / 64) = sf at *
          go_wp2_with (refine wpList_load_blk rfl (.tmp 3) rfl rfl HW.out Tryd.underlying77 HZ39.out ?_)
          refine (lay_any sf Wr).mono ?_
          rintro e w3 ⟨v, rfl, hown, hb⟩
          have HOwn : Hid (w3.ownsRow w.heap.size 5 1 v 32 ((sum p).map vb)) := by
            rw [HO.out]
            refine ⟨hown.1, ?_⟩
            rcases hown.2 with h | ⟨g, cap, cur, h1, h2, h3⟩
            · exact .inl h
            · exact .inr ⟨g, cap, cur, h1, Nat.le_trans HBel.out.size h2, h3⟩
          have HBf : Hid (Below w.heap.size w w3) := HBel.out.trans (hb.mono HBel.out.size)
          clear hown hb
          go_wp2
          go_ret
          exact ⟨_, rfl, HOwn.out, HBf.out⟩
end Go.Proofs.YthmenbccofhjfaaDoor.Hs
