/- The contracts of pack.Write and the reference's Write. -/
import Derived.Test.YtlehgacbcacokaaG37
import Derived.Test.YtlehgacbcacokaaG17
import Derived.Test.YtlehgacbcacokaaG13
import Derived.Test.YtlehgacbcacokaaG26
namespace Go.Proofs.Ytlehgacbcacokaa
open Go.RowKit TreeMath RealMath WireMath PackMath

/-- what Write answers: bytes, and an error -/
def outB (t : T) : List By := if rightB t then arch t else []
def errN (t : T) : Int := if rightB t then 0 else 2
structure WritePost (w : World) (t : T) (e : Ending) (w' : World) : Prop where
  ex : ∃ A c, e = .returned (.tuple #[.slice A (outB t).length c, .int .i64 (errN t)]) ∧ SrcIs w' A (outB t) ∧ (A = none → c = 0) ∧ (∀ a, A = some a → w.heap.size ≤ a.block)
  below : Below w.heap.size w w'
theorem right_form {t : T} (h : rightB t = true) : formT t ∧ count t ≤ 64 := by
  unfold rightB at h
  simp only [Bool.and_eq_true, decide_eq_true_eq, List.all_eq_true] at h
  exact ⟨h.2, h.1.1⟩
theorem arch_le {t : T} (h : rightB t = true) : (arch t).length ≤ 80000 := by
  obtain ⟨h1, h2⟩ := right_form h
  have := layB_le t h1
  unfold arch
  rw [List.length_append, textB_length]
  show 2 + 7 + _ ≤ _
  omega
set_option maxHeartbeats 2000000 in
set_option maxRecDepth 100000 in
theorem write_any (x : Hd) (ks : List T) (top : Nat) (w : World) (htop : top ≤ w.heap.size) (hok : Ok w top (.mk x ks)) (hn : count (.mk x ks) ≤ 90000) :
    Calls Try.prog 37 #[nv x ks.length] w (WritePost w (.mk x ks)) := by
  have HOK := Lib.hid hok
  clear hok
  go_enter Try.func37, Try.ntmps37
  go_wp2_with fail
  have hbox := Blk.new w 27 #[vb x.kind, .slice x.na x.names.length x.nc, .slice x.ka ks.length x.kc, .slice x.da x.data.length x.dc, .bool x.run, .float .f64 x.stamp, vs x.target]
  have hB0 : Below w.heap.size w (w.alloc (.cells #[vb x.kind, .slice x.na x.names.length x.nc, .slice x.ka ks.length x.kc, .slice x.da x.data.length x.dc, .bool x.run, .float .f64 x.stamp, vs x.target] 27)) := (Below.refl _ _).alloc (Nat.le_refl _) _
  have hs0 : (w.alloc (.cells #[vb x.kind, .slice x.na x.names.length x.nc, .slice x.ka ks.length x.kc, .slice x.da x.data.length x.dc, .bool x.run, .float .f64 x.stamp, vs x.target] 27)).heap.size = w.heap.size + 1 := by simp
  generalize w.alloc (.cells #[vb x.kind, .slice x.na x.names.length x.nc, .slice x.ka ks.length x.kc, .slice x.da x.data.length x.dc, .bool x.run, .float .f64 x.stamp, vs x.target] 27) = W1 at *
  have HB0 := Lib.hid hB0; have HBOX := Lib.hid hbox; have HS0 := Lib.hid hs0
  clear hB0 hbox hs0
  refine (right_any x ks top W1 (Nat.le_trans htop HB0.out.size) (HOK.out.keep (HB0.out.mono htop)) hn).mono ?_
  rintro e w1 ⟨rfl, hb1⟩
  have HBX := Lib.hid (HBOX.out.below hb1 HBOX.out.lt)
  have HB1 := Lib.hid (HB0.out.trans (hb1.mono HB0.out.size))
  clear hb1
  have c0 := HBX.out.cell 0; have c1 := HBX.out.cell 1; have c2 := HBX.out.cell 2; have c3 := HBX.out.cell 3; have c4 := HBX.out.cell 4; have c5 := HBX.out.cell 5; have c6 := HBX.out.cell 6
  simp only [List.getElem?_cons_zero, List.getElem?_cons_succ] at c0 c1 c2 c3 c4 c5 c6
  cases hr : rightB (.mk x ks) with
  | false =>
    have HE : Hid (outB (.mk x ks) = [] ∧ errN (.mk x ks) = 2) := by refine (?_ : _ ∧ _); unfold outB errN; rw [hr]; exact ⟨rfl, rfl⟩
    go_wp2_with fail
    go_ret2
    refine ⟨⟨none, 0, ?_, ?_, fun _ => rfl, fun a ha => by cases ha⟩, HB1.out⟩
    · rw [HE.out.1, HE.out.2]; rfl
    · rw [HE.out.1]; intro h; exact absurd h (by simp)
  | true =>
    have HE : Hid (outB (.mk x ks) = arch (.mk x ks) ∧ errN (.mk x ks) = 0) := by refine (?_ : _ ∧ _); unfold outB errN; rw [hr]; exact ⟨rfl, rfl⟩
    have HF := Lib.hid (right_form hr); have HLE := Lib.hid (arch_le hr)
    clear c0 c1 c2 c3 c4 c5 c6
    go_wp2_with fail
    have hwr : WrIs (w1.alloc (.cells #[.slice none 0 0] 83)) w1.heap.size w1.heap.size (.slice none 0 0) [] := ⟨Blk.new w1 83 _, World.ownsRow_nil _ _ _ _, Nat.le_refl _⟩
    have hB2 : Below w1.heap.size w1 (w1.alloc (.cells #[.slice none 0 0] 83)) := (Below.refl _ _).alloc (Nat.le_refl _) _
    generalize w1.alloc (.cells #[.slice none 0 0] 83) = W2 at *
    have HWR := Lib.hid hwr; have HB2 := Lib.hid hB2
    clear hwr hB2
    refine (wtext_any w1.heap.size w1.heap.size _ [] magic (by decide) W2 HWR.out).mono ?_
    rintro e w3 ⟨rfl, v3, h1, h2⟩
    have HW3 := Lib.hid h1
    have HB3 := Lib.hid (HB2.out.trans (h2.below HWR.out HB2.out.size))
    clear h1 h2
    have HBX3 := Lib.hid (HBX.out.below HB3.out HBX.out.lt)
    have c0 := HBX3.out.cell 0; have c1 := HBX3.out.cell 1; have c2 := HBX3.out.cell 2; have c3 := HBX3.out.cell 3; have c4 := HBX3.out.cell 4; have c5 := HBX3.out.cell 5; have c6 := HBX3.out.cell 6
    simp only [List.getElem?_cons_zero, List.getElem?_cons_succ] at c0 c1 c2 c3 c4 c5 c6
    go_wp2_with fail
    have hsz : top ≤ w1.heap.size := Nat.le_trans htop HB1.out.size
    refine (lay_of top (.mk x ks) w1.heap.size w1.heap.size v3 _ w3 (Nat.le_trans hsz HB3.out.size) hsz (HOK.out.keep ((HB1.out.mono htop).trans (HB3.out.mono hsz))) HF.out.1 HF.out.2 (by have := HF.out.2; rw [List.nil_append, textB_length]; show 2 + 7 + _ ≤ _; omega) HW3.out).mono ?_
    rintro e w4 ⟨rfl, v4, h1, h2⟩
    have HW4 : Hid (WrIs w4 w1.heap.size w1.heap.size v4 (arch (.mk x ks))) := h1
    have HB4 := Lib.hid (HB3.out.trans (h2.below HW3.out HB3.out.size))
    clear h1 h2 c0 c1 c2 c3 c4 c5 c6
    go_wp2_with fail
    refine (wbytes_any w1.heap.size w1.heap.size v4 (arch (.mk x ks)) (by have := HLE.out; omega) w4 HW4.out).mono ?_
    rintro e w5 ⟨v5, rfl, hr5⟩
    obtain ⟨A, c, rfl, hA, hN, -, hlo⟩ := hr5.src
    have HB5 := Lib.hid (HB4.out.trans (hr5.below.mono HB4.out.size))
    have HA := Lib.hid hA; have HN := Lib.hid hN; have HLO := Lib.hid hlo
    clear hA hN hlo hr5
    go_wp2_with fail
    go_ret2
    refine ⟨⟨A, c, ?_, ?_, HN.out, fun a ha => Nat.le_trans (Nat.le_trans HB1.out.size HB4.out.size) (HLO.out a ha).1⟩, HB1.out.trans (HB5.out.mono HB1.out.size)⟩
    · rw [HE.out.1, HE.out.2]; rfl
    · rw [HE.out.1]; exact HA.out
set_option maxHeartbeats 2000000 in
set_option maxRecDepth 100000 in
theorem rwrite_any (x : Hd) (ks : List T) (top : Nat) (w : World) (htop : top ≤ w.heap.size) (hok : Ok w top (.mk x ks)) (hn : count (.mk x ks) ≤ 90000) (hf : Few (.mk x ks)) :
    Calls Try.prog 38 #[nv x ks.length] w (WritePost w (.mk x ks)) := by
  have HOK := Lib.hid hok
  clear hok
  go_enter Try.func38, Try.ntmps38
  go_wp2_with fail
  have hbox := Blk.new w 27 #[vb x.kind, .slice x.na x.names.length x.nc, .slice x.ka ks.length x.kc, .slice x.da x.data.length x.dc, .bool x.run, .float .f64 x.stamp, vs x.target]
  have hB0 : Below w.heap.size w (w.alloc (.cells #[vb x.kind, .slice x.na x.names.length x.nc, .slice x.ka ks.length x.kc, .slice x.da x.data.length x.dc, .bool x.run, .float .f64 x.stamp, vs x.target] 27)) := (Below.refl _ _).alloc (Nat.le_refl _) _
  have hs0 : (w.alloc (.cells #[vb x.kind, .slice x.na x.names.length x.nc, .slice x.ka ks.length x.kc, .slice x.da x.data.length x.dc, .bool x.run, .float .f64 x.stamp, vs x.target] 27)).heap.size = w.heap.size + 1 := by simp
  generalize w.alloc (.cells #[vb x.kind, .slice x.na x.names.length x.nc, .slice x.ka ks.length x.kc, .slice x.da x.data.length x.dc, .bool x.run, .float .f64 x.stamp, vs x.target] 27) = W1 at *
  have HB0 := Lib.hid hB0; have HBOX := Lib.hid hbox; have HS0 := Lib.hid hs0
  clear hB0 hbox hs0
  refine (rright_any x ks top W1 (Nat.le_trans htop HB0.out.size) (HOK.out.keep (HB0.out.mono htop)) hn hf).mono ?_
  rintro e w1 ⟨rfl, hb1⟩
  have HBX := Lib.hid (HBOX.out.below hb1 HBOX.out.lt)
  have HB1 := Lib.hid (HB0.out.trans (hb1.mono HB0.out.size))
  clear hb1
  have c0 := HBX.out.cell 0; have c1 := HBX.out.cell 1; have c2 := HBX.out.cell 2; have c3 := HBX.out.cell 3; have c4 := HBX.out.cell 4; have c5 := HBX.out.cell 5; have c6 := HBX.out.cell 6
  simp only [List.getElem?_cons_zero, List.getElem?_cons_succ] at c0 c1 c2 c3 c4 c5 c6
  cases hr : rightB (.mk x ks) with
  | false =>
    have HE : Hid (outB (.mk x ks) = [] ∧ errN (.mk x ks) = 2) := by refine (?_ : _ ∧ _); unfold outB errN; rw [hr]; exact ⟨rfl, rfl⟩
    go_wp2_with fail
    go_ret2
    refine ⟨⟨none, 0, ?_, ?_, fun _ => rfl, fun a ha => by cases ha⟩, HB1.out⟩
    · rw [HE.out.1, HE.out.2]; rfl
    · rw [HE.out.1]; intro h; exact absurd h (by simp)
  | true =>
    have HE : Hid (outB (.mk x ks) = arch (.mk x ks) ∧ errN (.mk x ks) = 0) := by refine (?_ : _ ∧ _); unfold outB errN; rw [hr]; exact ⟨rfl, rfl⟩
    have HF := Lib.hid (right_form hr); have HLE := Lib.hid (arch_le hr)
    clear c0 c1 c2 c3 c4 c5 c6
    have hsz : top ≤ w1.heap.size := Nat.le_trans htop HB1.out.size
    have HTX : Hid (∀ W, Calls Try.prog 43 #[.string ⟨#[103, 111, 100, 111, 119, 110, 49]⟩] W fun e w' => ∃ v, e = .returned v ∧ RowRel W 5 ((textB magic).map vb) v w') := fun W => rtextb_any magic (by decide) W
    have HLAY : Hid (∀ W, Below w1.heap.size w1 W → Calls Try.prog 70 #[nv x ks.length] W fun e w' => ∃ v, e = .returned v ∧ RowRel W 5 ((layB (.mk x ks)).map vb) v w') := fun W hW => rlay_of top (.mk x ks) W (Nat.le_trans hsz hW.size) (HOK.out.keep ((HB1.out.mono htop).trans (hW.mono hsz))) HF.out.1 HF.out.2
    have HCELL : Hid (∀ W, Below w1.heap.size w1 W → W.cell? ⟨w.heap.size, 0, none⟩ = some (vb x.kind) ∧ W.cell? ⟨w.heap.size, 1, none⟩ = some (.slice x.na x.names.length x.nc) ∧ W.cell? ⟨w.heap.size, 2, none⟩ = some (.slice x.ka ks.length x.kc) ∧ W.cell? ⟨w.heap.size, 3, none⟩ = some (.slice x.da x.data.length x.dc) ∧ W.cell? ⟨w.heap.size, 4, none⟩ = some (.bool x.run) ∧ W.cell? ⟨w.heap.size, 5, none⟩ = some (.float .f64 x.stamp) ∧ W.cell? ⟨w.heap.size, 6, none⟩ = some (vs x.target)) := fun W hW => by
      have hblk := HBX.out.below hW HBX.out.lt
      exact ⟨hblk.cell 0, hblk.cell 1, hblk.cell 2, hblk.cell 3, hblk.cell 4, hblk.cell 5, hblk.cell 6⟩
    have hjl : (textB magic).length + (layB (.mk x ks)).length ≤ 1000000 := by have := HLE.out; unfold arch at this; rw [List.length_append] at this; omega
    have HJL := Lib.hid hjl
    clear hjl
    go_upto_region 3 with fail
    have HB2 : Hid (Below w1.heap.size w1 w1.drew) := (Below.refl _ _).drew
    have k0 := HCELL.out _ HB2.out
    go_region_held3 (fun W => W.cell? ⟨w.heap.size, 0, none⟩ = some (vb x.kind) ∧ W.cell? ⟨w.heap.size, 1, none⟩ = some (.slice x.na x.names.length x.nc) ∧ W.cell? ⟨w.heap.size, 2, none⟩ = some (.slice x.ka ks.length x.kc) ∧ W.cell? ⟨w.heap.size, 3, none⟩ = some (.slice x.da x.data.length x.dc) ∧ W.cell? ⟨w.heap.size, 4, none⟩ = some (.bool x.run) ∧ W.cell? ⟨w.heap.size, 5, none⟩ = some (.float .f64 x.stamp) ∧ W.cell? ⟨w.heap.size, 6, none⟩ = some (vs x.target))
      (first | with_reducible exact k0 | with_reducible exact k1 | with_reducible exact k2 | with_reducible exact k3)
      (first
        | (go_at_call 43
           refine (HTX.out w1.drew).mono ?_
           rintro e w3 ⟨u, rfl, hu⟩
           obtain ⟨A, c, rfl, hA, hN, -, -⟩ := hu.src
           have HB3 := Lib.hid (HB2.out.trans hu.below)
           have k1 := HCELL.out _ HB3.out
           have HA := Lib.hid hA
           have HN := Lib.hid hN
           clear hu hA hN)
        | (go_at_call 70
           refine (HLAY.out w3 HB3.out).mono ?_
           rintro e w4 ⟨u, rfl, hu⟩
           obtain ⟨A2, d, rfl, hA2, hN2, -, -⟩ := hu.src
           have HB4 := Lib.hid (HB3.out.trans (hu.below.mono HB3.out.size))
           have k2 := HCELL.out _ HB4.out
           have HAA := Lib.hid (HA.out.below hu.below)
           have HA2 := Lib.hid hA2
           have HN2 := Lib.hid hN2
           clear hu hA2 hN2)
        | (go_at_call 42
           refine (join_any A A2 c d (textB magic) (layB (.mk x ks)) HJL.out HN.out HN2.out w4 HAA.out HA2.out).mono ?_
           rintro e w5 ⟨v5, rfl, hr5⟩
           obtain ⟨A3, c3, rfl, hA, hN, -, hlo⟩ := hr5.src
           have HB5 := Lib.hid (HB4.out.trans (hr5.below.mono HB4.out.size))
           have k3 := HCELL.out _ HB5.out
           have HA3 := Lib.hid hA
           have HN3 := Lib.hid hN
           have HLO := Lib.hid hlo
           clear hA hN hlo hr5)
        | fail)
    all_goals
      clear k0 k1 k2 k3
      go_wp2_with fail
      go_ret2
      refine ⟨⟨A3, c3, ?_, ?_, HN3.out, fun a ha => Nat.le_trans (Nat.le_trans HB1.out.size HB4.out.size) (HLO.out a ha).1⟩, HB1.out.trans (HB5.out.mono HB1.out.size)⟩
      · rw [HE.out.1, HE.out.2, show (arch (.mk x ks)).length = (textB magic).length + (layB (.mk x ks)).length from by unfold arch; rw [List.length_append]]; rfl
      · rw [HE.out.1]; exact HA3.out
end Go.Proofs.Ytlehgacbcacokaa

/- The document's example of pack: points. -/
namespace Go.Proofs.Ytlehgacbcacokaa
open Go.RowKit TreeMath RealMath WireMath PackMath

/-- the last one of some blocks is turned -/
theorem turn_last (a : Array Obj) (x : Obj) (f : Obj → Obj) : (a.push x).modify a.size f = a.push (f x) := by
  refine Array.ext_getElem? fun i => ?_
  rw [Array.getElem?_modify, Array.getElem?_push, Array.getElem?_push]
  by_cases h : i = a.size
  · subst h; simp
  · rw [if_neg (fun e => h e.symm), if_neg h, if_neg h]
/-- a literal text as bytes: a new row that bears the mark behind its end -/
theorem run_stringish (w : World) (C : Array Value) (l c : Nat) :
    (convert 24 24 (.slice (some ⟨w.heap.size, 0, none⟩) l c)).run Try.prog (w.alloc (.cells C 5)) = .ok (.slice (some ⟨w.heap.size, 0, none⟩) l c) (w.alloc (.cells C 5 (C.size, C.size + 1))) := by
  have hsh : (w.alloc (.cells C 5)).shape? w.heap.size = some (5, C.size) := by unfold World.shape?; rw [heap_alloc_last]
  have hfr : ∀ n, (w.alloc (.cells C 5)).freeze ⟨w.heap.size, n, none⟩ 1 = w.alloc (.cells C 5 (n, n + 1)) := fun n => by
    exact congrArg (fun h => ({ w.alloc (.cells C 5) with heap := h } : World)) (turn_last w.heap (.cells C 5) _)
  simp [convert, run_underlying Try.underlying24, run_underlying Try.underlying5, markStringish, hsh]
  exact hfr _
def exT : T := .mk (linkHd [120]) []
theorem ex_right : rightB exT = true := by decide +kernel
theorem ex_arch : arch exT = textB magic ++ [3, 0, 1, 120] := by decide +kernel
theorem ex_out : outB exT = textB magic ++ [3, 0, 1, 120] ∧ errN exT = 0 := by unfold outB errN; rw [ex_right]; exact ⟨ex_arch, rfl⟩
set_option maxHeartbeats 2000000 in
set_option maxRecDepth 100000 in
theorem points_any (w : World) : Calls Try.prog 36 #[] w fun e w' => e = .returned (.bool true) ∧ Below w.heap.size w w' := by
  have HOK : Hid (Ok w w.heap.size exT) := ok_link [120] (by decide)
  have HC : Hid (Calls Try.prog 37 #[.agg #[.int .u8 3, .slice none 0 0, .slice none 0 0, .slice none 0 0, .bool false, .float .f64 0, .string ⟨#[120]⟩]] w (WritePost w exT)) := write_any (linkHd [120]) [] w.heap.size w (Nat.le_refl _) HOK.out (by decide +kernel)
  clear HOK
  go_enter Try.func36, Try.ntmps36
  go_wp2_with fail
  refine HC.out.mono ?_
  rintro e w1 ⟨⟨A, c, rfl, hA, hN, -⟩, hb⟩
  rw [ex_out.1] at hA
  rw [ex_out.1, ex_out.2]
  have HA := Lib.hid hA; have HN := Lib.hid hN; have HB := Lib.hid hb
  clear hA hN hb HC
  have hcv : (convert 24 24 (.slice (some ⟨w1.heap.size + 1, 0, none⟩) 7 7)).run Try.prog ((w1.alloc (.cells #[.int .u8 0, .int .u8 7] 5)).alloc (.cells #[.int .u8 103, .int .u8 111, .int .u8 100, .int .u8 111, .int .u8 119, .int .u8 110, .int .u8 49] 5)) = .ok (.slice (some ⟨w1.heap.size + 1, 0, none⟩) 7 7) ((w1.alloc (.cells #[.int .u8 0, .int .u8 7] 5)).alloc (.cells #[.int .u8 103, .int .u8 111, .int .u8 100, .int .u8 111, .int .u8 119, .int .u8 110, .int .u8 49] 5 (7, 8))) := by
    have h := run_stringish (w1.alloc (.cells #[.int .u8 0, .int .u8 7] 5)) #[.int .u8 103, .int .u8 111, .int .u8 100, .int .u8 111, .int .u8 119, .int .u8 110, .int .u8 49] 7 7
    rw [World.size_alloc] at h
    exact h
  have hB2 : Below w1.heap.size w1 ((w1.alloc (.cells #[.int .u8 0, .int .u8 7] 5)).alloc (.cells #[.int .u8 103, .int .u8 111, .int .u8 100, .int .u8 111, .int .u8 119, .int .u8 110, .int .u8 49] 5 (7, 8))) := ((Below.refl _ _).alloc (Nat.le_refl _) _).alloc (by simp) _
  have s1 : SrcIs ((w1.alloc (.cells #[.int .u8 0, .int .u8 7] 5)).alloc (.cells #[.int .u8 103, .int .u8 111, .int .u8 100, .int .u8 111, .int .u8 119, .int .u8 110, .int .u8 49] 5 (7, 8))) (some ⟨w1.heap.size, 0, none⟩) [0, 7] :=
    Blk.src (l := [0, 7]) (tl := []) ((Blk.new w1 5 #[.int .u8 0, .int .u8 7]).alloc _)
  have s2 : SrcIs ((w1.alloc (.cells #[.int .u8 0, .int .u8 7] 5)).alloc (.cells #[.int .u8 103, .int .u8 111, .int .u8 100, .int .u8 111, .int .u8 119, .int .u8 110, .int .u8 49] 5 (7, 8))) (some ⟨w1.heap.size + 1, 0, none⟩) magic := by
    refine bytes_src (fun k hk => ?_)
    have h := World.cell?_alloc_mark (w1.alloc (.cells #[.int .u8 0, .int .u8 7] 5)) #[.int .u8 103, .int .u8 111, .int .u8 100, .int .u8 111, .int .u8 119, .int .u8 110, .int .u8 49] 5 (7, 8) k
    rw [World.size_alloc] at h
    rw [Nat.zero_add]
    refine Eq.trans h ?_
    have hk7 : k < 7 := hk
    have e : k = 0 ∨ k = 1 ∨ k = 2 ∨ k = 3 ∨ k = 4 ∨ k = 5 ∨ k = 6 := by omega
    rcases e with rfl | rfl | rfl | rfl | rfl | rfl | rfl <;> rfl
  go_wp2_with fail
  clear hcv
  generalize (w1.alloc (.cells #[.int .u8 0, .int .u8 7] 5)).alloc (.cells #[.int .u8 103, .int .u8 111, .int .u8 100, .int .u8 111, .int .u8 119, .int .u8 110, .int .u8 49] 5 (7, 8)) = W2 at *
  have HB2 := Lib.hid hB2; have HS1 := Lib.hid s1; have HS2 := Lib.hid s2
  clear hB2 s1 s2
  refine (join_any (some ⟨w1.heap.size, 0, none⟩) (some ⟨w1.heap.size + 1, 0, none⟩) 2 7 [0, 7] magic (by decide) (fun h => by cases h) (fun h => by cases h) W2 HS1.out HS2.out).mono ?_
  rintro e w3 ⟨u, rfl, hu⟩
  obtain ⟨A3, c3, rfl, hA3, hN3, -, -⟩ := hu.src
  have hb3 := HB2.out.trans (hu.below.mono HB2.out.size)
  have HB4 : Hid (Below w1.heap.size w1 (w3.alloc (.cells #[.int .u8 3, .int .u8 0, .int .u8 1, .int .u8 120] 5))) := hb3.alloc hb3.size _
  have HA4 : Hid (SrcIs (w3.alloc (.cells #[.int .u8 3, .int .u8 0, .int .u8 1, .int .u8 120] 5)) A3 ([0, 7] ++ magic)) := hA3.below ((Below.refl _ _).alloc (Nat.le_refl _) _)
  have HS4 : Hid (SrcIs (w3.alloc (.cells #[.int .u8 3, .int .u8 0, .int .u8 1, .int .u8 120] 5)) (some ⟨w3.heap.size, 0, none⟩) [3, 0, 1, 120]) := Blk.src (l := [3, 0, 1, 120]) (tl := []) (Blk.new w3 5 #[.int .u8 3, .int .u8 0, .int .u8 1, .int .u8 120])
  have HN3 := Lib.hid hN3
  clear hu hA3 hN3 hb3
  go_wp2_with fail
  generalize w3.alloc (.cells #[.int .u8 3, .int .u8 0, .int .u8 1, .int .u8 120] 5) = W4 at *
  refine (join_any A3 (some ⟨w3.heap.size, 0, none⟩) c3 4 ([0, 7] ++ magic) [3, 0, 1, 120] (by decide) HN3.out (fun h => by cases h) W4 HA4.out HS4.out).mono ?_
  rintro e w5 ⟨u, rfl, hu⟩
  obtain ⟨A5, c5, rfl, hA5, hN5, -, -⟩ := hu.src
  have HB5 := Lib.hid (HB4.out.trans (hu.below.mono HB4.out.size))
  have HA5 := Lib.hid hA5
  clear hu hA5 hN5
  go_wp2_with fail
  refine (bytes_any A A5 c c5 (textB magic ++ [3, 0, 1, 120]) ([0, 7] ++ magic ++ [3, 0, 1, 120]) (by decide) (by decide) w5 (HA.out.below HB5.out) HA5.out).mono ?_
  rintro e w6 ⟨rfl, q, rfl⟩
  go_wp2_with fail
  go_ret
  exact ⟨by rfl, below_drewN (HB.out.trans (HB5.out.mono HB.out.size)) q⟩
end Go.Proofs.Ytlehgacbcacokaa
