/- The contract of pack.lay (and of flag). -/
import Derived.Test.YtlehgacbcacokaaG15
import Derived.Test.YtlehgacbcacokaaG36
import Derived.Deep.RegionHeld3
import Derived.Deep.CutBlock
import Derived.Test.YtlehgacbcacokaaG12
import Derived.Test.YtlehgacbcacokaaG32
namespace Go.Proofs.Ytlehgacbcacokaa
open Go.RowKit TreeMath RealMath WireMath PackMath

theorem flag_any (b : Bool) (w : World) : Calls Try.prog 94 #[.bool b] w fun e w' => e = .returned (vb (if b then 1 else 0)) ∧ w = w' := by
  cases b
  · go_enter Try.func94, Try.ntmps94
    go_wp2
    go_ret
    exact ⟨rfl, rfl⟩
  · go_enter Try.func94, Try.ntmps94
    go_wp2
    go_ret
    exact ⟨rfl, rfl⟩
/-- what laying a node comes to -/
def LayPost (w : World) (base g : Nat) (v : Value) (l : List By) (e : Ending) (w' : World) : Prop :=
  e = .returned (.tuple #[]) ∧ ∃ v', WrIs w' base g v' l ∧ WrStep g v v' w w'
/-- while a node is laid: the writer, the node's box -/
structure LIn (w : World) (base g : Nat) (v : Value) (cs : List Value) (W : World) (u : Value) (l : List By) : Prop where
  wr : WrIs W base g u l
  box : Blk W w.heap.size 27 cs
  step : WrStep g v u w W
  ne : u.ownBlock ≠ some w.heap.size
  glt : g < w.heap.size
theorem LIn.next {w W W' : World} {base g : Nat} {v u u' : Value} {cs : List Value} {l l' : List By} (h : LIn w base g v cs W u l) (h1 : WrIs W' base g u' l') (h2 : WrStep g u u' W W') : LIn w base g v cs W' u' l' := by
  have hlt := h.box.lt
  refine ⟨h1, ?_, h.step.trans h2, fun e => ?_, h.glt⟩
  · unfold Blk; rw [h2.other _ hlt (by have := h.glt; omega) h.ne]; exact h.box
  · rcases h2.own _ e with h3 | h3
    · exact h.ne h3
    · omega
theorem LIn.below {w W : World} {base g : Nat} {v u : Value} {cs : List Value} {l l0 : List By} (h : LIn w base g v cs W u l) (h0 : WrIs w base g v l0) : Below base w W := h.step.below h0 (by have := h0.lo; have := h.glt; omega)
theorem LIn.grown {w W W' : World} {base g : Nat} {v u : Value} {cs : List Value} {l : List By} (h : LIn w base g v cs W u l) (hb : Below W.heap.size W W') : LIn w base g v cs W' u l := h.next (h.wr.below hb) (WrStep.of_below hb)
theorem LIn.new {w : World} {base g : Nat} {v : Value} {l : List By} (h : WrIs w base g v l) (cs : Array Value) : LIn w base g v cs.toList (w.alloc (.cells cs 27)) v l := by
  have hb : Below w.heap.size w (w.alloc (.cells cs 27)) := (Below.refl _ _).alloc (Nat.le_refl _) _
  refine ⟨h.below hb, Blk.new w 27 cs, WrStep.of_below hb, fun e => ?_, h.blk.lt⟩
  have := (h.own.lt _ e).2; omega
theorem kids_len (x : Hd) (ks : List T) : ks.length ≤ count (.mk x ks) := by
  rw [count_mk]; have := len_le_count ks; omega
def LayOf (top : Nat) (t : T) : Prop := ∀ (base g : Nat) (v : Value) (l : List By) (w : World), top ≤ w.heap.size → top ≤ base → Ok w top t → formT t → count t ≤ 64 → l.length + 1100 * count t ≤ 1000000 → WrIs w base g v l →
  Calls Try.prog 68 #[.pointer (some ⟨g, 0, none⟩), val t] w (LayPost w base g v (l ++ layB t))
set_option maxHeartbeats 4000000 in
set_option maxRecDepth 100000 in
theorem lay_of (top : Nat) : ∀ t, LayOf top t := by
  refine T.ind fun x ks IH => ?_
  intro base g v l w htop hbase hok hform hcn hbd hw
  show Calls Try.prog 68 #[.pointer (some ⟨g, 0, none⟩), nv x ks.length] w _
  have HOK := Lib.hid hok; have HF := Lib.hid hform; have HW := Lib.hid hw; have HIH := Lib.hid IH
  clear hok hform hw IH
  go_enter Try.func68, Try.ntmps68
  go_wp2_with fail
  have hL := LIn.new HW.out #[vb x.kind, .slice x.na x.names.length x.nc, .slice x.ka ks.length x.kc, .slice x.da x.data.length x.dc, .bool x.run, .float .f64 x.stamp, vs x.target]
  have hl1 : l.length + 1 ≤ 1000000 := by have := count_pos (.mk x ks); omega
  generalize w.alloc (.cells #[vb x.kind, .slice x.na x.names.length x.nc, .slice x.ka ks.length x.kc, .slice x.da x.data.length x.dc, .bool x.run, .float .f64 x.stamp, vs x.target] 27) = W1 at *
  have HL := Lib.hid hL; clear hL
  refine (wbyte_any base g v l x.kind hl1 W1 HL.out.wr).mono ?_
  rintro e w1 ⟨rfl, v1, h1, h2⟩
  have HL1 := Lib.hid (HL.out.next h1 h2)
  clear h1 h2 HL
  have c0 := HL1.out.box.cell 0; have c1 := HL1.out.box.cell 1; have c3 := HL1.out.box.cell 3; have c4 := HL1.out.box.cell 4; have c5 := HL1.out.box.cell 5; have c6 := HL1.out.box.cell 6
  simp only [List.getElem?_cons_zero, List.getElem?_cons_succ] at c0 c1 c3 c4 c5 c6
  have hbx : (w.heap.size : Nat) = w.heap.size := rfl
  rcases fits_cases HF.out.top with ⟨hk, hn, hno, -⟩ | ⟨hk, hd, -⟩ | ⟨hk, ht1, ht2, -⟩
  · have e1 : ((x.kind.toNat : Int) == 1) = true := by rw [hk]; rfl
    have HN := Lib.hid hn; have HNO := Lib.hid hno
    clear hn hno
    have HB : Hid (layB (.mk x ks) = x.kind :: UInt8.ofNat x.names.length :: layL x.names ks) := by show _ = _; rw [layB, if_pos hk]
    have hcl := kids_len x ks
    have HC1 : Hid (Calls Try.prog 93 #[.pointer (some ⟨g, 0, none⟩), .int .u8 ((x.names.length : Int) % 256)] w1 (WrPost w1 base g v1 (l ++ [x.kind] ++ [UInt8.ofNat x.names.length]))) := by
      have := wbyte_any base g v1 (l ++ [x.kind]) (UInt8.ofNat x.names.length) (by simp; have := count_pos (.mk x ks); omega) w1 HL1.out.wr
      rw [vb_mod] at this; exact this
    go_wp2_with fail
    refine HC1.out.mono ?_
    rintro e w2 ⟨rfl, v2, h1, h2⟩
    have HL2 := Lib.hid (HL1.out.next h1 h2)
    clear h1 h2 HL1 HC1 c0 c1 c3 c4 c5 c6
    have c1 := HL2.out.box.cell 1
    simp only [List.getElem?_cons_zero, List.getElem?_cons_succ] at c1
    go_wp2_with fail
    clear c1
    go_loopw [4, 5, 23] (fun _ _ vi wr => ∃ i : Nat, i ≤ x.names.length ∧ vi = .int .i64 i ∧ Hid (∃ u, LIn w base g v (cellsOf x ks.length) wr u (l ++ [x.kind] ++ [UInt8.ofNat x.names.length] ++ layL x.names (ks.take i)))) (fun _ _ vi _ => x.names.length - (intOf vi).toNat)
    case atStart => exact ⟨0, Nat.zero_le _, rfl, v2, by have h := HL2.out; simp only [List.take_zero, layL, List.append_nil]; exact h⟩
    case round =>
      obtain ⟨i, hi, rfl, HR⟩ := hrel
      rename World => W0
      obtain ⟨u, hL⟩ := HR.out
      have HL := Lib.hid hL
      clear hL HR
      by_cases hlt : i < x.names.length
      · have hlk : i < ks.length := by rw [← HN.out]; exact hlt
        have hbw : Below base w W0 := HL.out.below HW.out
        have hbt := hbw.mono hbase
        obtain ⟨nb, no, hna, hnc⟩ := HOK.out.hd.nsrc (by omega)
        have cn : W0.cell? ⟨nb, no + i, none⟩ = some (vs x.names[i]) := by rw [hbt.cell (p := ⟨nb, no + i, none⟩) (show nb < top from HOK.out.hd.nlt (by omega) ⟨nb, no, none⟩ hna)]; exact hnc i hlt
        have c1 := HL.out.box.cell 1; have c2 := HL.out.box.cell 2
        simp only [cellsOf, List.getElem?_cons_zero, List.getElem?_cons_succ] at c1 c2
        rw [hna] at c1
        have HNM := Lib.hid (names_each HNO.out x.names[i] (List.getElem_mem hlt))
        have HLT := Lib.hid (layL_take x.names ks i hlk hlt)
        have hlen : (l ++ [x.kind] ++ [UInt8.ofNat x.names.length] ++ layL x.names (ks.take i)).length + 42 + 1100 * count ks[i] ≤ 1000000 := by
          have h1 := layL_le (x.names.take i) (ks.take i) (fun k hk => HF.out.kid (List.mem_of_mem_take hk)) (fun s hs => names_each HNO.out s (List.mem_of_mem_take hs)) (by simp; omega)
          have h2 := all_count_le (x := x) i hlk
          have h3 : layL (x.names.take i) (ks.take i) = layL x.names (ks.take i) := layL_names x.names ks i
          rw [h3] at h1
          simp only [List.length_append, List.length_cons, List.length_nil]
          omega
        have HLEN := Lib.hid hlen
        clear hnc hlen
        generalize x.names[i] = nm at *
        go_wp2_with fail
        clear hna
        refine (wtext_any base g u _ nm (by have := HLEN.out; have := HNM.out; omega) W0 HL.out.wr).mono ?_
        rintro e w3 ⟨rfl, v3, h1, h2⟩
        have HL3 := Lib.hid (HL.out.next h1 h2)
        clear h1 h2 c1 c2 cn HL
        have hbw3 : Below base w w3 := HL3.out.below HW.out
        have hbt3 := hbw3.mono hbase
        have c2 := HL3.out.box.cell 2
        simp only [cellsOf, List.getElem?_cons_zero, List.getElem?_cons_succ] at c2
        obtain ⟨a, oa, y, ly, hAe, hat, hu, hca⟩ := HOK.out.at.cells i hlk
        obtain ⟨a0, a1, a2, a3, a4, a5, a6⟩ := (hca.same (hbt3.block a hat)).seven
        rw [hAe] at c2
        have HC : Hid (Calls Try.prog 68 #[.pointer (some ⟨g, 0, none⟩), nv y ly.length] w3 (LayPost w3 base g v3 (l ++ [x.kind] ++ [UInt8.ofNat x.names.length] ++ layL x.names (ks.take i) ++ textB nm ++ layB ks[i]))) := by
          have hc := HIH.out ks[i] (List.getElem_mem hlk) base g v3 _ w3 (Nat.le_trans htop hbt3.size) hbase ((HOK.out.kid (List.getElem_mem hlk)).keep hbt3) (HF.out.kid (List.getElem_mem hlk)) (by have := all_count_le (x := x) i hlk; omega) (by rw [List.length_append, textB_length]; have := HLEN.out; have := HNM.out; omega) HL3.out.wr
          rw [hu] at hc ⊢
          exact hc
        clear hca
        go_wp2_with fail
        refine HC.out.mono ?_
        rintro e w4 ⟨rfl, v4, h1, h2⟩
        have HL4 := Lib.hid (HL3.out.next h1 h2)
        clear h1 h2 c2 a0 a1 a2 a3 a4 a5 a6 hAe
        go_wp2_with fail
        go_roundw
        case rel => exact ⟨i + 1, by omega, by go_num, v4, by rw [HLT.out]; simpa using HL4.out⟩
        case measure => simp [intOf]; omega
      · obtain rfl : i = x.names.length := by omega
        go_wp2_with fail
        refine bodyPost_end (v := .tuple #[]) (by simp [results, Try.results68]) rfl ⟨rfl, u, ?_, HL.out.step⟩
        rw [HB.out]
        have := HL.out.wr
        rw [HN.out, List.take_length, ← HN.out] at this
        simpa using this
  · have e1 : ((x.kind.toNat : Int) == 1) = false := by rw [hk]; rfl
    have e2 : ((x.kind.toNat : Int) == 2) = true := by rw [hk]; rfl
    have HB : Hid (layB (.mk x ks) = x.kind :: ((if x.run then 1 else 0) :: (wideB (canonB x.stamp) ++ textB x.data))) := by show _ = _; rw [layB, if_neg (by rw [hk]; decide), if_pos hk]
    have hst := HOK.out.hd.stamp
    have hcs := canonB_lt x.stamp hst
    have HFL : Hid (∀ W, Calls Try.prog 94 #[.bool x.run] W fun e w' => e = .returned (vb (if x.run then 1 else 0)) ∧ W = w') := fun W => flag_any x.run W
    have HBT : Hid (∀ W, Calls Try.prog 85 #[.float .f64 x.stamp] W fun e w' => e = .returned (.int .u64 (canonB x.stamp : Nat)) ∧ W = w') := fun W => bits_any x.stamp hst W
    have hcnt := count_pos (.mk x ks)
    have HCV : Hid (∀ W, Below base w W → (convert 24 9 (.slice x.da x.data.length x.dc)).run Try.prog W = .ok (vs x.data) W) := fun W hW => run_text_src (HOK.out.hd.dsrc.belowB hW (fun h a ha => Nat.lt_of_lt_of_le (HOK.out.hd.dlt h a ha) hbase))
    have HS : Hid (∀ W u m, LIn w base g v (cellsOf x ks.length) W u m → W.cell? ⟨w.heap.size, 3, none⟩ = some (.slice x.da x.data.length x.dc) ∧ W.cell? ⟨w.heap.size, 4, none⟩ = some (.bool x.run) ∧ W.cell? ⟨w.heap.size, 5, none⟩ = some (.float .f64 x.stamp) ∧ (convert 24 9 (.slice x.da x.data.length x.dc)).run Try.prog W = .ok (vs x.data) W) := fun W u m h => ⟨h.box.cell 3, h.box.cell 4, h.box.cell 5, HCV.out W (h.below HW.out)⟩
    generalize (if x.run then 1 else 0 : By) = fb at *
    generalize canonB x.stamp = cb at *
    clear c0 c1 c3 c4 c5 c6
    have c0 := HL1.out.box.cell 0
    simp only [List.getElem?_cons_zero] at c0
    go_upto_region 12 with fail
    have HL1' := Lib.hid (HL1.out.grown (W' := w1.drew) (Below.refl _ _).drew)
    have k0 := HS.out _ _ _ HL1'.out
    have HD := Lib.hid hd
    clear hd c0 HL1
    go_region_held3 (fun W => W.cell? ⟨w.heap.size, 3, none⟩ = some (.slice x.da x.data.length x.dc) ∧ W.cell? ⟨w.heap.size, 4, none⟩ = some (.bool x.run) ∧ W.cell? ⟨w.heap.size, 5, none⟩ = some (.float .f64 x.stamp) ∧ (convert 24 9 (.slice x.da x.data.length x.dc)).run Try.prog W = .ok (vs x.data) W)
      (first | with_reducible exact k0 | with_reducible exact k1 | with_reducible exact k2 | with_reducible exact k3)
      (first
        | (go_at_call 94
           refine (HFL.out _).mono ?_
           rintro e w9 ⟨rfl, rfl⟩)
        | (go_at_call 85
           refine (HBT.out _).mono ?_
           rintro e w9 ⟨rfl, rfl⟩)
        | (go_at_call 93
           refine (wbyte_any base g v1 (l ++ [x.kind]) fb ?hh w1.drew HL1'.out.wr).mono ?_
           case hh => simp; omega
           rintro e w2 ⟨rfl, v2, h1, h2⟩
           have HL2 := Lib.hid (HL1'.out.next h1 h2)
           have k1 := HS.out _ _ _ HL2.out
           clear h1 h2)
        | (go_at_call 95
           refine (wwide_any base g v2 (l ++ [x.kind] ++ [fb]) cb ?hh ?hg w2 HL2.out.wr).mono ?_
           case hh => omega
           case hg => simp; omega
           rintro e w3 ⟨rfl, v3, h1, h2⟩
           have HL3 := Lib.hid (HL2.out.next h1 h2)
           have k2 := HS.out _ _ _ HL3.out
           clear h1 h2)
        | (go_at_call 67
           refine (wtext_any base g v3 (l ++ [x.kind] ++ [fb] ++ wideB cb) x.data ?hh w3 HL3.out.wr).mono ?_
           case hh => simp [wideB_length]; have := HD.out; omega
           rintro e w4 ⟨rfl, v4, h1, h2⟩
           have HL4 := Lib.hid (HL3.out.next h1 h2)
           have k3 := HS.out _ _ _ HL4.out
           clear h1 h2)
        | fail)
    all_goals
      clear k0 k1 k2 k3
      go_wp2_with fail
      refine bodyPost_end (v := .tuple #[]) (by simp [results, Try.results68]) rfl ⟨rfl, v4, ?_, HL4.out.step⟩
      rw [HB.out]
      simpa using HL4.out.wr
  · have e1 : ((x.kind.toNat : Int) == 1) = false := by rw [hk]; rfl
    have e2 : ((x.kind.toNat : Int) == 2) = false := by rw [hk]; rfl
    have e3 : ((x.kind.toNat : Int) == 3) = true := by rw [hk]; rfl
    have HB : Hid (layB (.mk x ks) = x.kind :: textB x.target) := by show _ = _; rw [layB, if_neg (by rw [hk]; decide), if_neg (by rw [hk]; decide), if_pos hk]
    have hcnt := count_pos (.mk x ks)
    go_wp2_with fail
    refine (wtext_any base g v1 (l ++ [x.kind]) x.target (by simp; omega) w1 HL1.out.wr).mono ?_
    rintro e w2 ⟨rfl, v2, h1, h2⟩
    have HL2 := Lib.hid (HL1.out.next h1 h2)
    clear h1 h2
    go_wp2_with fail
    refine bodyPost_end (v := .tuple #[]) (by simp [results, Try.results68]) rfl ⟨rfl, v2, ?_, HL2.out.step⟩
    rw [HB.out]
    simpa using HL2.out.wr
end Go.Proofs.Ytlehgacbcacokaa

/- The contract of the reference's lay. -/
namespace Go.Proofs.Ytlehgacbcacokaa
open Go.RowKit TreeMath RealMath WireMath PackMath

theorem own_base {w : World} {base base' n : Nat} {e : TypeId} {v : Value} {xs : List Value} (h : w.ownsRow base e 1 v n xs) (hb : base' ≤ base) : w.ownsRow base' e 1 v n xs := by
  refine ⟨h.1, ?_⟩
  rcases h.2 with h1 | ⟨k, cap, cur, rfl, h2, h3, h4⟩
  · exact .inl h1
  · exact .inr ⟨k, cap, cur, rfl, by omega, h3, h4⟩
theorem RowRel.lower {w w1 W : World} {e : TypeId} {l : List Value} {v : Value} (h : RowRel w1 e l v W) (hb : Below w.heap.size w w1) : RowRel w e l v W := ⟨hb.trans (h.below.mono hb.size), own_base h.own hb.size⟩
/-- bytes appended to a row of one's own -/
theorem wpList_app {w W0 : World} {ops : Array Oper} {rest : List Oper} {o : Oper} {a : Act} {Q : Exit → Act → World → Prop} (hgd : o.guard = none) (s x : Operand)
    (ho : o.op = .call { callee := .builtin .append, args := #[s, x], argTypes := #[24, 24] }) (v : Value) (xs : List By) (r : RowRel w 5 (xs.map vb) v W0) (hs : a.eval s = v)
    (A : Option Addr) (c : Nat) (l : List By) (hx : a.eval x = .slice A l.length c) (hN : A = none → c = 0) (hA : SrcIs W0 A l) (hbd : xs.length + l.length ≤ 1000000)
    (h : ∀ v' w', RowRel w 5 ((xs ++ l).map vb) v' w' → wpList Try.prog ops Q rest (a.put o.dst v') w') : wpList Try.prog ops Q (o :: rest) a W0 :=
  wpList_append_src hgd s x ho w.heap.size v xs.length xs hs (by simpa using r.own) A c l hx hN hA hbd r.below.size (fun v' w' h1 h2 => h v' w' ⟨r.below.grown h2 r.below.size (fun g hg => (r.own.lt g hg).1), by simpa using h1⟩)
def RLayOf (top : Nat) (t : T) : Prop := ∀ (w : World), top ≤ w.heap.size → Ok w top t → formT t → count t ≤ 64 →
  Calls Try.prog 70 #[val t] w fun e w' => ∃ v, e = .returned v ∧ RowRel w 5 ((layB t).map vb) v w'
set_option maxHeartbeats 4000000 in
set_option maxRecDepth 100000 in
theorem rlay_of (top : Nat) : ∀ t, RLayOf top t := by
  refine T.ind fun x ks IH => ?_
  intro w htop hok hform hcn
  show Calls Try.prog 70 #[nv x ks.length] w _
  have HOK := Lib.hid hok; have HF := Lib.hid hform; have HIH := Lib.hid IH
  clear hok hform IH
  go_enter Try.func70, Try.ntmps70
  go_upto_region 2 with fail
  have hbox := (Blk.new w 27 #[vb x.kind, .slice x.na x.names.length x.nc, .slice x.ka ks.length x.kc, .slice x.da x.data.length x.dc, .bool x.run, .float .f64 x.stamp, vs x.target]).alloc (.cells #[vb x.kind] 5)
  have hB1 : Below w.heap.size w (w.alloc (.cells #[vb x.kind, .slice x.na x.names.length x.nc, .slice x.ka ks.length x.kc, .slice x.da x.data.length x.dc, .bool x.run, .float .f64 x.stamp, vs x.target] 27)) := (Below.refl _ _).alloc (Nat.le_refl _) _
  have hs1 : (w.alloc (.cells #[vb x.kind, .slice x.na x.names.length x.nc, .slice x.ka ks.length x.kc, .slice x.da x.data.length x.dc, .bool x.run, .float .f64 x.stamp, vs x.target] 27)).heap.size = w.heap.size + 1 := by simp
  have hR1 := new_row (w.alloc (.cells #[vb x.kind, .slice x.na x.names.length x.nc, .slice x.ka ks.length x.kc, .slice x.da x.data.length x.dc, .bool x.run, .float .f64 x.stamp, vs x.target] 27)) [x.kind] 1 rfl (by decide)
  rw [hs1] at hR1
  simp only [List.map_cons, List.map_nil] at hR1
  generalize w.alloc (.cells #[vb x.kind, .slice x.na x.names.length x.nc, .slice x.ka ks.length x.kc, .slice x.da x.data.length x.dc, .bool x.run, .float .f64 x.stamp, vs x.target] 27) = W1 at *
  generalize W1.alloc (.cells #[vb x.kind] 5) = W2 at *
  have HBOX := Lib.hid hbox; have HB1 := Lib.hid hB1; have HS1 := Lib.hid hs1; have HR1 := Lib.hid hR1
  clear hbox hB1 hs1 hR1
  have c0 := HBOX.out.cell 0; have c1 := HBOX.out.cell 1; have c3 := HBOX.out.cell 3; have c4 := HBOX.out.cell 4; have c5 := HBOX.out.cell 5; have c6 := HBOX.out.cell 6
  simp only [List.getElem?_cons_zero, List.getElem?_cons_succ] at c0 c1 c3 c4 c5 c6
  have HKEEP : Hid (∀ W, Below W1.heap.size W1 W → Blk W w.heap.size 27 (cellsOf x ks.length) ∧ Ok W top (.mk x ks) ∧ top ≤ W.heap.size) := by
    intro W hW
    refine ⟨?_, HOK.out.keep ((HB1.out.trans (hW.mono HB1.out.size)).mono htop), Nat.le_trans htop (Nat.le_trans HB1.out.size hW.size)⟩
    have h1 := HR1.out.below
    unfold Blk
    rw [hW.block w.heap.size (by rw [HS1.out]; omega), ← h1.block w.heap.size (by rw [HS1.out]; omega)]
    exact HBOX.out
  have hcnt := count_pos (.mk x ks)
  rcases fits_cases HF.out.top with ⟨hk, hn, hno, -⟩ | ⟨hk, hd, -⟩ | ⟨hk, ht1, ht2, -⟩
  · have e1 : ((x.kind.toNat : Int) == 1) = true := by rw [hk]; rfl
    have HN := Lib.hid hn; have HNO := Lib.hid hno; have HK := Lib.hid hk
    have HB : Hid (layB (.mk x ks) = x.kind :: UInt8.ofNat x.names.length :: layL x.names ks) := by show _ = _; rw [layB, if_pos hk]
    have hlen : x.names.length ≤ 64 := by have := kids_len x ks; omega
    have HVB : Hid (vb (UInt8.ofNat x.names.length) = .int .u8 (x.names.length : Int)) := by show _ = _; rw [vb_mod]; congr 1; omega
    clear hn hno hk
    go_wp2_with (refine wpList_push Try.underlying24 info5 rfl (by decide) rfl (.tmp 12) (.tmp 17) rfl HR1.out rfl [.int .u8 (x.names.length : Int)] 1 rfl rfl rfl (by simp) ?_)
    intro v3 w3 hr3
    have HR3 : Hid (RowRel W1 5 (([x.kind] ++ [UInt8.ofNat x.names.length]).map vb) v3 w3) := by show RowRel _ _ _ _ _; rw [List.map_append, List.map_cons, List.map_cons, List.map_nil, HVB.out]; exact hr3
    clear hr3 c0 c1 c3 c4 c5 c6 HVB
    go_wp2_with fail
    go_loopw [3, 4] (fun vp vi wr => ∃ i : Nat, i ≤ x.names.length ∧ vi = .int .i64 i ∧ Hid (RowRel W1 5 (([x.kind] ++ [UInt8.ofNat x.names.length] ++ layL x.names (ks.take i)).map vb) vp wr)) (fun _ vi _ => x.names.length - (intOf vi).toNat)
    case atStart => exact ⟨0, Nat.zero_le _, rfl, by have h := HR3.out; simp only [List.take_zero, layL, List.append_nil]; exact h⟩
    case round =>
      obtain ⟨i, hi, rfl, HR⟩ := hrel
      rename World => W0
      rename Value => vp
      obtain ⟨hbx, hok0, htop0⟩ := HKEEP.out W0 HR.out.below
      have c1 := hbx.cell 1; have c2 := hbx.cell 2
      simp only [cellsOf, List.getElem?_cons_zero, List.getElem?_cons_succ] at c1 c2
      by_cases hlt : i < x.names.length
      · have hlk : i < ks.length := by rw [← HN.out]; exact hlt
        obtain ⟨nb, no, hna, hnc⟩ := hok0.hd.nsrc (by omega)
        have cn : W0.cell? ⟨nb, no + i, none⟩ = some (vs x.names[i]) := hnc i hlt
        rw [hna] at c1
        have HNM := Lib.hid (names_each HNO.out x.names[i] (List.getElem_mem hlt))
        have HLT := Lib.hid (layL_take x.names ks i hlk hlt)
        have hlen2 : ([x.kind] ++ [UInt8.ofNat x.names.length] ++ layL x.names (ks.take i)).length + 42 + (layB ks[i]).length ≤ 1000000 := by
          have h1 := layL_le (x.names.take i) (ks.take i) (fun k hk => HF.out.kid (List.mem_of_mem_take hk)) (fun s hs => names_each HNO.out s (List.mem_of_mem_take hs)) (by simp; omega)
          have h2 := all_count_le (x := x) i hlk
          have h3 : layL (x.names.take i) (ks.take i) = layL x.names (ks.take i) := layL_names x.names ks i
          have h4 := layB_le ks[i] (HF.out.kid (List.getElem_mem hlk))
          rw [h3] at h1
          simp only [List.length_append, List.length_cons, List.length_nil]
          omega
        have HLEN := Lib.hid hlen2
        have HKID := Lib.hid (hok0.kid (List.getElem_mem hlk))
        clear hnc hlen2 hbx hok0 hi
        generalize x.names[i] = nm at *
        go_wp2_with fail
        clear hna
        refine (rtextb_any nm (by have := HNM.out; omega) W0).mono ?_
        rintro e w4 ⟨u, rfl, hu⟩
        obtain ⟨A, c, rfl, hA, hN, -, -⟩ := hu.src
        have HR4 := Lib.hid (HR.out.below' hu.below)
        have HA := Lib.hid hA; have HNN := Lib.hid hN
        clear hu hA hN c1 c2 cn HR
        go_wp2_with (refine wpList_app rfl (.tmp 26) (.tmp 32) rfl _ _ HR4.out rfl A c (textB nm) rfl HNN.out HA.out (by rw [textB_length]; have := HLEN.out; have := HNM.out; omega) ?_)
        intro v5 w5 hr5
        have HR5 : Hid (RowRel W1 5 (([x.kind] ++ [UInt8.ofNat x.names.length] ++ layL x.names (ks.take i) ++ textB nm).map vb) v5 w5) := by show RowRel _ _ _ _ _; simpa using hr5
        clear hr5 HR4 HA HNN
        obtain ⟨hbx, hok0, htop0⟩ := HKEEP.out w5 HR5.out.below
        have c2 := hbx.cell 2
        simp only [cellsOf, List.getElem?_cons_zero, List.getElem?_cons_succ] at c2
        obtain ⟨a, oa, y, ly, hAe, hat, hu, hca⟩ := hok0.at.cells i hlk
        obtain ⟨a0, a1, a2, a3, a4, a5, a6⟩ := hca.seven
        rw [hAe] at c2
        have HC : Hid (Calls Try.prog 70 #[nv y ly.length] w5 fun e w' => ∃ v, e = .returned v ∧ RowRel w5 5 ((layB ks[i]).map vb) v w') := by
          have hc := HIH.out ks[i] (List.getElem_mem hlk) w5 htop0 (hok0.kid (List.getElem_mem hlk)) (HF.out.kid (List.getElem_mem hlk)) (by have := all_count_le (x := x) i hlk; omega)
          rw [hu] at hc ⊢
          exact hc
        clear hca hbx hok0 hu
        go_wp2_with fail
        clear hAe
        refine HC.out.mono ?_
        rintro e w6 ⟨u, rfl, hu6⟩
        obtain ⟨A, c, rfl, hA, hN, -, -⟩ := hu6.src
        have HR6 := Lib.hid (HR5.out.below' hu6.below)
        have HA := Lib.hid hA; have HNN := Lib.hid hN
        clear hu6 hA hN c2 a0 a1 a2 a3 a4 a5 a6 HR5 HC
        go_wp2_with (refine wpList_app rfl (.tmp 34) (.tmp 40) rfl _ _ HR6.out rfl A c (layB ks[i]) rfl HNN.out HA.out (by rw [List.length_append, textB_length]; have := HLEN.out; have := HNM.out; omega) ?_)
        intro v7 w7 hr7
        have HR7 := Lib.hid hr7
        clear hr7 HR6 HA HNN
        go_wp2_with fail
        go_roundw
        case rel => exact ⟨i + 1, by omega, by go_num, by show RowRel _ _ _ _ _; rw [HLT.out]; have h := HR7.out; simpa using h⟩
        case measure => simp [intOf]; omega
      · obtain rfl : i = x.names.length := by omega
        have HRW := Lib.hid (HR.out.lower HB1.out)
        clear hbx hok0
        go_wp2_with fail
        go_ret
        refine ⟨_, rfl, ?_⟩
        rw [HB.out]
        have h := HRW.out
        rw [HN.out, List.take_length, ← HN.out] at h
        exact h
  · have e1 : ((x.kind.toNat : Int) == 1) = false := by rw [hk]; rfl
    have e2 : ((x.kind.toNat : Int) == 2) = true := by rw [hk]; rfl
    have HB : Hid (layB (.mk x ks) = x.kind :: ((if x.run then 1 else 0) :: (wideB (canonB x.stamp) ++ textB x.data))) := by show _ = _; rw [layB, if_neg (by rw [hk]; decide), if_pos hk]
    have hst := HOK.out.hd.stamp
    have hcs := canonB_lt x.stamp hst
    have HK := Lib.hid hk; have HD := Lib.hid hd
    clear hk hd
    cases hrun : x.run with
    | true =>
      go_wp2_with (refine wpList_push Try.underlying24 info5 rfl (by decide) rfl (.tmp 46) (.tmp 47) rfl HR1.out rfl [.int .u8 1] 1 rfl rfl rfl (by simp) ?_)
      intro v3 w3 hr3
      have HR3 : Hid (RowRel W1 5 (([x.kind] ++ [1]).map vb) v3 w3) := hr3
      clear hr3 c0 c1 c3 c4 c5 c6
      obtain ⟨hbx, hok0, htop0⟩ := HKEEP.out w3 HR3.out.below
      have c5 := hbx.cell 5
      simp only [cellsOf, List.getElem?_cons_zero, List.getElem?_cons_succ] at c5
      clear hbx hok0 htop0
      go_wp2_with fail
      refine (refbits_any x.stamp w3).mono ?_
      rintro e w4 ⟨rfl, rfl⟩
      have HRW : Hid (∀ W, Calls Try.prog 45 #[.int .u64 (canonB x.stamp)] W fun e w' => ∃ v, e = .returned v ∧ RowRel W 5 ((wideB (canonB x.stamp)).map vb) v w') := fun W => rwide_any (canonB x.stamp) (by omega) W
      generalize canonB x.stamp = cb at *
      go_wp2_with fail
      refine (HRW.out w3).mono ?_
      rintro e w5 ⟨u, rfl, hu⟩
      obtain ⟨A, c, rfl, hA, hN, -, -⟩ := hu.src
      have HR5 := Lib.hid (HR3.out.below' hu.below)
      have HA := Lib.hid hA; have HNN := Lib.hid hN
      clear hu hA hN c5 HR3 HRW
      go_wp2_with (refine wpList_app rfl (.tmp 52) (.tmp 56) rfl _ _ HR5.out rfl A c (wideB cb) rfl HNN.out HA.out (by rw [wideB_length]; simp) ?_)
      intro v6 w6 hr6
      have HR6 : Hid (RowRel W1 5 (([x.kind] ++ [1] ++ wideB cb).map vb) v6 w6) := by show RowRel _ _ _ _ _; simpa using hr6
      clear hr6 HA HNN HR5
      obtain ⟨hbx, hok0, htop0⟩ := HKEEP.out w6 HR6.out.below
      have c3 := hbx.cell 3
      simp only [cellsOf, List.getElem?_cons_zero, List.getElem?_cons_succ] at c3
      have hcv := run_text_src (cap := x.dc) hok0.hd.dsrc
      clear hbx hok0 htop0
      go_wp2_with fail
      refine (rtextb_any x.data (by have := HD.out; omega) w6).mono ?_
      rintro e w7 ⟨u, rfl, hu⟩
      obtain ⟨A, c, rfl, hA, hN, -, -⟩ := hu.src
      have HR7 := Lib.hid (HR6.out.below' hu.below)
      have HA := Lib.hid hA; have HNN := Lib.hid hN
      clear hu hA hN c3 hcv HR6
      go_wp2_with (refine wpList_app rfl (.tmp 58) (.tmp 62) rfl _ _ HR7.out rfl A c (textB x.data) rfl HNN.out HA.out (by rw [textB_length, List.length_append, wideB_length]; have := HD.out; simp; omega) ?_)
      intro v8 w8 hr8
      have HR8 := Lib.hid (hr8.lower HB1.out)
      clear hr8
      go_wp2_with fail
      go_ret
      refine ⟨_, rfl, ?_⟩
      rw [HB.out, hrun]
      have h := HR8.out
      simpa using h
    | false =>
      go_wp2_with (refine wpList_push Try.underlying24 info5 rfl (by decide) rfl (.tmp 49) (.tmp 50) rfl HR1.out rfl [.int .u8 0] 1 rfl rfl rfl (by simp) ?_)
      intro v3 w3 hr3
      have HR3 : Hid (RowRel W1 5 (([x.kind] ++ [0]).map vb) v3 w3) := hr3
      clear hr3 c0 c1 c3 c4 c5 c6
      obtain ⟨hbx, hok0, htop0⟩ := HKEEP.out w3 HR3.out.below
      have c5 := hbx.cell 5
      simp only [cellsOf, List.getElem?_cons_zero, List.getElem?_cons_succ] at c5
      clear hbx hok0 htop0
      go_wp2_with fail
      refine (refbits_any x.stamp w3).mono ?_
      rintro e w4 ⟨rfl, rfl⟩
      have HRW : Hid (∀ W, Calls Try.prog 45 #[.int .u64 (canonB x.stamp)] W fun e w' => ∃ v, e = .returned v ∧ RowRel W 5 ((wideB (canonB x.stamp)).map vb) v w') := fun W => rwide_any (canonB x.stamp) (by omega) W
      generalize canonB x.stamp = cb at *
      go_wp2_with fail
      refine (HRW.out w3).mono ?_
      rintro e w5 ⟨u, rfl, hu⟩
      obtain ⟨A, c, rfl, hA, hN, -, -⟩ := hu.src
      have HR5 := Lib.hid (HR3.out.below' hu.below)
      have HA := Lib.hid hA; have HNN := Lib.hid hN
      clear hu hA hN c5 HR3 HRW
      go_wp2_with (refine wpList_app rfl (.tmp 52) (.tmp 56) rfl _ _ HR5.out rfl A c (wideB cb) rfl HNN.out HA.out (by rw [wideB_length]; simp) ?_)
      intro v6 w6 hr6
      have HR6 : Hid (RowRel W1 5 (([x.kind] ++ [0] ++ wideB cb).map vb) v6 w6) := by show RowRel _ _ _ _ _; simpa using hr6
      clear hr6 HA HNN HR5
      obtain ⟨hbx, hok0, htop0⟩ := HKEEP.out w6 HR6.out.below
      have c3 := hbx.cell 3
      simp only [cellsOf, List.getElem?_cons_zero, List.getElem?_cons_succ] at c3
      have hcv := run_text_src (cap := x.dc) hok0.hd.dsrc
      clear hbx hok0 htop0
      go_wp2_with fail
      refine (rtextb_any x.data (by have := HD.out; omega) w6).mono ?_
      rintro e w7 ⟨u, rfl, hu⟩
      obtain ⟨A, c, rfl, hA, hN, -, -⟩ := hu.src
      have HR7 := Lib.hid (HR6.out.below' hu.below)
      have HA := Lib.hid hA; have HNN := Lib.hid hN
      clear hu hA hN c3 hcv HR6
      go_wp2_with (refine wpList_app rfl (.tmp 58) (.tmp 62) rfl _ _ HR7.out rfl A c (textB x.data) rfl HNN.out HA.out (by rw [textB_length, List.length_append, wideB_length]; have := HD.out; simp; omega) ?_)
      intro v8 w8 hr8
      have HR8 := Lib.hid (hr8.lower HB1.out)
      clear hr8
      go_wp2_with fail
      go_ret
      refine ⟨_, rfl, ?_⟩
      rw [HB.out, hrun]
      have h := HR8.out
      simpa using h
  · have e1 : ((x.kind.toNat : Int) == 1) = false := by rw [hk]; rfl
    have e2 : ((x.kind.toNat : Int) == 2) = false := by rw [hk]; rfl
    have e3 : ((x.kind.toNat : Int) == 3) = true := by rw [hk]; rfl
    have HB : Hid (layB (.mk x ks) = x.kind :: textB x.target) := by show _ = _; rw [layB, if_neg (by rw [hk]; decide), if_neg (by rw [hk]; decide), if_pos hk]
    have HK := Lib.hid hk
    clear hk
    go_wp2_with fail
    refine (rtextb_any x.target (by omega) W2).mono ?_
    rintro e w3 ⟨u, rfl, hu⟩
    obtain ⟨A, c, rfl, hA, hN, -, -⟩ := hu.src
    have HR3 := Lib.hid (HR1.out.below' hu.below)
    have HA := Lib.hid hA; have HNN := Lib.hid hN
    clear hu hA hN c0 c1 c3 c4 c5 c6
    go_wp2_with (refine wpList_app rfl (.tmp 66) (.tmp 69) rfl _ [x.kind] HR3.out rfl A c (textB x.target) rfl HNN.out HA.out (by simp [textB_length]; omega) ?_)
    intro v4 w4 hr4
    have HR4 := Lib.hid (hr4.lower HB1.out)
    clear hr4
    go_wp2_with fail
    go_ret
    refine ⟨_, rfl, ?_⟩
    rw [HB.out]; exact HR4.out
end Go.Proofs.Ytlehgacbcacokaa
