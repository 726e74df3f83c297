/- The contract of another. -/
import Derived.Test.YtlehgacbcacokaaV2
namespace Go.Proofs.Ytlehgacbcacokaa
open Go.RowKit TreeMath RealMath

theorem size_kid {x : Hd} {ks : List T} {k : T} (hk : k ∈ ks) : size k ≤ size (.mk x ks) := by
  unfold size
  rw [all, List.map_cons, List.sum_cons]
  have : ((all k).map fun k => k.hd.data.length).sum ≤ ((allL ks).map fun k => k.hd.data.length).sum := by
    clear x
    induction ks with
    | nil => cases hk
    | cons a l ih =>
      rw [allL, List.map_append, List.sum_append]
      rcases List.mem_cons.1 hk with e | e
      · subst e; omega
      · have := ih e; omega
  omega
theorem own_types {w : World} {b1 b2 e1 e2 s1 s2 n1 n2 c : Nat} {v u : Value} {xs ys : List Value} (h : w.ownsRow b1 e1 s1 v n1 xs) (k : w.ownsRow b2 e2 s2 u n2 ys) (he : e1 ≠ e2) (hv : v.ownBlock = some c) (hu : u.ownBlock = some c) : False := by
  rcases h.2 with ⟨rfl, _⟩ | ⟨g, cap, cur, rfl, hg, hc, _⟩
  · cases hv
  rcases k.2 with ⟨rfl, _⟩ | ⟨g2, cap2, cur2, rfl, hg2, hc2, _⟩
  · cases hu
  obtain rfl : g = c := by simpa [Value.ownBlock] using hv
  obtain rfl : g2 = g := by simpa [Value.ownBlock] using hu
  rw [hc] at hc2; simp at hc2; exact he hc2.2
theorem loop_done {w W0 : World} {st : Nat → Nat} {x : Hd} {ks done : List T} {A2 A3 A6 : Option Addr} {q2 q3 q6 top : Nat} (h : LoopRel w st x ks (.slice A2 x.names.length q2) (.slice A3 x.data.length q3) A6 q6 ks.length done W0) (hx : HdOk w top x) (hkl : ks.length ≤ maxLen) (hst : st x.stamp < 18446744073709551616) :
    Blk (set7 W0 (w.heap.size + 1) (vb x.kind) (.slice A2 x.names.length q2) (.slice A6 ks.length q6) (.slice A3 x.data.length q3) (.bool x.run) (.float .f64 (st x.stamp)) (vs x.target)) (w.heap.size + 1) 27 (cellsT (.mk ⟨x.kind, A2, q2, x.names, A6, q6, A3, q3, x.data, x.run, st x.stamp, x.target⟩ done)) ∧ Ok (set7 W0 (w.heap.size + 1) (vb x.kind) (.slice A2 x.names.length q2) (.slice A6 ks.length q6) (.slice A3 x.data.length q3) (.bool x.run) (.float .f64 (st x.stamp)) (vs x.target)) (set7 W0 (w.heap.size + 1) (vb x.kind) (.slice A2 x.names.length q2) (.slice A6 ks.length q6) (.slice A3 x.data.length q3) (.bool x.run) (.float .f64 (st x.stamp)) (vs x.target)).heap.size (.mk ⟨x.kind, A2, q2, x.names, A6, q6, A3, q3, x.data, x.run, st x.stamp, x.target⟩ done) ∧ InS (fun c => w.heap.size ≤ c) (.mk ⟨x.kind, A2, q2, x.names, A6, q6, A3, q3, x.data, x.run, st x.stamp, x.target⟩ done) ∧ Alike st (.mk x ks) (.mk ⟨x.kind, A2, q2, x.names, A6, q6, A3, q3, x.data, x.run, st x.stamp, x.target⟩ done) ∧ Below w.heap.size w (set7 W0 (w.heap.size + 1) (vb x.kind) (.slice A2 x.names.length q2) (.slice A6 ks.length q6) (.slice A3 x.data.length q3) (.bool x.run) (.float .f64 (st x.stamp)) (vs x.target)) ∧ Own3 w.heap.size ⟨x.kind, A2, q2, x.names, A6, q6, A3, q3, x.data, x.run, st x.stamp, x.target⟩ done (set7 W0 (w.heap.size + 1) (vb x.kind) (.slice A2 x.names.length q2) (.slice A6 ks.length q6) (.slice A3 x.data.length q3) (.bool x.run) (.float .f64 (st x.stamp)) (vs x.target)) := by
  have hlen := h.len
  have hoth := set7_other W0 (w.heap.size + 1) (vb x.kind) (.slice A2 x.names.length q2) (.slice A6 ks.length q6) (.slice A3 x.data.length q3) (.bool x.run) (.float .f64 (st x.stamp)) (vs x.target)
  have hsz := set7_size W0 (w.heap.size + 1) (vb x.kind) (.slice A2 x.names.length q2) (.slice A6 ks.length q6) (.slice A3 x.data.length q3) (.bool x.run) (.float .f64 (st x.stamp)) (vs x.target)
  have hbk := set7_blk h.an.b4 rfl (vb x.kind) (.slice A2 x.names.length q2) (.slice A6 ks.length q6) (.slice A3 x.data.length q3) (.bool x.run) (.float .f64 (st x.stamp)) (vs x.target)
  have hbe := set7_below h.an.below (w.heap.size + 1) (by omega) (vb x.kind) (.slice A2 x.names.length q2) (.slice A6 ks.length q6) (.slice A3 x.data.length q3) (.bool x.run) (.float .f64 (st x.stamp)) (vs x.target)
  generalize (set7 W0 (w.heap.size + 1) (vb x.kind) (.slice A2 x.names.length q2) (.slice A6 ks.length q6) (.slice A3 x.data.length q3) (.bool x.run) (.float .f64 (st x.stamp)) (vs x.target)) = W9 at *
  have hn : Strs W9 (w.heap.size + 2) (.slice A2 x.names.length q2) x.names := own_same h.ns fun c h1 _ => hoth c (by omega)
  have hd : W9.ownsRow (w.heap.size + 2) 5 1 (.slice A3 x.data.length q3) x.data.length (x.data.map vb) := own_same h.ds fun c h1 _ => hoth c (by omega)
  have hr : Nodes W9 (w.heap.size + 2) (.slice A6 ks.length q6) done := by
    have := own_same h.row fun c h1 _ => hoth c (by omega)
    rw [List.drop_length, List.append_nil] at this; exact this
  have hown : Own3 w.heap.size ⟨x.kind, A2, q2, x.names, A6, q6, A3, q3, x.data, x.run, st x.stamp, x.target⟩ done W9 := ⟨own_weak hn (by omega), own_weak hd (by omega), own_weak (by show Nodes W9 (w.heap.size + 2) (.slice A6 done.length q6) done; rw [hlen]; exact hr) (by omega)⟩
  obtain ⟨An, cn, hv1, hns, hnn, hnc, hnb⟩ := hn.src
  obtain ⟨Ad, cd, hv2, hds, hdn, hdc, hdb⟩ := own_src hd rfl
  obtain ⟨Ak, ck, hv3, hks, hkn, hkc, hkb⟩ := hr.src
  simp only [Value.slice.injEq] at hv1 hv2 hv3
  obtain ⟨rfl, -, rfl⟩ := hv1
  obtain ⟨rfl, -, rfl⟩ := hv2
  obtain ⟨rfl, -, rfl⟩ := hv3
  refine ⟨?_, .mk _ _ ⟨hns, fun _ a ha => (hnb a ha).2, hnn, hnc, hx.nlen, hx.neach, hds, fun _ a ha => (hdb a ha).2, hdn, hdc, hx.dlen, hst, hx.tlen, hkn⟩ (by rw [hlen]; exact hkl) (by exact hkc) hks (fun k hk => ?_), .mk _ _ (fun _ a ha => by have := (hnb a ha).1; omega) (fun _ a ha => by have := (hdb a ha).1; omega) (fun _ a ha => by have := (hkb a ha).1; omega) (fun k hk => ((h.oks k hk).2).mono fun c hc => by have := hc.1; omega), .mk _ _ _ _ rfl rfl rfl rfl rfl rfl hlen (fun i h1 h2 => h.alike i h1 h2), hbe, hown⟩
  · show Blk W9 (w.heap.size + 1) 27 [vb x.kind, .slice A2 x.names.length q2, .slice A6 done.length q6, .slice A3 x.data.length q3, .bool x.run, .float .f64 (st x.stamp), vs x.target]
    rw [hlen]; exact hbk
  · exact (h.oks k hk).1.turn (h.oks k hk).2 (fun c hc _ => hoth c (by have := hc.1; omega)) (fun c _ hl => by rw [hsz]; exact hl)
set_option maxHeartbeats 8000000 in
theorem another_of (fn : Nat) (st : Nat → Nat) (hst : Stamp fn st) (top : Nat) : ∀ t, AnotherOf fn st top t := by
  refine T.ind fun x ks IH => ?_
  intro w htop hok hcn hfew hsize
  show Calls Try.prog 61 #[nv x ks.length, .func (.func fn) #[] #[]] w _
  have hkl : ks.length ≤ 90000 := by have := len_le_count ks; rw [count_mk] at hcn; omega
  have hnl := hfew.top
  have hst0 := hok.hd.stamp
  have hdl : x.data.length ≤ 90000 := by unfold size at hsize; rw [all] at hsize; simp [T.hd] at hsize; omega
  have HSZ : Hid (∀ k ∈ ks, size k ≤ 90000) := fun k hk => Nat.le_trans (size_kid hk) hsize
  have HIH := Lib.hid IH; have HOK := Lib.hid hok; have HCN := Lib.hid hcn; have HF := Lib.hid hfew; have HST := Lib.hid hst
  have hen := hst.enters
  clear IH hok hcn hfew hst
  go_enter Try.func61, Try.ntmps61
  go_upto_region 1 with fail
  have hA1 : An w x (.slice x.na x.names.length x.nc) (.slice x.ka ks.length x.kc) (.slice x.da x.data.length x.dc) x.stamp ((w.alloc (.cells #[vb x.kind, .slice x.na x.names.length x.nc, .slice x.ka ks.length x.kc, .slice x.da x.data.length x.dc, .bool x.run, .float .f64 x.stamp, vs x.target] 27)).alloc (.cells #[.int .u8 0, .slice none 0 0, .slice none 0 0, .slice none 0 0, .bool false, .float .f64 0, .string ⟨#[]⟩] 27)) :=
    ⟨(Blk.new w 27 _).alloc _, by have := Blk.new (w.alloc (.cells #[vb x.kind, .slice x.na x.names.length x.nc, .slice x.ka ks.length x.kc, .slice x.da x.data.length x.dc, .bool x.run, .float .f64 x.stamp, vs x.target] 27)) 27 #[.int .u8 0, .slice none 0 0, .slice none 0 0, .slice none 0 0, .bool false, .float .f64 0, .string ⟨#[]⟩]; rw [World.size_alloc] at this; exact this, ((Below.refl _ _).alloc (Nat.le_refl _) _).alloc (by simp) _⟩
  generalize (w.alloc (.cells #[vb x.kind, .slice x.na x.names.length x.nc, .slice x.ka ks.length x.kc, .slice x.da x.data.length x.dc, .bool x.run, .float .f64 x.stamp, vs x.target] 27)).alloc (.cells #[.int .u8 0, .slice none 0 0, .slice none 0 0, .slice none 0 0, .bool false, .float .f64 0, .string ⟨#[]⟩] 27) = W1 at *
  have HA1 := Lib.hid hA1
  have c1 := hA1.b2.cell 1; have f1 := hA1.b2.frozen 1; have hl1 := hA1.b2.lt; have hm1 := hA1.b4.lt
  simp only [List.getElem?_cons_zero, List.getElem?_cons_succ] at c1
  clear hA1
  go_wp2_with fail
  refine (cloneS_any x.na x.nc x.names W1 (HOK.out.hd.nsrc.below HA1.out.below HOK.out.hd.nsrc.lt) HOK.out.hd.nnil hnl).mono ?_
  rintro e w2 ⟨v2, rfl, hn2, hb2⟩
  obtain ⟨A2, q2, hv2, -, -, -, -⟩ := Strs.src hn2
  subst hv2
  have HA2 := Lib.hid ((HA1.out.keep hb2).set1 (.slice A2 x.names.length q2))
  have HS2 : Hid (Strs (w2.setCell ⟨w.heap.size, 1, none⟩ (.slice A2 x.names.length q2)) (w.heap.size + 2) (.slice A2 x.names.length q2) x.names) := own_set (own_weak hn2 (by omega)) (by omega)
  have hk2 := HA1.out.keep hb2
  clear c1 f1
  have c1 := hk2.b2.cell 1; have c3 := hk2.b2.cell 3; have f1 := hk2.b2.frozen 1; have f3 := hk2.b2.frozen 3; have hl2 := hk2.b2.lt; have hm2 := hk2.b4.lt
  simp only [List.getElem?_cons_zero, List.getElem?_cons_succ] at c1 c3
  clear hk2 hn2 hb2 HA1 hl1 hm1
  go_wp2_with fail
  refine (cloneB_any x.da x.dc x.data (w2.setCell ⟨w.heap.size, 1, none⟩ (.slice A2 x.names.length q2)) (HOK.out.hd.dsrc.below HA2.out.below) HOK.out.hd.dnil (by omega)).mono ?_
  rintro e w3 ⟨v3, rfl, hn3, hb3⟩
  obtain ⟨A3, q3, hv3, -, -, -, -⟩ := own_src hn3 rfl
  subst hv3
  have hz2 : ((w2.setCell ⟨w.heap.size, 1, none⟩ (.slice A2 x.names.length q2))).heap.size = w2.heap.size := World.size_setCell _ _ _
  have hk3 := HA2.out.keep hb3
  have HA3 := Lib.hid (hk3.set3 (.slice A3 x.data.length q3))
  have HS3 : Hid (Strs (w3.setCell ⟨w.heap.size, 3, none⟩ (.slice A3 x.data.length q3)) (w.heap.size + 2) (.slice A2 x.names.length q2) x.names) := own_set (own_below HS2.out hb3) (by omega)
  have HD3 : Hid ((w3.setCell ⟨w.heap.size, 3, none⟩ (.slice A3 x.data.length q3)).ownsRow (w.heap.size + 2) 5 1 (.slice A3 x.data.length q3) x.data.length (x.data.map vb)) := own_set (own_weak hn3 (by rw [hz2]; omega)) (by omega)
  clear c1 c3 f1 f3
  have c3 := hk3.b2.cell 3; have c5 := hk3.b2.cell 5; have f3 := hk3.b2.frozen 3; have f5 := hk3.b2.frozen 5; have hl3 := hk3.b2.lt; have hm3 := hk3.b4.lt
  simp only [List.getElem?_cons_zero, List.getElem?_cons_succ] at c3 c5
  clear hk3 hn3 hb3 HA2 HS2 hl2 hm2 hz2
  go_wp2_with fail
  generalize w3.setCell ⟨w.heap.size, 3, none⟩ (.slice A3 x.data.length q3) = W4 at *
  clear c3 c5 f3 f5 hl3 hm3
  have c5 := HA3.out.b2.cell 5; have c2 := HA3.out.b2.cell 2; have f5 := HA3.out.b2.frozen 5; have f2 := HA3.out.b2.frozen 2; have hl4 := HA3.out.b2.lt; have hm4 := HA3.out.b4.lt
  simp only [List.getElem?_cons_zero, List.getElem?_cons_succ] at c5 c2
  refine (HST.out.call x.stamp W4 hst0).mono ?_
  rintro e w5 ⟨rfl, rfl⟩
  have HA5 := Lib.hid (HA3.out.set5 (st x.stamp))
  have HS5 : Hid (Strs (W4.setCell ⟨w.heap.size, 5, none⟩ (.float .f64 (st x.stamp))) (w.heap.size + 2) (.slice A2 x.names.length q2) x.names) := own_set HS3.out (by omega)
  have HD5 : Hid ((W4.setCell ⟨w.heap.size, 5, none⟩ (.float .f64 (st x.stamp))).ownsRow (w.heap.size + 2) 5 1 (.slice A3 x.data.length q3) x.data.length (x.data.map vb)) := own_set HD3.out (by omega)
  have HSL := Lib.hid (HST.out.lt x.stamp hst0)
  have hz5 : (W4.setCell ⟨w.heap.size, 5, none⟩ (.float .f64 (st x.stamp))).heap.size = W4.heap.size := World.size_setCell _ _ _
  clear HA3 HS3 HD3
  go_wp2_with fail
  generalize W4.setCell ⟨w.heap.size, 5, none⟩ (.float .f64 (st x.stamp)) = W5 at *
  clear c5 c2 f5 f2 hl4 hm4 hz5
  have hl5 := HA5.out.b2.lt; have hm5 := HA5.out.b4.lt
  refine (cloneN_any x.ka x.kc top ks W5 (HOK.out.at.below (HA5.out.below.mono htop)) (by omega) HOK.out.hd.knil (by omega)).mono ?_
  rintro e w6 ⟨v6, rfl, hn6, hb6⟩
  obtain ⟨A6, q6, hv6, -, hA6n, hq6, hA6b⟩ := Nodes.src hn6
  subst hv6
  have hk6 := HA5.out.keep hb6
  have HA7 := Lib.hid (hk6.set2 (.slice A6 ks.length q6))
  have HS7 : Hid (Strs (w6.setCell ⟨w.heap.size, 2, none⟩ (.slice A6 ks.length q6)) (w.heap.size + 2) (.slice A2 x.names.length q2) x.names) := own_set (own_below HS5.out hb6) (by omega)
  have HD7 : Hid ((w6.setCell ⟨w.heap.size, 2, none⟩ (.slice A6 ks.length q6)).ownsRow (w.heap.size + 2) 5 1 (.slice A3 x.data.length q3) x.data.length (x.data.map vb)) := own_set (own_below HD5.out hb6) (by omega)
  have HN7 : Hid (Nodes (w6.setCell ⟨w.heap.size, 2, none⟩ (.slice A6 ks.length q6)) (w.heap.size + 2) (.slice A6 ks.length q6) ks) := own_set (own_weak hn6 (by omega)) (by omega)
  have c2 := hk6.b2.cell 2; have f2 := hk6.b2.frozen 2; have hl6 := hk6.b2.lt; have hm6 := hk6.b4.lt
  simp only [List.getElem?_cons_zero, List.getElem?_cons_succ] at c2
  clear hk6 hn6 hb6 HA5 HS5 HD5
  go_upto_region 5 with fail
  generalize w6.setCell ⟨w.heap.size, 2, none⟩ (.slice A6 ks.length q6) = W7 at *
  clear c2 f2 hl6 hm6
  have HL0 : Hid (∃ done, LoopRel w st x ks (.slice A2 x.names.length q2) (.slice A3 x.data.length q3) A6 q6 0 done W7) := ⟨[], HA7.out, HS7.out, HD7.out, HN7.out, rfl, (fun k hk => by cases hk), (fun j h1 h2 => by simp at h2), fun a ha => by
    subst ha
    exact ⟨fun e => own_types HS7.out HN7.out (by decide) e rfl, fun e => own_types HD7.out HN7.out (by decide) e rfl⟩⟩
  have c2 := HA7.out.b2.cell 2
  simp only [List.getElem?_cons_zero, List.getElem?_cons_succ] at c2
  clear HA7 HS7 HD7 HN7 hA6n hq6 hA6b
  go_wp2_with fail
  go_loopw [27] (fun vi wr => ∃ i : Nat, i ≤ ks.length ∧ vi = .int .i64 i ∧ Hid (∃ done, LoopRel w st x ks (.slice A2 x.names.length q2) (.slice A3 x.data.length q3) A6 q6 i done wr)) (fun vi _ => ks.length - (intOf vi).toNat)
  case atStart => exact ⟨0, by omega, rfl, HL0.out⟩
  case round =>
    obtain ⟨i, hi, rfl, HP⟩ := hrel
    rename World => W0
    obtain ⟨done, hlr⟩ := HP.out
    have HL := Lib.hid hlr
    clear hlr HP HL0 c2
    by_cases hlt : i < ks.length
    · have hlen := HL.out.len
      obtain ⟨g, c', hv, hgb, hgl, -, hcells, -⟩ := HL.out.row.at (by simp; omega)
      simp only [Value.slice.injEq] at hv
      obtain ⟨hA, -, -⟩ := hv
      subst hA
      have hci := hcells i (by simp; omega)
      have hel : (done ++ ks.drop i)[i]'(by simp; omega) = ks[i] := by
        rw [List.getElem_append_right (by omega)]; simp [hlen]
      rw [hel] at hci
      have HC0 : Hid (∀ W', Below w.heap.size w W' → Calls Try.prog 61 #[val ks[i], .func (.func fn) #[] #[]] W' (AnPost st ks[i] W')) := fun W' hW => by
        have h1 := all_count_le (x := x) i hlt
        have h2 := HCN.out
        exact HIH.out ks[i] (List.getElem_mem _) W' (by have := hW.size; omega) ((HOK.out.kid (List.getElem_mem hlt)).keep (hW.mono htop)) (by omega) (HF.out.kid (List.getElem_mem hlt)) (HSZ.out ks[i] (List.getElem_mem _))
      clear hcells hel
      obtain ⟨y, ly, hky⟩ : ∃ y ly, ks[i] = T.mk y ly := by cases ks[i]; exact ⟨_, _, rfl⟩
      rw [hky] at hci
      obtain ⟨k0, k1, k2, k3, k4, k5, k6⟩ := CellsAt.seven (x := y) (n := ly.length) hci
      have hl2 := HL.out.an.b2.lt
      have hw0 := HL.out.an.below.size
      have c2 := HL.out.an.b2.cell 2
      simp only [List.getElem?_cons_zero, List.getElem?_cons_succ] at c2
      have HC : Hid (∀ W', Below w.heap.size w W' → Calls Try.prog 61 #[nv y ly.length, .func (.func fn) #[] #[]] W' fun e w' => ∃ z lz, e = .returned (nv z lz.length) ∧ Ok w' w'.heap.size (.mk z lz) ∧ InS (fun c => W'.heap.size ≤ c) (.mk z lz) ∧ Alike st ks[i] (.mk z lz) ∧ Below W'.heap.size W' w') := fun W' hW => by
        have := HC0.out W' hW
        rw [hky] at this ⊢
        exact this.mono fun e w' ⟨z, lz, h1, h2, h3, h4, h5, _⟩ => ⟨z, lz, h1, h2, h3, h4, h5⟩
      clear HC0 hci hky
      go_upto_region 8 with fail
      have hB1 : Below W0.heap.size W0 (W0.alloc (.cells #[vb y.kind, .slice y.na y.names.length y.nc, .slice y.ka ly.length y.kc, .slice y.da y.data.length y.dc, .bool y.run, .float .f64 y.stamp, vs y.target] 27)) := (Below.refl _ _).alloc (Nat.le_refl _) _
      have HX1 : Hid (LoopRel w st x ks (.slice A2 x.names.length q2) (.slice A3 x.data.length q3) (some ⟨g, 0, none⟩) q6 i done (W0.alloc (.cells #[vb y.kind, .slice y.na y.names.length y.nc, .slice y.ka ly.length y.kc, .slice y.da y.data.length y.dc, .bool y.run, .float .f64 y.stamp, vs y.target] 27))) := loop_keep HL.out hB1
      have HBX : Hid (Blk (W0.alloc (.cells #[vb y.kind, .slice y.na y.names.length y.nc, .slice y.ka ly.length y.kc, .slice y.da y.data.length y.dc, .bool y.run, .float .f64 y.stamp, vs y.target] 27)) W0.heap.size 27 (cellsT (.mk y ly))) := Blk.new W0 27 _
      have hs1 : (W0.alloc (.cells #[vb y.kind, .slice y.na y.names.length y.nc, .slice y.ka ly.length y.kc, .slice y.da y.data.length y.dc, .bool y.run, .float .f64 y.stamp, vs y.target] 27)).heap.size = W0.heap.size + 1 := by simp
      clear hB1 k0 k1 k2 k3 k4 k5 k6 c2 HL
      generalize W0.alloc (.cells #[vb y.kind, .slice y.na y.names.length y.nc, .slice y.ka ly.length y.kc, .slice y.da y.data.length y.dc, .bool y.run, .float .f64 y.stamp, vs y.target] 27) = W1 at *
      have HCELL : Hid (∀ W, Below W1.heap.size W1 W → W.cell? ⟨w.heap.size, 2, none⟩ = some (.slice (some ⟨g, 0, none⟩) ks.length q6) ∧ W.cell? ⟨W0.heap.size, 0, none⟩ = some (vb y.kind) ∧ W.cell? ⟨W0.heap.size, 1, none⟩ = some (.slice y.na y.names.length y.nc) ∧ W.cell? ⟨W0.heap.size, 2, none⟩ = some (.slice y.ka ly.length y.kc) ∧ W.cell? ⟨W0.heap.size, 3, none⟩ = some (.slice y.da y.data.length y.dc) ∧ W.cell? ⟨W0.heap.size, 4, none⟩ = some (.bool y.run) ∧ W.cell? ⟨W0.heap.size, 5, none⟩ = some (.float .f64 y.stamp) ∧ W.cell? ⟨W0.heap.size, 6, none⟩ = some (vs y.target)) := fun W hW => by
        have h1 := (HX1.out.an.keep hW).b2.cell 2
        have h2 := HBX.out.below hW HBX.out.lt
        exact ⟨h1, h2.cell 0, h2.cell 1, h2.cell 2, h2.cell 3, h2.cell 4, h2.cell 5, h2.cell 6⟩
      have H0 : Hid (Below W1.heap.size W1 W1.drew) := (Below.refl _ _).drew
      have m0 := HCELL.out _ H0.out
      have HW1 := Lib.hid HX1.out.an.below
      have HS1 := Lib.hid hs1
      clear hs1
      have hgW0 : g < W0.heap.size := hgl
      have HRL : Hid ((done ++ ks.drop i).length = ks.length) := by show _ = _; simp; omega
      go_region_held3 (fun W => W.cell? ⟨w.heap.size, 2, none⟩ = some (.slice (some ⟨g, 0, none⟩) ks.length q6) ∧ W.cell? ⟨W0.heap.size, 0, none⟩ = some (vb y.kind) ∧ W.cell? ⟨W0.heap.size, 1, none⟩ = some (.slice y.na y.names.length y.nc) ∧ W.cell? ⟨W0.heap.size, 2, none⟩ = some (.slice y.ka ly.length y.kc) ∧ W.cell? ⟨W0.heap.size, 3, none⟩ = some (.slice y.da y.data.length y.dc) ∧ W.cell? ⟨W0.heap.size, 4, none⟩ = some (.bool y.run) ∧ W.cell? ⟨W0.heap.size, 5, none⟩ = some (.float .f64 y.stamp) ∧ W.cell? ⟨W0.heap.size, 6, none⟩ = some (vs y.target))
        (first | with_reducible exact m0 | with_reducible exact m1 | with_reducible exact m2 | fail)
        (first
          | (go_at_call 61
             refine (HC.out W1.drew (HW1.out.trans (H0.out.mono HW1.out.size))).mono ?_
             rintro e x1 ⟨z, lz, rfl, hok, hin, hal, hb⟩
             have hb' : Below W1.heap.size W1 x1 := H0.out.trans hb
             have HX : Hid (LoopRel w st x ks (.slice A2 x.names.length q2) (.slice A3 x.data.length q3) (some ⟨g, 0, none⟩) q6 i done x1) := loop_keep HX1.out hb'
             have HST2 := Lib.hid (loop_step HX1.out hlt hb' hok hin hal)
             have m1 := HCELL.out _ hb'
             have hbk := HBX.out.below hb' HBX.out.lt
             have hbk2 : Blk (((((((x1.setCell ⟨g, i * 7, none⟩ (vb z.kind)).setCell ⟨g, i * 7 + 1, none⟩ (.slice z.na z.names.length z.nc)).setCell ⟨g, i * 7 + 2, none⟩ (.slice z.ka lz.length z.kc)).setCell ⟨g, i * 7 + 3, none⟩ (.slice z.da z.data.length z.dc)).setCell ⟨g, i * 7 + 4, none⟩ (.bool z.run)).setCell ⟨g, i * 7 + 5, none⟩ (.float .f64 z.stamp)).setCell ⟨g, i * 7 + 6, none⟩ (vs z.target)) W0.heap.size 27 (cellsT (.mk y ly)) := by
               unfold Blk; rw [set7_at_other x1 g i z lz W0.heap.size (by omega)]; exact hbk
             have m2 : (((((((x1.setCell ⟨g, i * 7, none⟩ (vb z.kind)).setCell ⟨g, i * 7 + 1, none⟩ (.slice z.na z.names.length z.nc)).setCell ⟨g, i * 7 + 2, none⟩ (.slice z.ka lz.length z.kc)).setCell ⟨g, i * 7 + 3, none⟩ (.slice z.da z.data.length z.dc)).setCell ⟨g, i * 7 + 4, none⟩ (.bool z.run)).setCell ⟨g, i * 7 + 5, none⟩ (.float .f64 z.stamp)).setCell ⟨g, i * 7 + 6, none⟩ (vs z.target)).cell? ⟨w.heap.size, 2, none⟩ = some (.slice (some ⟨g, 0, none⟩) ks.length q6) ∧ (((((((x1.setCell ⟨g, i * 7, none⟩ (vb z.kind)).setCell ⟨g, i * 7 + 1, none⟩ (.slice z.na z.names.length z.nc)).setCell ⟨g, i * 7 + 2, none⟩ (.slice z.ka lz.length z.kc)).setCell ⟨g, i * 7 + 3, none⟩ (.slice z.da z.data.length z.dc)).setCell ⟨g, i * 7 + 4, none⟩ (.bool z.run)).setCell ⟨g, i * 7 + 5, none⟩ (.float .f64 z.stamp)).setCell ⟨g, i * 7 + 6, none⟩ (vs z.target)).cell? ⟨W0.heap.size, 0, none⟩ = some (vb y.kind) ∧ (((((((x1.setCell ⟨g, i * 7, none⟩ (vb z.kind)).setCell ⟨g, i * 7 + 1, none⟩ (.slice z.na z.names.length z.nc)).setCell ⟨g, i * 7 + 2, none⟩ (.slice z.ka lz.length z.kc)).setCell ⟨g, i * 7 + 3, none⟩ (.slice z.da z.data.length z.dc)).setCell ⟨g, i * 7 + 4, none⟩ (.bool z.run)).setCell ⟨g, i * 7 + 5, none⟩ (.float .f64 z.stamp)).setCell ⟨g, i * 7 + 6, none⟩ (vs z.target)).cell? ⟨W0.heap.size, 1, none⟩ = some (.slice y.na y.names.length y.nc) ∧ (((((((x1.setCell ⟨g, i * 7, none⟩ (vb z.kind)).setCell ⟨g, i * 7 + 1, none⟩ (.slice z.na z.names.length z.nc)).setCell ⟨g, i * 7 + 2, none⟩ (.slice z.ka lz.length z.kc)).setCell ⟨g, i * 7 + 3, none⟩ (.slice z.da z.data.length z.dc)).setCell ⟨g, i * 7 + 4, none⟩ (.bool z.run)).setCell ⟨g, i * 7 + 5, none⟩ (.float .f64 z.stamp)).setCell ⟨g, i * 7 + 6, none⟩ (vs z.target)).cell? ⟨W0.heap.size, 2, none⟩ = some (.slice y.ka ly.length y.kc) ∧ (((((((x1.setCell ⟨g, i * 7, none⟩ (vb z.kind)).setCell ⟨g, i * 7 + 1, none⟩ (.slice z.na z.names.length z.nc)).setCell ⟨g, i * 7 + 2, none⟩ (.slice z.ka lz.length z.kc)).setCell ⟨g, i * 7 + 3, none⟩ (.slice z.da z.data.length z.dc)).setCell ⟨g, i * 7 + 4, none⟩ (.bool z.run)).setCell ⟨g, i * 7 + 5, none⟩ (.float .f64 z.stamp)).setCell ⟨g, i * 7 + 6, none⟩ (vs z.target)).cell? ⟨W0.heap.size, 3, none⟩ = some (.slice y.da y.data.length y.dc) ∧ (((((((x1.setCell ⟨g, i * 7, none⟩ (vb z.kind)).setCell ⟨g, i * 7 + 1, none⟩ (.slice z.na z.names.length z.nc)).setCell ⟨g, i * 7 + 2, none⟩ (.slice z.ka lz.length z.kc)).setCell ⟨g, i * 7 + 3, none⟩ (.slice z.da z.data.length z.dc)).setCell ⟨g, i * 7 + 4, none⟩ (.bool z.run)).setCell ⟨g, i * 7 + 5, none⟩ (.float .f64 z.stamp)).setCell ⟨g, i * 7 + 6, none⟩ (vs z.target)).cell? ⟨W0.heap.size, 4, none⟩ = some (.bool y.run) ∧ (((((((x1.setCell ⟨g, i * 7, none⟩ (vb z.kind)).setCell ⟨g, i * 7 + 1, none⟩ (.slice z.na z.names.length z.nc)).setCell ⟨g, i * 7 + 2, none⟩ (.slice z.ka lz.length z.kc)).setCell ⟨g, i * 7 + 3, none⟩ (.slice z.da z.data.length z.dc)).setCell ⟨g, i * 7 + 4, none⟩ (.bool z.run)).setCell ⟨g, i * 7 + 5, none⟩ (.float .f64 z.stamp)).setCell ⟨g, i * 7 + 6, none⟩ (vs z.target)).cell? ⟨W0.heap.size, 5, none⟩ = some (.float .f64 y.stamp) ∧ (((((((x1.setCell ⟨g, i * 7, none⟩ (vb z.kind)).setCell ⟨g, i * 7 + 1, none⟩ (.slice z.na z.names.length z.nc)).setCell ⟨g, i * 7 + 2, none⟩ (.slice z.ka lz.length z.kc)).setCell ⟨g, i * 7 + 3, none⟩ (.slice z.da z.data.length z.dc)).setCell ⟨g, i * 7 + 4, none⟩ (.bool z.run)).setCell ⟨g, i * 7 + 5, none⟩ (.float .f64 z.stamp)).setCell ⟨g, i * 7 + 6, none⟩ (vs z.target)).cell? ⟨W0.heap.size, 6, none⟩ = some (vs y.target) := ⟨HST2.out.an.b2.cell 2, hbk2.cell 0, hbk2.cell 1, hbk2.cell 2, hbk2.cell 3, hbk2.cell 4, hbk2.cell 5, hbk2.cell 6⟩
             clear hbk hbk2
             have hgx : g < x1.heap.size := (HX.out.row.lt g rfl).2
             obtain ⟨⟨u0, p0⟩, r0⟩ := row_cell HX.out.row HRL.out (i * 7) (by omega)
             obtain ⟨⟨u1, p1⟩, r1⟩ := row_cell HX.out.row HRL.out (i * 7 + 1) (by omega)
             obtain ⟨⟨u2, p2⟩, r2⟩ := row_cell HX.out.row HRL.out (i * 7 + 2) (by omega)
             obtain ⟨⟨u3, p3⟩, r3⟩ := row_cell HX.out.row HRL.out (i * 7 + 3) (by omega)
             obtain ⟨⟨u4, p4⟩, r4⟩ := row_cell HX.out.row HRL.out (i * 7 + 4) (by omega)
             obtain ⟨⟨u5, p5⟩, r5⟩ := row_cell HX.out.row HRL.out (i * 7 + 5) (by omega)
             obtain ⟨⟨u6, p6⟩, r6⟩ := row_cell HX.out.row HRL.out (i * 7 + 6) (by omega)
             clear hok hin hal hb hb' HX)
          | fail)
      clear m0 m1 m2
      go_wp2_with fail
      go_roundw
      case rel => exact ⟨i + 1, by omega, by go_num, _, HST2.out⟩
      case measure => simp [intOf]; omega
    · obtain rfl : i = ks.length := by omega
      have c0 := HL.out.an.b2.cell 0; have c1 := HL.out.an.b2.cell 1; have c2 := HL.out.an.b2.cell 2; have c3 := HL.out.an.b2.cell 3; have c4 := HL.out.an.b2.cell 4; have c5 := HL.out.an.b2.cell 5; have c6 := HL.out.an.b2.cell 6
      have k0 := HL.out.an.b4.cell 0; have k1 := HL.out.an.b4.cell 1; have k2 := HL.out.an.b4.cell 2; have k3 := HL.out.an.b4.cell 3; have k4 := HL.out.an.b4.cell 4; have k5 := HL.out.an.b4.cell 5; have k6 := HL.out.an.b4.cell 6
      have f0 := HL.out.an.b4.frozen 0; have f1 := HL.out.an.b4.frozen 1; have f2 := HL.out.an.b4.frozen 2; have f3 := HL.out.an.b4.frozen 3; have f4 := HL.out.an.b4.frozen 4; have f5 := HL.out.an.b4.frozen 5; have f6 := HL.out.an.b4.frozen 6
      simp only [List.getElem?_cons_zero, List.getElem?_cons_succ] at c0 c1 c2 c3 c4 c5 c6 k0 k1 k2 k3 k4 k5 k6
      have hl4 := HL.out.an.b4.lt
      go_wp2_with fail
      change bodyPost _ _ _ _ _ (set7 W0 (w.heap.size + 1) (vb x.kind) (.slice A2 x.names.length q2) (.slice A6 ks.length q6) (.slice A3 x.data.length q3) (.bool x.run) (.float .f64 (st x.stamp)) (vs x.target))
      obtain ⟨bk, hok9, hin9, hal9, hbe9, hown9⟩ := loop_done HL.out HOK.out.hd (by unfold maxLen; omega) HSL.out
      have hdl9 := HL.out.len
      clear c0 c1 c2 c3 c4 c5 c6 k0 k1 k2 k3 k4 k5 k6 f0 f1 f2 f3 f4 f5 f6 HL
      generalize (set7 W0 (w.heap.size + 1) (vb x.kind) (.slice A2 x.names.length q2) (.slice A6 ks.length q6) (.slice A3 x.data.length q3) (.bool x.run) (.float .f64 (st x.stamp)) (vs x.target)) = W9 at *
      have e0 := bk.cell 0; have e1 := bk.cell 1; have e2 := bk.cell 2; have e3 := bk.cell 3; have e4 := bk.cell 4; have e5 := bk.cell 5; have e6 := bk.cell 6
      simp only [cellsT, cellsOf, List.getElem?_cons_zero, List.getElem?_cons_succ] at e0 e1 e2 e3 e4 e5 e6
      exact bodyPost_ret (v := nv ⟨x.kind, A2, q2, x.names, A6, q6, A3, q3, x.data, x.run, st x.stamp, x.target⟩ done.length) (by simp [results, Try.results61, go_sem, e0, e1, e2, e3, e4, e5, e6]) rfl ⟨_, done, rfl, hok9, hin9, hal9, hbe9, hown9⟩
end Go.Proofs.Ytlehgacbcacokaa
