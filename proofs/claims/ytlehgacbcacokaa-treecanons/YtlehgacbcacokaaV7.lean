/- The contracts of Stamps, the program's and the reference's. -/
import Derived.Test.YtlehgacbcacokaaV6
import Derived.Test.YtlehgacbcacokaaW11
import Derived.Test.YtlehgacbcacokaaV2
namespace Go.Proofs.Ytlehgacbcacokaa
open Go.RowKit TreeMath RealMath

abbrev vf (x : Nat) : Value := .float .f64 x
theorem info25 : (Try.prog.info? 25).map (fun i => (i.zero, i.size, i.bytes)) = some (some (.float .f64 0), 1, 8) := by kernel_rfl
/-- numbers at a place -/
def FlIs (w : World) (A : Option Addr) (l : List Nat) : Prop := 0 < l.length → ∃ b o, A = some ⟨b, o, none⟩ ∧ ∀ k (h : k < l.length), w.cell? ⟨b, o + k, none⟩ = some (vf l[k])
theorem FlIs.below {w w' : World} {A : Option Addr} {l : List Nat} (h : FlIs w A l) (hb : Below w.heap.size w w') : FlIs w' A l := fun h0 => by
  obtain ⟨b, o, rfl, hc⟩ := h h0
  refine ⟨b, o, rfl, fun k hk => ?_⟩
  rw [hb.cell (p := ⟨b, o + k, none⟩) (block_of_cell (hc k hk))]; exact hc k hk
/-- a row of numbers of one's own -/
def Flts (w : World) (base : Nat) (v : Value) (l : List Nat) : Prop := w.ownsRow base 25 1 v l.length (l.map vf)
theorem Flts.src {w : World} {base : Nat} {v : Value} {l : List Nat} (h : Flts w base v l) : ∃ A c, v = .slice A l.length c ∧ FlIs w A l ∧ (A = none → c = 0) := by
  rcases h.2 with ⟨hv, h0⟩ | ⟨g, cap, cur, hv, hg, hc, hn, _, hs, ht⟩
  · have : l = [] := List.eq_nil_of_length_eq_zero h0
    subst this
    exact ⟨none, 0, hv, fun h => absurd h (by simp), fun _ => rfl⟩
  · subst hv
    rw [Nat.mul_one] at ht
    have hb : Blk w g 25 (l.map vf ++ cur.toList.drop l.length) := by rw [← ht, List.take_append_drop]; exact hc
    refine ⟨some ⟨g, 0, none⟩, cap, rfl, fun _ => ⟨g, 0, rfl, fun k hk => ?_⟩, (fun h => by cases h)⟩
    rw [Nat.zero_add, hb.cell, List.getElem?_append_left (by simpa using hk)]; simp [hk]
/-- APPENDED TO A ROW OF ONE's OWN: what there is then, and where -/
theorem run_append_at {w : World} {t e : TypeId} {z : Value} {size k : Nat} {ty : TypeId} (ht : Try.prog.underlying t = some (.slice e)) (hinf : (Try.prog.info? e).map (fun i => (i.zero, i.size, i.bytes)) = some (some z, size, k)) (hzs : z.cells.size = size) (h0 : 0 < size)
    (base : Nat) (v : Value) (n : Nat) (xs : List Value) (hown : w.ownsRow base e size v n xs) (ad : Addr) (m c : Nat) (ns : List Value) (hns : ns.length = m * size) (hsrc : ∀ j u, ns[j]? = some u → w.cell? (ad.add j) = some u) (h1 : ∀ u ∈ ns, u.oneCell' = true)
    (h63 : n + m ≤ 1000000) (hk : k ≤ 1000) (hbase : base ≤ w.heap.size) :
    ∃ v' w', (Builtin.append_ #[t, t] ty #[v, .slice (some ad) m c]).run Try.prog w = .ok v' w' ∧ w'.ownsRow base e size v' (n + m) (xs ++ ns) ∧ w.grownBy w' v.ownBlock ∧ (∀ k, v'.ownBlock = some k → v.ownBlock = some k ∨ w.heap.size ≤ k) := by
  obtain ⟨i0, hi, hz0, hz1, hz2⟩ := info_parts hinf
  have hby : (n + m) * k ≤ 140737488355328 := Nat.le_trans (Nat.mul_le_mul h63 hk) (by decide)
  obtain ⟨v', w', hr, ho, hg, _⟩ := run_append_own (P := Try.prog) w base t ty e i0 z size k ht hi hz0 hz1 hz2 hzs h0 v n xs hown ad m c ns hns hsrc h1 (by unfold maxLen; omega) hby hbase
  refine ⟨v', w', hr, ho, hg, ?_⟩
  rcases hown.2 with ⟨rfl, hz⟩ | ⟨g, cap, cur, rfl, _, hgc, hnc, hcm, hcs, htk⟩
  · obtain ⟨v2, w2, hr2, ho2, _, _⟩ := run_append_own (P := Try.prog) w w.heap.size t ty e i0 z size k ht hi hz0 hz1 hz2 hzs h0 (.slice none 0 0) n xs ⟨hown.1, .inl ⟨rfl, hz⟩⟩ ad m c ns hns hsrc h1 (by unfold maxLen; omega) hby (Nat.le_refl _)
    rw [hr] at hr2
    injection hr2 with e1 e2
    subst e1 e2
    exact fun k hk => .inr (ho2.lt k hk).1
  · by_cases hroom : n + m ≤ cap
    · have hr2 := run_append_room (P := Try.prog) w t ty e i0 ht hi g n cap cur hgc ad m c ns (by rw [hz1]; exact hns) hsrc h1 hroom (by rw [hz1, hns, ← Nat.add_mul]; exact Nat.le_trans (Nat.mul_le_mul_right _ hroom) (Nat.le_of_eq hcs.symm))
      rw [hr] at hr2
      injection hr2 with e1 e2
      subst e1
      intro k hk
      exact .inl hk
    · have hr2 := run_append_grow (P := Try.prog) w t ty e i0 z ht hi hz0 ⟨g, 0, none⟩ n cap xs (by rw [hz1]; exact hown.1) (hown.cells (g := g) rfl) ad m c ns (by rw [hz1]; exact hns) hsrc (by omega) (by omega) (growslice_fits (by omega) (by rw [hz2]; exact hby))
      rw [hr] at hr2
      injection hr2 with e1 e2
      subst e1
      intro k hk
      simp [Value.ownBlock] at hk
      omega
theorem wpList_append_fl {w : World} {ops : Array Oper} {rest : List Oper} {o : Oper} {a : Act} {Q : Exit → Act → World → Prop} (hgd : o.guard = none) (s x : Operand)
    (ho : o.op = .call { callee := .builtin .append, args := #[s, x], argTypes := #[41, 41] }) (base : Nat) (v : Value) (xs : List Nat) (hs : a.eval s = v) (hown : Flts w base v xs)
    (y : Nat) (g : Nat) (hx : a.eval x = .slice (some ⟨g, 0, none⟩) 1 1) (hA : w.cell? ⟨g, 0, none⟩ = some (vf y)) (hbd : xs.length + 1 ≤ 1000000) (hbase : base ≤ w.heap.size)
    (h : ∀ v' w', Flts w' base v' (xs ++ [y]) → w.grownBy w' v.ownBlock → (∀ k, v'.ownBlock = some k → v.ownBlock = some k ∨ w.heap.size ≤ k) → wpList Try.prog ops Q rest (a.put o.dst v') w') : wpList Try.prog ops Q (o :: rest) a w := by
  refine wpList_plain hgd fun K hK => ?_
  obtain ⟨v', w', hr, h1, h2, h3⟩ := run_append_at (ty := o.type) Try.underlying41 info25 rfl (by decide) base v xs.length (xs.map vf) hown ⟨g, 0, none⟩ 1 1 [vf y] rfl (fun j u hj => by
    have : j = 0 := by have := (List.getElem?_eq_some_iff.1 hj).1; simpa using this
    subst this
    rw [Addr.add_mid, Nat.zero_add, hA]; exact hj) (fun u hu => by simp at hu; subst hu; rfl) hbd (by decide) hbase
  unfold Oper.wp execOp
  simp only [ho, resolve, invoke, builtin, Sem.run_bind, Sem.run_pure, Result.andThen_ok, List.map_toArray, List.map_cons, List.map_nil, hs, hx, hr]
  exact hK _ _ (h v' w' (by unfold Flts; rw [List.length_append, List.map_append]; exact h1) h2 h3)
/-- the stamps of the files -/
def stampStep (s : List Nat) (t : T) (_ : Nat) : List Nat := if t.hd.kind = 2 then s ++ [t.hd.stamp] else s
def stampsL (l : List T) : List Nat := (l.filter fun k => decide (k.hd.kind = 2)).map fun k => k.hd.stamp
def stampsT (t : T) : List Nat := stampsL (all t)
theorem stamps_fold : ∀ (l : List (T × Nat)) (s : List Nat), l.foldl (fun s p => stampStep s p.1 p.2) s = s ++ stampsL (l.map Prod.fst)
  | [], s => by simp [stampsL]
  | (t, d) :: l, s => by
    rw [List.foldl_cons, stamps_fold l, List.map_cons]
    unfold stampStep stampsL
    by_cases h : t.hd.kind = 2
    · simp [h]
    · simp [h]
theorem stampsL_take (l : List T) (i : Nat) (h : i < l.length) : stampsL (l.take (i + 1)) = if l[i].hd.kind = 2 then stampsL (l.take i) ++ [l[i].hd.stamp] else stampsL (l.take i) := by
  rw [List.take_succ_eq_append_getElem h]
  generalize l.take i = a
  generalize l[i] = b
  unfold stampsL
  by_cases h2 : b.hd.kind = 2 <;> simp [h2]
theorem stampsL_le (l : List T) : (stampsL l).length ≤ l.length := by unfold stampsL; rw [List.length_map]; exact List.length_filter_le _ _
structure StR (G : Nat) (s : List Nat) (w : World) : Prop where
  ex : ∃ v, Blk w G 41 [v] ∧ Flts w (G + 1) v s
def stOwn (G : Nat) (w : World) (c : Nat) : Prop := c = G ∨ ∃ v, w.cell? ⟨G, 0, none⟩ = some v ∧ v.ownBlock = some c
theorem stOwn_of {G : Nat} {w : World} {v : Value} (hb : Blk w G 41 [v]) : stOwn G w = fun c => c = G ∨ v.ownBlock = some c := by
  funext c
  have hc := hb.cell 0
  simp only [List.getElem?_cons_zero] at hc
  refine propext ⟨fun h => ?_, fun h => ?_⟩
  · rcases h with h | ⟨u, hu, h⟩
    · exact .inl h
    · rw [hc] at hu; cases hu; exact .inr h
  · rcases h with h | h
    · exact .inl h
    · exact .inr ⟨v, hc, h⟩
set_option maxHeartbeats 4000000 in
theorem see_stamps (G top : Nat) (hG : top ≤ G) : See0W 63 (.pointer (some ⟨G, 0, none⟩)) top stampStep List.length (StR G) (stOwn G) := by
  refine ⟨?_, enters_of Try.func63 (by kernel_rfl) rfl, ?_, ?_, ?_, ?_, ?_⟩
  · intro s x ks d w htop hd hln hR hok
    obtain ⟨v, hbk, hfl⟩ := hR.ex
    have hlt := hbk.lt
    have HOW := Lib.hid (stOwn_of hbk)
    obtain ⟨A, c, rfl, -, -⟩ := hfl.src
    have hB : Below w.heap.size w (w.alloc (.cells #[vb x.kind, .slice x.na x.names.length x.nc, .slice x.ka ks.length x.kc, .slice x.da x.data.length x.dc, .bool x.run, .float .f64 x.stamp, vs x.target] 27)) := (Below.refl _ _).alloc (Nat.le_refl _) _
    have HB := Lib.hid hB
    have HBK := Lib.hid (hbk.below hB hlt); have HFL : Hid (Flts (w.alloc (.cells #[vb x.kind, .slice x.na x.names.length x.nc, .slice x.ka ks.length x.kc, .slice x.da x.data.length x.dc, .bool x.run, .float .f64 x.stamp, vs x.target] 27)) (G + 1) (.slice A s.length c) s) := own_below hfl hB
    have HX := Lib.hid (Blk.new w 27 #[vb x.kind, .slice x.na x.names.length x.nc, .slice x.ka ks.length x.kc, .slice x.da x.data.length x.dc, .bool x.run, .float .f64 x.stamp, vs x.target])
    have hz : (w.alloc (.cells #[vb x.kind, .slice x.na x.names.length x.nc, .slice x.ka ks.length x.kc, .slice x.da x.data.length x.dc, .bool x.run, .float .f64 x.stamp, vs x.target] 27)).heap.size = w.heap.size + 1 := by simp
    clear hbk hfl hR hok hB
    show Calls Try.prog 63 #[nv x ks.length, _, _] w _
    go_enter Try.func63, Try.ntmps63
    go_upto_region 1 with fail
    generalize hW : w.alloc (.cells #[vb x.kind, .slice x.na x.names.length x.nc, .slice x.ka ks.length x.kc, .slice x.da x.data.length x.dc, .bool x.run, .float .f64 x.stamp, vs x.target] 27) = W1 at *
    clear hW
    have c0 := HX.out.cell 0; have c5 := HX.out.cell 5; have cg := HBK.out.cell 0; have fg := HBK.out.frozen 0
    simp only [List.getElem?_cons_zero, List.getElem?_cons_succ] at c0 c5 cg
    by_cases hk : x.kind = 2
    · have hk' : ((x.kind.toNat : Int) == 2) = true := by rw [hk]; rfl
      have HST : Hid (stampStep s (.mk x ks) d = s ++ [x.stamp]) := by show _ = _; unfold stampStep; rw [if_pos (show (T.mk x ks).hd.kind = 2 from hk)]; rfl
      clear hk
      have HFA : Hid (Flts (W1.alloc (.cells #[vf x.stamp] 25)) (G + 1) (.slice A s.length c) s) := own_below HFL.out ((Below.refl _ _).alloc (Nat.le_refl _) _)
      have HCA : Hid ((W1.alloc (.cells #[vf x.stamp] 25)).cell? ⟨w.heap.size + 1, 0, none⟩ = some (vf x.stamp)) := by have := (Blk.new W1 25 #[vf x.stamp]).cell 0; rw [hz] at this; exact this
      go_wp2_with (refine wpList_append_fl rfl (.tmp 8) (.tmp 11) rfl (G + 1) (.slice A s.length c) s rfl HFA.out x.stamp (w.heap.size + 1) rfl HCA.out (by omega) (by simp; omega) ?_)
      intro v' w' h1 h2 h3
      obtain ⟨A', c', rfl, -, -⟩ := h1.src
      have hb2 : Blk (W1.alloc (.cells #[vf x.stamp] 25)) G 41 [.slice A s.length c] := HBK.out.alloc _
      have hb3 : Blk w' G 41 [.slice A s.length c] := by
        unfold Blk; rw [h2.block G hb2.lt (fun e => by have := (HFA.out.lt G e.symm).1; omega)]; exact hb2
      have cg' := hb3.cell 0; have fg' := hb3.frozen 0; have hl' := hb3.lt
      simp only [List.getElem?_cons_zero] at cg'
      have HR' : Hid (StR G (s ++ [x.stamp]) (w'.setCell ⟨G, 0, none⟩ (.slice A' (s ++ [x.stamp]).length c'))) := ⟨_, hb3.set 0 _, own_set h1 (by omega)⟩
      have HT' : Hid (Turned (stOwn G w) (stOwn G (w'.setCell ⟨G, 0, none⟩ (.slice A' (s ++ [x.stamp]).length c'))) w (w'.setCell ⟨G, 0, none⟩ (.slice A' (s ++ [x.stamp]).length c'))) := by
        have hsz : w.heap.size ≤ w'.heap.size := by have := h2.size; simp at this; omega
        refine ⟨h2.os.trans HB.out.os, h2.tape.trans HB.out.tape, h2.output.trans HB.out.output, by rw [World.size_setCell]; exact hsz, fun k hk hn => ?_, fun k hk => ?_⟩
        · rw [HOW.out] at hn
          simp only [not_or] at hn
          rw [Below.heap_setCell w' ⟨G, 0, none⟩ _ k (fun e => hn.1 e), h2.block k (by simp; omega) (fun e => hn.2 e.symm)]
          exact (((Below.refl W1.heap.size W1).alloc (Nat.le_refl _) (.cells #[vf x.stamp] 25)).block k (by omega)).trans (HB.out.block k hk)
        · rw [stOwn_of (hb3.set 0 (.slice A' (s ++ [x.stamp]).length c'))] at hk
          rw [HOW.out]
          rcases hk with e | e
          · exact .inl (.inl e)
          · rcases h3 k e with e2 | e2
            · exact .inl (.inr e2)
            · exact .inr (by have := World.size_alloc W1 (.cells #[vf x.stamp] 25); omega)
      rw [List.length_append, List.length_singleton] at HR' HT'
      clear h1 h2 h3 hb2 hb3 HCA c0 c5 cg fg
      go_wp2_with fail
      exact bodyPost_end (v := .tuple #[]) (by simp [results, Try.results63]) rfl ⟨rfl, by rw [HST.out]; exact HR'.out, HT'.out⟩
    · have hk' : ((x.kind.toNat : Int) == 2) = false := by rw [show (2 : Int) = ((2 : By).toNat : Int) from rfl, vb_eq]; exact decide_eq_false hk
      have HST : Hid (stampStep s (.mk x ks) d = s) := by show _ = _; unfold stampStep; rw [if_neg (show ¬ (T.mk x ks).hd.kind = 2 from hk)]
      have HT' : Hid (Turned (stOwn G w) (stOwn G W1) w W1) := by
        rw [HOW.out, stOwn_of HBK.out]; exact Turned.of_below HB.out
      clear hk
      go_wp2_with fail
      exact bodyPost_end (v := .tuple #[]) (by simp [results, Try.results63]) rfl ⟨rfl, by rw [HST.out]; exact ⟨_, HBK.out, HFL.out⟩, HT'.out⟩
  · intro s w w' hR hb
    obtain ⟨v, h1, h2⟩ := hR.ex
    exact ⟨v, h1.below hb h1.lt, own_below h2 hb⟩
  · intro s w w' hR hb
    obtain ⟨v, h1, h2⟩ := hR.ex
    rw [stOwn_of (h1.below hb h1.lt), stOwn_of h1]
  · intro s w c hR hc
    obtain ⟨v, h1, h2⟩ := hR.ex
    rw [stOwn_of h1] at hc
    rcases hc with e | e
    · omega
    · have := (h2.lt c e).1; omega
  · intro s w c hR hc
    obtain ⟨v, h1, h2⟩ := hR.ex
    rw [stOwn_of h1] at hc
    rcases hc with e | e
    · rw [e]; exact h1.lt
    · exact (h2.lt c e).2
  · intro s t d
    unfold stampStep
    split
    · simp
    · omega
/-- what Stamps comes to -/
def StPost (l : List Nat) (w : World) (e : Ending) (w' : World) : Prop := ∃ A c, e = .returned (.slice A l.length c) ∧ FlIs w' A l ∧ (A = none → c = 0) ∧ Below w.heap.size w w'
set_option maxHeartbeats 2000000 in
theorem stamps_any (x : Hd) (ks : List T) (top : Nat) (w : World) (htop : top ≤ w.heap.size) (hok : Ok w top (.mk x ks)) (hn : count (.mk x ks) ≤ 90000) :
    Calls Try.prog 30 #[nv x ks.length] w (StPost (stampsT (.mk x ks)) w) := by
  have HOK := Lib.hid hok
  have HD : Hid (depth (.mk x ks) ≤ 99999) := by have := depth_count (.mk x ks); show _ ≤ _; omega
  have HN : Hid ((pre 1 (.mk x ks)).foldl (fun s p => stampStep s p.1 p.2) [] = stampsT (.mk x ks)) := by
    show _ = _; rw [stamps_fold, pre_fst]; rfl
  have HC := Lib.hid hn
  have hmf : ∀ (fn : Fn) (first cap : Array Value) (w : World), (Instr.makeFunc fn first cap).run Try.prog w = .ok (.func fn first cap) w := fun _ _ _ _ => rfl
  clear hok hn
  go_enter Try.func30, Try.ntmps30
  go_wp2_with fail
  have hB : Below w.heap.size w ((w.alloc (.cells #[vb x.kind, .slice x.na x.names.length x.nc, .slice x.ka ks.length x.kc, .slice x.da x.data.length x.dc, .bool x.run, .float .f64 x.stamp, vs x.target] 27)).alloc (.cells #[.slice none 0 0] 41)) := ((Below.refl _ _).alloc (Nat.le_refl _) _).alloc (by simp) _
  have hb := Blk.new (w.alloc (.cells #[vb x.kind, .slice x.na x.names.length x.nc, .slice x.ka ks.length x.kc, .slice x.da x.data.length x.dc, .bool x.run, .float .f64 x.stamp, vs x.target] 27)) 41 #[.slice none 0 0]
  simp only [World.size_alloc] at hb
  refine (each_anyW 63 (.pointer (some ⟨w.heap.size + 1, 0, none⟩)) top stampStep List.length _ _ (see_stamps (w.heap.size + 1) top (by omega)) x ks [] _ (Nat.le_trans htop hB.size) HD.out (by have := HC.out; simp; omega) ⟨_, hb, World.ownsRow_nil _ _ _ _⟩ (HOK.out.keep (hB.mono htop))).mono ?_
  rw [HN.out]
  rintro e w1 ⟨rfl, hR, ht⟩
  have HB1 : Hid (Below w.heap.size w w1) := hB.trans (ht.below (fun c hc => by
    rw [stOwn_of hb] at hc
    rcases hc with e | e
    · omega
    · cases e) (by simp; omega))
  obtain ⟨v, h1, h2⟩ := hR.ex
  obtain ⟨A, c, rfl, h3, h4⟩ := h2.src
  have c0 := h1.cell 0
  simp only [List.getElem?_cons_zero] at c0
  have HF := Lib.hid h3; have HNN := Lib.hid h4
  clear hb hB ht hR h1 h2 h3 h4
  go_wp2_with fail
  go_ret
  exact ⟨A, c, rfl, HF.out, HNN.out, HB1.out⟩
set_option maxHeartbeats 4000000 in
theorem rstamps_any (x : Hd) (ks : List T) (top : Nat) (w : World) (htop : top ≤ w.heap.size) (hok : Ok w top (.mk x ks)) (hn : count (.mk x ks) ≤ 90000) :
    Calls Try.prog 31 #[nv x ks.length] w (StPost (stampsT (.mk x ks)) w) := by
  have HOK := Lib.hid hok
  have HN := Lib.hid hn
  have HZ' : Hid (stampsL ((all (.mk x ks)).take (all (.mk x ks)).length) = stampsT (.mk x ks)) := by show _ = _; rw [List.take_length]; rfl
  have hcount : (all (.mk x ks)).length ≤ 90000 := hn
  have hpos : 0 < (all (.mk x ks)).length := count_pos (.mk x ks)
  clear hok hn
  go_enter Try.func31, Try.ntmps31
  go_wp2_with fail
  have hB : Below w.heap.size w (w.alloc (.cells #[vb x.kind, .slice x.na x.names.length x.nc, .slice x.ka ks.length x.kc, .slice x.da x.data.length x.dc, .bool x.run, .float .f64 x.stamp, vs x.target] 27)) := (Below.refl _ _).alloc (Nat.le_refl _) _
  refine (all_of top (.mk x ks) _ (Nat.le_trans htop hB.size) (HOK.out.keep (hB.mono htop)) HN.out).mono ?_
  rintro e w1 ⟨v, rfl, hnod, hb1⟩
  have HB1 : Hid (Below w.heap.size w w1) := hB.trans (hb1.mono hB.size)
  obtain ⟨g, c, rfl, -, hgl, hc, hcells, -⟩ := hnod.at hpos
  have HCE := Lib.hid hcells
  clear hB hb1 hnod hcells
  generalize stampsT (.mk x ks) = st at *
  generalize all (.mk x ks) = ts at *
  go_wp2_with fail
  go_loopw [3, 5] (fun vo vi wr => ∃ i : Nat, i ≤ ts.length ∧ vi = .int .i64 i ∧ Hid (Below w1.heap.size w1 wr ∧ Flts wr w1.heap.size vo (stampsL (ts.take i)))) (fun _ vi _ => ts.length - (intOf vi).toNat)
  case atStart => exact ⟨0, Nat.zero_le _, rfl, Below.refl _ _, World.ownsRow_nil _ _ _ _⟩
  case round =>
    obtain ⟨i, hi, rfl, HP⟩ := hrel
    rename World => W0
    rename_i vo _
    obtain ⟨hbw, hfl⟩ := HP.out
    have HBW := Lib.hid hbw; have HFL := Lib.hid hfl
    obtain ⟨Ao, co, rfl, hfi, hno⟩ := hfl.src
    have HFI := Lib.hid hfi; have HNO := Lib.hid hno
    clear hbw hfl HP hfi hno
    have hsl := stampsL_le (ts.take i)
    have hsl2 : (stampsL (ts.take i)).length ≤ 90000 := by rw [List.length_take] at hsl; omega
    clear hsl
    by_cases hlt : i < ts.length
    · have hce := (HCE.out i hlt).same (HBW.out.block g hgl)
      have HS := Lib.hid (stampsL_take ts i hlt)
      cases hti : ts[i] with
      | mk y ly =>
        rw [hti] at hce HS
        obtain ⟨a0, a1, a2, a3, a4, a5, a6⟩ := CellsAt.seven (x := y) (n := ly.length) hce
        clear hti hce
        by_cases hk : y.kind = 2
        · have hk' : ((y.kind.toNat : Int) == 2) = true := by rw [hk]; rfl
          have HS' : Hid (stampsL (ts.take (i + 1)) = stampsL (ts.take i) ++ [y.stamp]) := by show _ = _; rw [HS.out, if_pos (show (T.mk y ly).hd.kind = 2 from hk)]; rfl
          clear hk HS
          generalize stampsL (ts.take i) = sl at *
          have hwz := HBW.out.size
          have HFA : Hid (Flts (W0.alloc (.cells #[vf y.stamp] 25)) w1.heap.size (.slice Ao sl.length co) sl) := own_below HFL.out ((Below.refl _ _).alloc (Nat.le_refl _) _)
          have HCA : Hid ((W0.alloc (.cells #[vf y.stamp] 25)).cell? ⟨W0.heap.size, 0, none⟩ = some (vf y.stamp)) := (Blk.new W0 25 #[vf y.stamp]).cell 0
          go_wp2_with (refine wpList_append_fl rfl (.tmp 20) (.tmp 26) rfl w1.heap.size (.slice Ao sl.length co) sl rfl HFA.out y.stamp W0.heap.size rfl HCA.out (by omega) (by simp; omega) ?_)
          intro v' w' h1 h2 h3
          have HFL' := Lib.hid h1
          have HBW' : Hid (Below w1.heap.size w1 w') := (HBW.out.alloc hwz _).grown h2 (by simp; omega) (fun k hk => (HFA.out.lt k hk).1)
          clear h1 h2 h3 HCA a0 a1 a2 a3 a4 a5 a6
          go_wp2_with fail
          go_roundw
          case rel => exact ⟨i + 1, by omega, by go_num, HBW'.out, by rw [HS'.out]; exact HFL'.out⟩
          case measure => simp [intOf]; omega
        · have hk' : ((y.kind.toNat : Int) == 2) = false := by rw [show (2 : Int) = ((2 : By).toNat : Int) from rfl, vb_eq]; exact decide_eq_false hk
          have HS' : Hid (stampsL (ts.take (i + 1)) = stampsL (ts.take i)) := by show _ = _; rw [HS.out, if_neg (show ¬ (T.mk y ly).hd.kind = 2 from hk)]
          clear hk HS
          go_wp2_with fail
          go_roundw
          case rel => exact ⟨i + 1, by omega, by go_num, HBW.out, by rw [HS'.out]; exact HFL.out⟩
          case measure => simp [intOf]; omega
    · obtain rfl : i = ts.length := by omega
      rw [HZ'.out] at HFI ⊢
      go_wp2_with fail
      go_ret
      exact ⟨Ao, co, rfl, HFI.out, HNO.out, HB1.out.trans (HBW.out.mono HB1.out.size)⟩
end Go.Proofs.Ytlehgacbcacokaa
