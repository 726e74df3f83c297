/- What all laws of this seat share: the last step of a row whose law answers true and leaves what was there; nodes that came in, opened. -/
import Derived.Test.YtlehgacbcacokaaRows
import Derived.Test.YtlehgacbcacokaaK1
import Derived.ProofKit
import Derived.OpenShut
import Derived.Deep.DeepHandedRow
import Derived.Lay
import Derived.Carry
import Derived.ChangeMaps5
import Derived.Deep.Slices
import Derived.Deep.Fields
import Derived.ChangeSame
import Derived.SliceStrings
namespace Go.Proofs.Ytlehgacbcacokaa
open Go.ChangeShapes Go.WideShapes Go.ChangeAt Go.RowKit Go.WideElems Go.ChangeMaps Go.Deep TreeMath

theorem own : ownKnob Try.prog.godebug = none := by kernel_rfl
theorem cells4 : Try.prog.cellsOf 4 = 1 := by kernel_rfl
theorem cells5 : Try.prog.cellsOf 5 = 1 := by kernel_rfl
theorem cells9 : Try.prog.cellsOf 9 = 1 := by kernel_rfl
theorem cells22 : Try.prog.cellsOf 22 = 1 := by kernel_rfl
theorem cells23 : Try.prog.cellsOf 23 = 1 := by kernel_rfl
theorem cells24 : Try.prog.cellsOf 24 = 1 := by kernel_rfl
theorem cells25 : Try.prog.cellsOf 25 = 1 := by kernel_rfl
theorem cells27 : Try.prog.cellsOf 27 = 7 := by kernel_rfl
theorem laidOut : laidOutB Try.prog = true := by kernel_rfl
theorem list_of {α : Type} {P : Nat → α → Prop} : ∀ (n : Nat), (∀ i, i < n → ∃ x, P i x) → ∃ l : List α, l.length = n ∧ ∀ i (h : i < l.length), P i l[i]
  | 0, _ => ⟨[], rfl, fun i h => absurd h (by simp)⟩
  | n + 1, key => by
    obtain ⟨l, hlen, hl⟩ := list_of n (fun i hin => key i (by omega))
    obtain ⟨x, hx⟩ := key n (by omega)
    refine ⟨l ++ [x], by simp [hlen], fun i h => ?_⟩
    by_cases e : i < l.length
    · rw [List.getElem_append_left e]; exact hl i e
    · have : i = l.length := by simp at h; omega
      subst this
      rw [List.getElem_concat_length rfl, hlen]; exact hx
section
variable {H : Type} {enc : TypeId × Value → H}

/-- THE LAST STEP OF A ROW: the law has answered true; what was read reads as it did. -/
theorem post_law {f : Func} {s : ChangeSpec} {W W' : World} {args : Array Value} {ds : List (DataW H)} {before : List MemPlace}
    (hW : DataW.Whole enc Try.prog f.params.toList s.vars false W args.toList ds [] before) (hv : s.vars = []) (ht : f.resultTypes = #[4])
    (hr : (s.fn H (ds ++ [])).results = [.lit (.bool true)]) (ha : (s.fn H (ds ++ [])).args = ds) (hg : (s.fn H (ds ++ [])).vars = [])
    (hargs : DataW.TrodAll enc Try.prog W' 0 (fun b => decide (b < W.heap.size)) true f.params.toList args.toList ds before)
    (hb : Below W.heap.size W W') : s.post enc Try.prog f false true false false W args (.bool true) W' := by
  refine ⟨ds, [], before, [], before, [], hW, ?_, ?_, ?_, ?_, fun h => by cases h⟩
  · rw [hr, ht]
    exact trodAll_cons_mk (shut_bool Try.underlying4 _) trodAll_mk0
  · rw [ha]; exact hargs
  · rw [hg, hv]; rfl
  · exact World.keptBut_mono (fun p hp => ⟨hp, Or.inr (Or.inl hp)⟩) (hb.frame (· ∈ before))

theorem byte_of {x : Int} (h : (Lit.int .u8 x).wf = true) : ∃ b : By, x = (b.toNat : Int) := by
  have := bounds_u8 h
  obtain ⟨m, rfl⟩ : ∃ m : Nat, x = m := ⟨x.toNat, by omega⟩
  exact ⟨UInt8.ofNat m, by rw [UInt8.toNat_ofNat_of_lt' (by show m < 256; omega)]⟩
theorem trod_floatK {P : Program} {w : World} {base : Nat} {spare : Nat → Bool} {held : Bool} {fuel : Nat} {t : TypeId} {cs : List Value} {x : DataW H × List MemPlace} {k : FloatKind} (ht : P.underlying t = some (.float k))
    (h : DataW.trod enc P w base spare held fuel t cs = some x) : ∃ n : Nat, cs = [.float k n] ∧ (Lit.float k n).wf = true := by
  cases fuel with
  | zero => simp [DataW.trod] at h
  | succ n =>
    unfold DataW.trod at h
    rw [ht] at h
    split at h <;> simp_all
theorem trod_float {P : Program} {w : World} {base : Nat} {spare : Nat → Bool} {held : Bool} {fuel : Nat} {t : TypeId} {cs : List Value} {x : DataW H × List MemPlace} (ht : P.underlying t = some (.float .f64))
    (h : DataW.trod enc P w base spare held fuel t cs = some x) : ∃ n : Nat, cs = [.float .f64 n] ∧ n < 18446744073709551616 := by
  obtain ⟨n, h1, h2⟩ := trod_floatK ht h
  refine ⟨n, h1, ?_⟩
  have := of_decide_eq_true (show decide (n < 2 ^ 64) = true from h2)
  omega
/-- bytes that came in -/
theorem open_bys {W : World} {fuel : Nat} {v : Value} {x : DataW H × List MemPlace} (h : DataW.trod enc Try.prog W 0 (fun _ => true) true fuel 24 [v] = some x) :
    ∃ (A : Option Addr) (cap : Nat) (bs : List By), v = .slice A bs.length cap ∧ bs.length ≤ maxLen ∧ bs.length ≤ cap ∧ (A = none → cap = 0) ∧ SrcIs W A bs := by
  rcases open_ints Try.underlying24 Try.underlying5 cells5 h with ⟨hcs, hx⟩ | ⟨a, n, cap, zs, hcs, _, hl, hm, hz, hx, hcell, hwz⟩
  · obtain rfl : v = .slice none 0 0 := by simpa using hcs
    exact ⟨none, 0, [], rfl, by unfold maxLen; simp, by simp, fun _ => rfl, fun h => absurd h (by simp)⟩
  · obtain rfl : v = .slice (some a) n cap := by simpa using hcs
    simp only [if_true] at hz
    have hlen : ((zs.take n).map (fun z => UInt8.ofNat z.toNat)).length = n := by simp; omega
    refine ⟨some a, cap, (zs.take n).map (fun z => UInt8.ofNat z.toNat), by rw [hlen], by omega, by omega, (fun h => by cases h), ?_⟩
    intro hpos
    have hp : 0 < zs.length := by rw [hlen] at hpos; omega
    obtain ⟨b, off, rfl, hc⟩ := ints_at hcell hp
    refine ⟨b, off, rfl, ?_⟩
    intro k hk
    have hk' : k < zs.length := by rw [hlen] at hk; omega
    rw [hc k hk']
    simp only [List.getElem_map, List.getElem_take, List.getD_eq_getElem?_getD, List.getElem?_eq_getElem hk', Option.getD_some]
    have := bounds_u8 (hwz zs[k] (List.getElem_mem hk'))
    obtain ⟨m, hm'⟩ : ∃ m : Nat, zs[k] = m := ⟨zs[k].toNat, by omega⟩
    rw [hm']
    show _ = some (Value.int .u8 ((UInt8.ofNat (Int.toNat (m : Int))).toNat : Int))
    rw [Int.toNat_natCast, UInt8.toNat_ofNat_of_lt' (by show m < 256; omega)]
/-- texts that came in -/
theorem open_strs {W : World} {fuel : Nat} {v : Value} {x : DataW H × List MemPlace} (h : DataW.trod enc Try.prog W 0 (fun _ => true) true fuel 22 [v] = some x) :
    ∃ (A : Option Addr) (c : Nat) (ls : List (List By)), v = .slice A ls.length c ∧ ls.length ≤ maxLen ∧ ls.length ≤ c ∧ (A = none → c = 0) ∧ StrsIs W A ls ∧ ∀ t ∈ ls, t.length ≤ maxLen := by
  rcases open_strings Try.underlying22 Try.underlying9 cells9 h with ⟨hcs, _⟩ | ⟨a, len, cap, ss, hcs, _, hl, hm, hz, _, hcell, hall⟩
  · obtain rfl : v = .slice none 0 0 := by simpa using hcs
    exact ⟨none, 0, [], rfl, by unfold maxLen; simp, by simp, fun _ => rfl, fun h => absurd h (by simp), by simp⟩
  · obtain rfl : v = .slice (some a) len cap := by simpa using hcs
    simp only [if_true] at hz
    have hlen : ((ss.take len).map fun s => s.data.toList).length = len := by simp; omega
    refine ⟨some a, cap, (ss.take len).map fun s => s.data.toList, by rw [hlen], by omega, by omega, (fun h => by cases h), ?_, ?_⟩
    · intro hpos
      rw [hlen] at hpos
      obtain ⟨b, off, spot⟩ := a
      have hspot : spot = none := by simpa [Addr.add] using World.cell?_spot (hcell 0 (by omega))
      subst hspot
      refine ⟨b, off, rfl, fun k hk => ?_⟩
      rw [hlen] at hk
      have hk' : k < ss.length := by omega
      rw [← Addr.add_mid, hcell k hk']
      simp only [List.getElem_map, List.getElem_take, List.getD_eq_getElem?_getD, List.getElem?_eq_getElem hk', Option.getD_some]
    · intro t ht
      obtain ⟨s, hs, rfl⟩ := List.mem_map.1 ht
      have := hall s (List.mem_of_mem_take hs)
      simpa using this
theorem ne_of_dropTake {cs : List Value} {k n : Nat} (h : cs.length = n) (hk : k < n) : (cs.drop k).take 1 = [cs[k]'(by omega)] := by
  rw [List.drop_eq_getElem_cons (by omega)]; rfl
set_option maxRecDepth 100000 in
/-- a node, to whatever depth -/
theorem open_cells {W : World} : ∀ (fuel : Nat) (cs : List Value) (x : DataW H × List MemPlace), DataW.trod enc Try.prog W 0 (fun _ => true) true fuel 27 cs = some x → ∃ t : T, cs = cellsT t ∧ Ok W W.heap.size t := by
  intro fuel
  induction fuel using Nat.strongRecOn with
  | _ fuel ih =>
  intro cs x h
  obtain ⟨xs, n, rfl, _, hcl, hxl, hg⟩ := DataW.trod_struct Try.underlying27 h
  rw [cells27] at hcl
  match cs, hcl with
  | [v0, v1, v2, v3, v4, v5, v6], _ =>
    have g0 : DataW.trod enc Try.prog W 0 (fun _ => true) true n 5 (([v0, v1, v2, v3, v4, v5, v6].drop 0).take (Try.prog.cellsOf 5)) = xs[0]? := hg 0 _ rfl
    have g1 : DataW.trod enc Try.prog W 0 (fun _ => true) true n 22 (([v0, v1, v2, v3, v4, v5, v6].drop 1).take (Try.prog.cellsOf 22)) = xs[1]? := hg 1 _ rfl
    have g2 : DataW.trod enc Try.prog W 0 (fun _ => true) true n 23 (([v0, v1, v2, v3, v4, v5, v6].drop 2).take (Try.prog.cellsOf 23)) = xs[2]? := hg 2 _ rfl
    have g3 : DataW.trod enc Try.prog W 0 (fun _ => true) true n 24 (([v0, v1, v2, v3, v4, v5, v6].drop 3).take (Try.prog.cellsOf 24)) = xs[3]? := hg 3 _ rfl
    have g4 : DataW.trod enc Try.prog W 0 (fun _ => true) true n 4 (([v0, v1, v2, v3, v4, v5, v6].drop 4).take (Try.prog.cellsOf 4)) = xs[4]? := hg 4 _ rfl
    have g5 : DataW.trod enc Try.prog W 0 (fun _ => true) true n 25 (([v0, v1, v2, v3, v4, v5, v6].drop 5).take (Try.prog.cellsOf 25)) = xs[5]? := hg 5 _ rfl
    have g6 : DataW.trod enc Try.prog W 0 (fun _ => true) true n 9 (([v0, v1, v2, v3, v4, v5, v6].drop 6).take (Try.prog.cellsOf 9)) = xs[6]? := hg 6 _ rfl
    rw [cells5] at g0
    rw [cells22] at g1
    rw [cells23] at g2
    rw [cells24] at g3
    rw [cells4] at g4
    rw [cells25] at g5
    rw [cells9] at g6
    have hx7 : xs.length = 7 := hxl
    replace g0 : DataW.trod enc Try.prog W 0 (fun _ => true) true n 5 [v0] = some (xs[0]'(by omega)) := by rw [List.getElem?_eq_getElem (by omega)] at g0; exact g0
    replace g1 : DataW.trod enc Try.prog W 0 (fun _ => true) true n 22 [v1] = some (xs[1]'(by omega)) := by rw [List.getElem?_eq_getElem (by omega)] at g1; exact g1
    replace g2 : DataW.trod enc Try.prog W 0 (fun _ => true) true n 23 [v2] = some (xs[2]'(by omega)) := by rw [List.getElem?_eq_getElem (by omega)] at g2; exact g2
    replace g3 : DataW.trod enc Try.prog W 0 (fun _ => true) true n 24 [v3] = some (xs[3]'(by omega)) := by rw [List.getElem?_eq_getElem (by omega)] at g3; exact g3
    replace g4 : DataW.trod enc Try.prog W 0 (fun _ => true) true n 4 [v4] = some (xs[4]'(by omega)) := by rw [List.getElem?_eq_getElem (by omega)] at g4; exact g4
    replace g5 : DataW.trod enc Try.prog W 0 (fun _ => true) true n 25 [v5] = some (xs[5]'(by omega)) := by rw [List.getElem?_eq_getElem (by omega)] at g5; exact g5
    replace g6 : DataW.trod enc Try.prog W 0 (fun _ => true) true n 9 [v6] = some (xs[6]'(by omega)) := by rw [List.getElem?_eq_getElem (by omega)] at g6; exact g6
    obtain ⟨n0, e0, _, w0⟩ := DataW.trod_int Try.underlying5 g0
    obtain ⟨kb, rfl⟩ := byte_of w0
    obtain rfl : v0 = vb kb := by simpa using e0
    obtain ⟨NA, nc, ls, rfl, hn1, hn2, hn3, hn4, hn5⟩ := open_strs g1
    obtain ⟨DA, dc, bs, rfl, hd1, hd2, hd3, hd4⟩ := open_bys g3
    obtain ⟨rb, e4, _⟩ := DataW.trod_bool Try.underlying4 g4
    obtain rfl : v4 = .bool rb := by simpa using e4
    obtain ⟨st, e5, hst⟩ := trod_float Try.underlying25 g5
    obtain rfl : v5 = .float .f64 st := by simpa using e5
    obtain ⟨s6, e6, _, hs6⟩ := DataW.trod_string Try.underlying9 g6
    obtain rfl : v6 = .string s6 := by simpa using e6
    have fin : ∀ (A : Option Addr) (kc : Nat) (ks : List T), v2 = .slice A ks.length kc → (A = none → kc = 0) → ks.length ≤ maxLen → ks.length ≤ kc → KidsAt W W.heap.size A ks → (∀ k ∈ ks, Ok W W.heap.size k) →
        ∃ t : T, [vb kb, .slice NA ls.length nc, v2, .slice DA bs.length dc, .bool rb, .float .f64 st, .string s6] = cellsT t ∧ Ok W W.heap.size t := fun A kc ks hv hA h1 h2 h3 h4 =>
      ⟨.mk ⟨kb, NA, nc, ls, A, kc, DA, dc, bs, rb, st, s6.data.toList⟩ ks, by rw [hv]; rfl,
        .mk _ _ ⟨hn4, hn4.lt, hn3, hn2, hn1, hn5, hd4, hd4.lt, hd3, hd2, hd1, hst, by simpa using hs6, hA⟩ h1 h2 h3 h4⟩
    rcases DataW.trod_slice Try.underlying23 g2 with ⟨h0, _⟩ | ⟨a, len, cap, elems, rest, m, hm, h0, _, _, hl, hcm, hlen, hel, -, -⟩
    · obtain rfl : v2 = .slice none 0 0 := by simpa using h0
      exact fin none 0 [] rfl (fun _ => rfl) (by simp) (by simp) (fun h => absurd h (by simp)) (fun k hk => by cases hk)
    · obtain rfl : v2 = .slice (some a) len cap := by simpa using h0
      rw [cells27] at hel
      have key : ∀ i, i < len → ∃ k : T, (∀ j u, (cellsT k)[j]? = some u → W.cell? ((a.add (i * 7)).add j) = some u) ∧ Ok W W.heap.size k := by
        intro i hi
        have he := hel i hi
        rw [List.getElem?_eq_getElem (by omega), Option.bind_eq_some_iff] at he
        obtain ⟨cs', hc', ht'⟩ := he
        obtain ⟨k, rfl, hok⟩ := ih m (by omega) cs' _ ht'
        obtain ⟨_, hcl', hat⟩ := World.cells?_some hc'
        refine ⟨k, fun j u hj => ?_, hok⟩
        have hj7 : j < 7 := by
          have := (List.getElem?_eq_some_iff.1 hj).1
          cases k; simpa [cellsT, cellsOf] using this
        rw [hat j hj7, hj]
      obtain ⟨ks, rfl, hks⟩ := list_of len key
      refine fin (some a) cap ks rfl (fun h => by cases h) (by omega) hl (fun hpos => ?_) (fun k hk => ?_)
      · obtain ⟨b, off, spot⟩ := a
        obtain ⟨y, ly, hky⟩ : ∃ y ly, ks[0] = T.mk y ly := by cases ks[0]; exact ⟨_, _, rfl⟩
        have c0 := (hks 0 hpos).1 0 (vb y.kind) (by rw [hky]; rfl)
        have hspot : spot = none := by simpa [Addr.add] using World.cell?_spot c0
        subst hspot
        refine ⟨b, off, rfl, ?_, fun i hi j u hj => ?_⟩
        · have := block_of_cell c0; simpa [Addr.add_mid] using this
        · have := (hks i hi).1 j u hj
          rwa [Addr.add_mid, Addr.add_mid] at this
      · obtain ⟨i, hi, rfl⟩ := List.getElem_of_mem hk
        exact (hks i hi).2
set_option maxRecDepth 100000 in
/-- a node that came in -/
theorem open_node {W : World} {base : Nat} {v : Value} {d : DataW H} {ps : List MemPlace} (hv : Value.okWide Try.prog W .any base 27 v) (h : DataW.Trod enc Try.prog W 0 (fun _ => true) true 27 v d ps) :
    ∃ (x : Hd) (ks : List T), v = nv x ks.length ∧ Ok W W.heap.size (.mk x ks) := by
  obtain ⟨cs, rfl, hsz⟩ := okWide_struct Try.underlying27 hv
  obtain ⟨fuel, hf⟩ := h
  obtain ⟨t, ht, hok⟩ := open_cells fuel _ _ hf
  obtain ⟨x, ks⟩ := t
  refine ⟨x, ks, ?_, hok⟩
  have : cs.toList = cellsT (.mk x ks) := ht
  obtain ⟨l⟩ := cs
  simp only at this
  rw [this]; rfl
end
end Go.Proofs.Ytlehgacbcacokaa
