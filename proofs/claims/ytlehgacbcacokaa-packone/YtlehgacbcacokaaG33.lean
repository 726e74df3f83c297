/- The contracts of the reference's reader: take, Wide, Text, Whole. -/
import Derived.Test.YtlehgacbcacokaaG32
import Derived.Test.YtlehgacbcacokaaG29
namespace Go.Proofs.Ytlehgacbcacokaa
open Go.RowKit BaseMath WireMath

theorem ok_failed {r : Rd} (h : r.ok) (hf : r.f = true) : r = fails := by
  obtain ⟨p, f⟩ := r
  simp only at hf
  subst hf
  have := h rfl
  simp only at this
  subst this; rfl
set_option maxHeartbeats 1000000 in
theorem itake_fail (top g n : Nat) (r : Rd) (hx : r.f = true ∨ (r.f = false ∧ r.p.length < n)) (w : World) (h : RdIs w 118 top g r) :
    Calls Try.prog 113 #[.pointer (some ⟨g, 0, none⟩), .int .i64 n] w fun e w' => e = .returned (.slice none 0 0) ∧ RdIs w' 118 top g fails ∧ OnlyAt g w w' := by
  obtain ⟨A, c, hblk, -, -, -, -⟩ := h.ex
  have c0 := hblk.cell 0; have c1 := hblk.cell 1
  have f0 := hblk.frozen 0; have f1 := hblk.frozen 1
  simp only [List.getElem?_cons_zero, List.getElem?_cons_succ] at c0 c1
  have HN : Hid (RdIs ((w.setCell ⟨g, 0, none⟩ (.slice none 0 0)).setCell ⟨g, 1, none⟩ (.bool true)) 118 top g fails) :=
    ⟨⟨none, 0, Blk.set2 hblk _ _, fun _ => rfl, Nat.le_refl _, fun h => absurd h (by simp [fails]), fun _ a ha => by cases ha⟩, h.le⟩
  have HO : Hid (OnlyAt g w ((w.setCell ⟨g, 0, none⟩ (.slice none 0 0)).setCell ⟨g, 1, none⟩ (.bool true))) := ((OnlyAt.refl g w).setCell 0 _).setCell 1 _
  clear h hblk
  rcases hx with hf | ⟨hf, hlt⟩
  · rw [hf] at c1
    clear hf
    go_enter Try.func113, Try.ntmps113
    go_wp2_with fail
    go_ret
    exact ⟨rfl, HN.out, HO.out⟩
  · rw [hf] at c1
    have hlt' : (decide ((r.p.length : Int) < n)) = true := decide_eq_true (by omega)
    have hlt2 : (decide (r.p.length < n)) = true := decide_eq_true hlt
    clear hf hlt
    go_enter Try.func113, Try.ntmps113
    go_wp2_with fail
    go_ret
    exact ⟨rfl, HN.out, HO.out⟩
theorem take_empty {w : World} {T : TypeId} {top g c k c' : Nat} {r : Rd} {A A' A2 : Option Addr} (hp : r.p = []) (hblk : Blk w g T [.slice A 0 c, .bool r.f]) (hle : top ≤ g) (h3 : A' = none → c' = 0) :
    TakePost w T top g 0 r (.returned (.slice A2 0 k)) (w.setCell ⟨g, 0, none⟩ (.slice A' 0 c')) := by
  obtain ⟨e1, e2⟩ := taken_all 0 r (by omega)
  refine ⟨A2, k, by rw [e1]; rfl, fun h => by rw [e1] at h; exact absurd h (by simp), ?_, (OnlyAt.refl g w).setCell 0 _⟩
  refine ⟨⟨A', c', ?_, h3, by rw [e2]; simp [hp], fun h => by rw [e2] at h; simp [hp] at h, fun h => by rw [e2] at h; simp [hp] at h⟩, hle⟩
  have := hblk.set 0 (.slice A' 0 c')
  rw [e2]; simpa [hp] using this
set_option maxHeartbeats 2000000 in
theorem itake_any (top g n : Nat) (hn : n ≤ 1000000) (r : Rd) (hr : r.p.length ≤ 1000000) (hok : r.ok) (w : World) (h : RdIs w 118 top g r) :
    Calls Try.prog 113 #[.pointer (some ⟨g, 0, none⟩), .int .i64 n] w (TakePost w 118 top g n r) := by
  by_cases hx : r.f = true ∨ (r.f = false ∧ r.p.length < n)
  · have e : taken n r = [] ∧ after n r = fails := by
      rcases hx with hf | ⟨_, hlt⟩
      · rw [ok_failed hok hf]; exact fails_taken n
      · exact taken_few n r hlt
    refine (itake_fail top g n r hx w h).mono ?_
    rintro e' w' ⟨rfl, h1, h2⟩
    exact ⟨none, 0, by rw [e.1]; rfl, (fun h => by rw [e.1] at h; exact absurd h (by simp)), by rw [e.2]; exact h1, h2⟩
  · have hf : r.f = false := by cases hff : r.f with | false => rfl | true => exact absurd (.inl hff) hx
    have hnl : n ≤ r.p.length := by
      have : ¬ r.p.length < n := fun hlt => hx (.inr ⟨hf, hlt⟩)
      omega
    have hlt' : (decide ((r.p.length : Int) < n)) = false := decide_eq_false (by omega)
    have hlt2 : (decide (r.p.length < n)) = false := decide_eq_false (by omega)
    obtain ⟨A, c, hblk, hN, hc, hS, hA⟩ := h.ex
    have hle := h.le
    have c0 := hblk.cell 0; have c1 := hblk.cell 1
    have f0 := hblk.frozen 0
    simp only [List.getElem?_cons_zero, List.getElem?_cons_succ] at c0 c1
    rw [hf] at c1
    have HBlk := Lib.hid hblk
    clear hx h hblk hok hf
    by_cases h0 : 0 < r.p.length
    · obtain ⟨b, o, rfl, hB⟩ := hS h0
      have hbt := hA h0 _ rfl
      simp only at hbt
      have HBy := Lib.hid hB
      clear hS hA hN hB
      by_cases hcap : c = n
      · subst hcap
        go_enter Try.func113, Try.ntmps113
        go_wp2_with fail
        go_ret
        have := take_close (n := c) (k := c) (c' := 0) (A' := some ⟨b, o, none⟩) HBlk.out HBy.out hbt hle hnl (fun a ha => by cases ha; rfl) (fun h => by omega) (fun h => by cases h) (by omega)
        rw [show r.p.length - c = 0 by omega] at this
        exact this
      · have hcap' : n < c := by omega
        go_enter Try.func113, Try.ntmps113
        go_wp2_with fail
        go_ret
        exact take_close (k := c) HBlk.out HBy.out hbt hle hnl (fun a ha => by cases ha; rfl) (fun _ => rfl) (fun h => by cases h) (by omega)
    · have hz : r.p.length = 0 := by omega
      have hp : r.p = [] := List.eq_nil_of_length_eq_zero hz
      obtain rfl : n = 0 := by omega
      rw [hz] at c0 HBlk
      have HP := Lib.hid hp
      clear hlt' hlt2 hp hS hnl
      have ht' : (decide ((0 : Int) < 0)) = false := rfl
      cases A with
      | none =>
        obtain rfl := hN rfl
        clear hN hA
        go_enter Try.func113, Try.ntmps113
        go_wp2_with fail
        go_ret
        exact take_empty (k := 0) HP.out HBlk.out hle (fun _ => rfl)
      | some a =>
        clear hN hA
        by_cases hcap : c = 0
        · subst hcap
          go_enter Try.func113, Try.ntmps113
          go_wp2_with fail
          go_ret
          exact take_empty (k := 0) HP.out HBlk.out hle (fun h => by cases h)
        · have hcap' : 0 < c := by omega
          go_enter Try.func113, Try.ntmps113
          go_wp2_with fail
          go_ret
          exact take_empty (k := c) HP.out HBlk.out hle (fun h => by cases h)
set_option maxHeartbeats 1000000 in
theorem iwide_any (top g n : Nat) (hn : n ≤ 8) (r : Rd) (hr : r.p.length ≤ 1000000) (hok : r.ok) (w : World) (h : RdIs w 118 top g r) :
    Calls Try.prog 112 #[.pointer (some ⟨g, 0, none⟩), .int .i64 n] w (NumPost .u64 (numR n r) w 118 top g n r) := by
  have H := Lib.hid h; have HK := Lib.hid hok; clear h hok
  go_enter Try.func112, Try.ntmps112
  go_wp2_with fail
  refine (itake_any top g n (by omega) r hr HK.out w H.out).mono ?_
  rintro e w1 ⟨A, c, rfl, hs, hr1, ho1⟩
  have HS := Lib.hid hs; have HR := Lib.hid hr1; have HO := Lib.hid ho1
  have htl := taken_length n r
  have HV : Hid (numR n r = BaseMath.val 256 (nat (taken n r))) := rfl
  clear hs hr1 ho1 H
  generalize taken n r = t at *
  generalize numR n r = v at *
  go_wp2_with fail
  go_loop [6, 7] (fun vx vi => ∃ k : Nat, k ≤ t.length ∧ vi = .int .i64 k ∧ vx = .int .u64 (BaseMath.val 256 (nat (t.take k)) : Nat)) (fun _ vi => t.length - (intOf vi).toNat)
  case atStart => exact ⟨0, Nat.zero_le _, rfl, rfl⟩
  case round =>
    obtain ⟨k, hk, rfl, rfl⟩ := hrel
    by_cases hlt : k < t.length
    · obtain ⟨b, o, rfl, hb⟩ := HS.out (by omega)
      have c0 : w1.cell? ⟨b, o + k, none⟩ = some (vb t[k]) := hb k hlt
      have hx := val_take_lt t k (by omega)
      have HVT := Lib.hid (val_take t k hlt)
      have hbb : t[k].toNat < 256 := t[k].toNat_lt
      clear hb
      generalize BaseMath.val 256 (nat (t.take k)) = x at *
      generalize t[k] = y at *
      have hx' : x ≤ 72057594037927935 := by omega
      clear hx
      go_wp2_with fail
      go_round
      case rel => exact ⟨k + 1, by omega, by go_num, by rw [HVT.out]; go_num⟩
      case measure => simp [intOf]; omega
    · obtain rfl : k = t.length := by omega
      rw [List.take_length, ← HV.out]
      go_wp2_with fail
      go_ret
      exact ⟨rfl, HR.out, HO.out⟩
set_option maxHeartbeats 1000000 in
theorem itext_any (top g : Nat) (r : Rd) (hr : r.p.length ≤ 1000000) (hok : r.ok) (w : World) (h : RdIs w 118 top g r) :
    Calls Try.prog 103 #[.pointer (some ⟨g, 0, none⟩)] w (TextPost w 118 top g r) := by
  have H := Lib.hid h; have HK := Lib.hid hok; have HK2 := Lib.hid (ok_after hok 2)
  clear h hok
  have hlt : numR 2 r < 65536 := numR_lt 2 r
  have hal := after_len 2 r
  go_enter Try.func103, Try.ntmps103
  go_wp2_with fail
  refine (iwide_any top g 2 (by decide) r hr HK.out w H.out).mono ?_
  rintro e w1 ⟨rfl, h1, h2⟩
  have HR := Lib.hid h1; have HO := Lib.hid h2
  obtain ⟨A, c, hblk, -, -, -, -⟩ := h1.ex
  have c1 := hblk.cell 1
  simp only [List.getElem?_cons_zero, List.getElem?_cons_succ] at c1
  clear h1 h2 hblk
  cases hf : (after 2 r).f with
  | true =>
    rw [hf] at c1
    have e := ok_failed HK2.out hf
    have HE : Hid (textR r = [] ∧ textA r = fails) := by
      show _ ∧ _
      unfold textR textA; rw [e]; exact fails_taken _
    rw [e] at HR
    clear hf e
    generalize numR 2 r = n at *
    go_wp2_with fail
    go_ret
    exact ⟨by rw [HE.out.1]; rfl, by rw [HE.out.2]; exact HR.out, HO.out⟩
  | false =>
    rw [hf] at c1
    clear hf
    have HT : Hid (taken (numR 2 r) (after 2 r) = textR r) := rfl
    have HT2 : Hid (after (numR 2 r) (after 2 r) = textA r) := rfl
    generalize numR 2 r = n at *
    go_wp2_with fail
    refine (itake_any top g n (by omega) (after 2 r) (by omega) HK2.out w1 HR.out).mono ?_
    rintro e w2 ⟨A, c, rfl, hs, hr2, ho2⟩
    have HR2 := Lib.hid hr2; have HO2 := Lib.hid ho2
    have hcv := run_text_src (cap := c) hs
    clear hs hr2 ho2
    rw [HT.out] at hcv ⊢
    rw [HT2.out] at HR2
    go_wp2_with fail
    go_ret
    exact ⟨rfl, HR2.out, HO.out.trans HO2.out⟩
/-- what Whole answers -/
def wholeR (r : Rd) : Bool := !r.f && decide (r.p.length = 0)
theorem whole_any (top g : Nat) (r : Rd) (w : World) (h : RdIs w 118 top g r) :
    Calls Try.prog 105 #[.pointer (some ⟨g, 0, none⟩)] w fun e w' => e = .returned (.bool (wholeR r)) ∧ w = w' := by
  obtain ⟨A, c, hblk, -, -, -, -⟩ := h.ex
  have c0 := hblk.cell 0; have c1 := hblk.cell 1
  simp only [List.getElem?_cons_zero, List.getElem?_cons_succ] at c0 c1
  clear h hblk
  cases hf : r.f with
  | true =>
    have HE : Hid (wholeR r = false) := by show _ = _; simp [wholeR, hf]
    rw [hf] at c1
    clear hf
    go_enter Try.func105, Try.ntmps105
    go_wp2_with fail
    go_ret
    exact ⟨by rw [HE.out]; rfl, rfl⟩
  | false =>
    have HE : Hid (wholeR r = ((r.p.length : Int) == 0)) := by
      show _ = _; unfold wholeR; rw [hf, Bool.eq_iff_iff]; simp
    rw [hf] at c1
    clear hf
    go_enter Try.func105, Try.ntmps105
    go_wp2_with fail
    go_ret
    refine ⟨?_, rfl⟩
    rw [HE.out]
    rfl
end Go.Proofs.Ytlehgacbcacokaa

/- The reference's reading of an archive: what holds on the way. -/
namespace Go.Proofs.Ytlehgacbcacokaa
open Go.RowKit TreeMath RealMath WireMath PackMath

/-- the reference's reading: the count, the bytes -/
structure InIs (w : World) (top ga gr k : Nat) (r : Rd) : Prop where
  blk : Blk w ga 3 [.int .i64 k]
  rd : RdIs w 118 top gr r
  ne : ga ≠ gr
  le : top ≤ ga
  ok : r.ok
theorem InIs.read {w w' : World} {top ga gr k : Nat} {r r' : Rd} (h : InIs w top ga gr k r) (hr : RdIs w' 118 top gr r') (ho : OnlyAt gr w w') (hk : r'.ok) : InIs w' top ga gr k r' :=
  ⟨Blk.only h.blk ho h.ne, hr, h.ne, h.le, hk⟩
theorem InIs.below {w w' : World} {top ga gr k : Nat} {r : Rd} (h : InIs w top ga gr k r) (hb : Below w.heap.size w w') : InIs w' top ga gr k r := by
  obtain ⟨A, c, hg, -⟩ := h.rd.ex
  exact ⟨h.blk.below hb h.blk.lt, h.rd.below hb hg.lt, h.ne, h.le, h.ok⟩
theorem InIs.count {w : World} {top ga gr k : Nat} {r : Rd} (h : InIs w top ga gr k r) (k' : Nat) : InIs (w.setCell ⟨ga, 0, none⟩ (.int .i64 k')) top ga gr k' r := by
  obtain ⟨A, c, hg, h2, h3, h4, h5⟩ := h.rd.ex
  have hle := h.le; have hl2 := h.rd.le; have hne := h.ne
  refine ⟨by have := h.blk.set 0 (.int .i64 (k' : Int)); simpa using this, ?_, h.ne, h.le, h.ok⟩
  refine ⟨⟨A, c, hg.other (fun e => hne e.symm) _, h2, h3, h4.only ((OnlyAt.refl ga w).setCell 0 _) (fun h0 a ha => by have := h5 h0 a ha; omega), h5⟩, hl2⟩
theorem Turned.in_count {w : World} {ga gr : Nat} (k' : Int) : Turned (ArSet ga gr) (ArSet ga gr) w (w.setCell ⟨ga, 0, none⟩ (.int .i64 k')) :=
  ⟨rfl, rfl, rfl, by rw [World.size_setCell]; exact Nat.le_refl _, fun c _ hn => Below.heap_setCell w ⟨ga, 0, none⟩ _ c (fun e => hn (.inl e)), fun _ h => .inl h⟩
/-- while a node is read: the reading, the result's box, the node's -/
structure RNIn (w : World) (top ga gr g3 k : Nat) (r : Rd) (cs : List Value) (W : World) : Prop where
  ar : InIs W top ga gr k r
  b2 : Blk W w.heap.size 27 zero7
  b3 : Blk W g3 27 cs
  turned : Turned (ArSet ga gr) (ArSet ga gr) w W
  lt : w.heap.size < g3
  la : ga < w.heap.size
  lr : gr < w.heap.size
theorem RNIn.step {w W W' : World} {top ga gr g3 k k' : Nat} {r r' : Rd} {cs : List Value} (h : RNIn w top ga gr g3 k r cs W) (ha : InIs W' top ga gr k' r') (ht : Turned (ArSet ga gr) (ArSet ga gr) W W') : RNIn w top ga gr g3 k' r' cs W' := by
  have h1 := h.lt; have h2 := h.la; have h3 := h.lr
  exact ⟨ha, ht.blk h.b2 (fun e => by rcases e with e | e <;> omega), ht.blk h.b3 (fun e => by rcases e with e | e <;> omega), h.turned.trans ht, h1, h2, h3⟩
theorem InIs.other {w w' : World} {top ga gr k : Nat} {r : Rd} (h : InIs w top ga gr k r) (B : Nat) (ha : ga < B) (hr : gr < B) (hb : Below B w w') : InIs w' top ga gr k r :=
  ⟨h.blk.below hb ha, h.rd.below hb hr, h.ne, h.le, h.ok⟩
theorem RNIn.set {w W : World} {top ga gr g3 k : Nat} {r : Rd} {cs : List Value} (h : RNIn w top ga gr g3 k r cs W) (i : Nat) (v : Value) : RNIn w top ga gr g3 k r (cs.set i v) (W.setCell ⟨g3, i, none⟩ v) := by
  have h1 := h.lt; have h2 := h.la; have h3 := h.lr
  exact ⟨h.ar.other w.heap.size h2 h3 ((Below.refl _ _).setCell (by simp only; omega) _), h.b2.other (by simp only; omega) _, h.b3.set i v,
    ⟨h.turned.os, h.turned.tape, h.turned.output, by rw [World.size_setCell]; exact h.turned.size, fun c hc hn => by rw [Below.heap_setCell W ⟨g3, i, none⟩ v c (by simp only; omega)]; exact h.turned.other c hc hn, fun _ h => .inl h⟩, h1, h2, h3⟩
theorem RNIn.below {w W W' : World} {top ga gr g3 k : Nat} {r : Rd} {cs : List Value} (h : RNIn w top ga gr g3 k r cs W) (hb : Below W.heap.size W W') : RNIn w top ga gr g3 k r cs W' :=
  h.step (h.ar.below hb) (Turned.of_below hb)
/-- what holds while a directory is read -/
structure RDirRel (w : World) (top ga gr g3 k : Nat) (r : Rd) (ns : List (List By)) (ks : List T) (vn vk : Value) (W : World) : Prop where
  nin : RNIn w top ga gr g3 k r [.int .u8 1, vn, vk, .slice none 0 0, .bool false, .float .f64 0, .string ⟨#[]⟩] W
  names : Strs W (g3 + 1) vn ns
  kids : Nodes W (g3 + 1) vk ks
  oks : ∀ t ∈ ks, Ok W W.heap.size t ∧ InS (fun c => g3 < c ∧ vn.ownBlock ≠ some c ∧ vk.ownBlock ≠ some c) t
  each : ∀ s ∈ ns, s.length ≤ 65536
/-- a text has been read -/
theorem RDirRel.read {w W W' : World} {top ga gr g3 k k' : Nat} {r r' : Rd} {ns : List (List By)} {ks : List T} {vn vk : Value} (h : RDirRel w top ga gr g3 k r ns ks vn vk W) (ha : InIs W' top ga gr k' r') (ht : Turned (ArSet ga gr) (ArSet ga gr) W W') : RDirRel w top ga gr g3 k' r' ns ks vn vk W' := by
  have h1 := h.nin.lt; have h2 := h.nin.la; have h3 := h.nin.lr
  exact ⟨h.nin.step ha ht, own_turn h.names ht (fun c e => by rcases e with e | e <;> omega), own_turn h.kids ht (fun c e => by rcases e with e | e <;> omega), fun t htm => ⟨(h.oks t htm).1.turned (h.oks t htm).2 ht (fun c hc e => by have := hc.1; rcases e with e | e <;> omega), (h.oks t htm).2⟩, h.each⟩
theorem RDirRel.grown {w W W' : World} {top ga gr g3 k : Nat} {r : Rd} {ns : List (List By)} {ks : List T} {vn vk : Value} (h : RDirRel w top ga gr g3 k r ns ks vn vk W) (hb : Below W.heap.size W W') : RDirRel w top ga gr g3 k r ns ks vn vk W' :=
  h.read (h.nin.ar.below hb) (Turned.of_below hb)
theorem RNIn.grow {w W W' : World} {top ga gr g3 k : Nat} {r : Rd} {cs : List Value} {v : Option Nat} (h : RNIn w top ga gr g3 k r cs W) (hg : W.grownBy W' v) (hv : ∀ c, v = some c → g3 < c) : RNIn w top ga gr g3 k r cs W' := by
  have h1 := h.lt; have h2 := h.la; have h3 := h.lr; have h4 := h.turned.size; have h5 := h.b3.lt
  have hb : Below (g3 + 1) W W' := (Below.refl _ _).grown hg (by omega) (fun c hc => hv c hc)
  exact ⟨h.ar.other (g3 + 1) (by omega) (by omega) hb, h.b2.below hb (by omega), h.b3.below hb (by omega), ⟨hb.os.trans h.turned.os, hb.tape.trans h.turned.tape, hb.output.trans h.turned.output, Nat.le_trans h4 hb.size, fun c hc hn => (hb.block c (by omega)).trans (h.turned.other c hc hn), fun _ h => .inl h⟩, h1, h2, h3⟩
/-- a name has been put behind the others -/
theorem RDirRel.pushN {w W W' : World} {top ga gr g3 k : Nat} {r : Rd} {ns : List (List By)} {ks : List T} {vn vk v' : Value} {s : List By} (h : RDirRel w top ga gr g3 k r ns ks vn vk W) (hs : Strs W' (g3 + 1) v' (ns ++ [s])) (hg : W.grownBy W' vn.ownBlock)
    (hw : ∀ c, v'.ownBlock = some c → vn.ownBlock = some c ∨ W.heap.size ≤ c) (hl : s.length ≤ 65536) : RDirRel w top ga gr g3 k r (ns ++ [s]) ks v' vk (W'.setCell ⟨g3, 1, none⟩ v') := by
  have hn := (h.nin.grow hg (fun c hc => by have := (h.names.lt c hc).1; omega)).set 1 v'
  refine ⟨hn, own_set hs (by omega), own_set (h.kids.kept h.names hg) (by omega), fun t ht => ?_, fun x hx => ?_⟩
  · obtain ⟨h1, h2⟩ := h.oks t ht
    refine ⟨?_, (h2.and h1.inS).mono fun c hc => ⟨hc.1.1, fun e => ?_, hc.1.2.2⟩⟩
    · have h3 := h1.turned h2 (grown_turned hg) (fun c hc e => hc.2.1 e)
      exact h3.turn h2 (fun c hc _ => Below.heap_setCell W' ⟨g3, 1, none⟩ v' c (by have := hc.1; simp only; omega)) (fun _ _ hl => by rw [World.size_setCell]; exact hl)
    · rcases hw c e with e2 | e2
      · exact hc.1.2.1 e2
      · have := hc.2; omega
  · rcases List.mem_append.1 hx with e | e
    · exact h.each x e
    · obtain rfl : x = s := by simpa using e
      exact hl
/-- a kid has been put behind the others -/
theorem RDirRel.pushK {w W W' : World} {top ga gr g3 k : Nat} {r : Rd} {ns : List (List By)} {ks : List T} {vn vk v' : Value} {y : T} (h : RDirRel w top ga gr g3 k r ns ks vn vk W) (hy : Ok W W.heap.size y) (hin : InS (fun c => g3 < c ∧ vn.ownBlock ≠ some c ∧ vk.ownBlock ≠ some c) y)
    (hs : Nodes W' (g3 + 1) v' (ks ++ [y])) (hg : W.grownBy W' vk.ownBlock) (hw : ∀ c, v'.ownBlock = some c → vk.ownBlock = some c ∨ W.heap.size ≤ c) : RDirRel w top ga gr g3 k r ns (ks ++ [y]) vn v' (W'.setCell ⟨g3, 2, none⟩ v') := by
  have hn := (h.nin.grow hg (fun c hc => by have := (h.kids.lt c hc).1; omega)).set 2 v'
  have key : ∀ t, Ok W W.heap.size t → InS (fun c => g3 < c ∧ vn.ownBlock ≠ some c ∧ vk.ownBlock ≠ some c) t → Ok (W'.setCell ⟨g3, 2, none⟩ v') (W'.setCell ⟨g3, 2, none⟩ v').heap.size t ∧ InS (fun c => g3 < c ∧ vn.ownBlock ≠ some c ∧ v'.ownBlock ≠ some c) t := fun t h1 h2 => by
    refine ⟨?_, (h2.and h1.inS).mono fun c hc => ⟨hc.1.1, hc.1.2.1, fun e => ?_⟩⟩
    · have h3 := h1.turned h2 (grown_turned hg) (fun c hc e => hc.2.2 e)
      exact h3.turn h2 (fun c hc _ => Below.heap_setCell W' ⟨g3, 2, none⟩ v' c (by have := hc.1; simp only; omega)) (fun _ _ hl => by rw [World.size_setCell]; exact hl)
    · rcases hw c e with e2 | e2
      · exact hc.1.2.2 e2
      · have := hc.2; omega
  refine ⟨hn, own_set (h.names.kept h.kids hg) (by omega), own_set hs (by omega), fun t ht => ?_, h.each⟩
  rcases List.mem_append.1 ht with e | e
  · exact key t (h.oks t e).1 (h.oks t e).2
  · obtain rfl : t = y := by simpa using e
    exact key t hy hin
/-- the end of it: the node's box is the result's -/
theorem RNIn.done {w W : World} {top ga gr g3 k : Nat} {r : Rd} {x : Hd} {ks : List T} (h : RNIn w top ga gr g3 k r (cellsOf x ks.length) W) (hok : Ok W W.heap.size (.mk x ks)) (hin : InS (fun c => w.heap.size < c) (.mk x ks)) :
    Blk (set7 W w.heap.size (vb x.kind) (.slice x.na x.names.length x.nc) (.slice x.ka ks.length x.kc) (.slice x.da x.data.length x.dc) (.bool x.run) (.float .f64 x.stamp) (vs x.target)) w.heap.size 27 (cellsOf x ks.length) ∧
    Ok (set7 W w.heap.size (vb x.kind) (.slice x.na x.names.length x.nc) (.slice x.ka ks.length x.kc) (.slice x.da x.data.length x.dc) (.bool x.run) (.float .f64 x.stamp) (vs x.target)) (set7 W w.heap.size (vb x.kind) (.slice x.na x.names.length x.nc) (.slice x.ka ks.length x.kc) (.slice x.da x.data.length x.dc) (.bool x.run) (.float .f64 x.stamp) (vs x.target)).heap.size (.mk x ks) ∧
    InS (fun c => w.heap.size ≤ c) (.mk x ks) ∧ InIs (set7 W w.heap.size (vb x.kind) (.slice x.na x.names.length x.nc) (.slice x.ka ks.length x.kc) (.slice x.da x.data.length x.dc) (.bool x.run) (.float .f64 x.stamp) (vs x.target)) top ga gr k r ∧
    Turned (ArSet ga gr) (ArSet ga gr) w (set7 W w.heap.size (vb x.kind) (.slice x.na x.names.length x.nc) (.slice x.ka ks.length x.kc) (.slice x.da x.data.length x.dc) (.bool x.run) (.float .f64 x.stamp) (vs x.target)) := by
  have h1 := h.lt; have h2 := h.la; have h3 := h.lr
  have hoth := set7_other W w.heap.size (vb x.kind) (.slice x.na x.names.length x.nc) (.slice x.ka ks.length x.kc) (.slice x.da x.data.length x.dc) (.bool x.run) (.float .f64 x.stamp) (vs x.target)
  have hsz := set7_size W w.heap.size (vb x.kind) (.slice x.na x.names.length x.nc) (.slice x.ka ks.length x.kc) (.slice x.da x.data.length x.dc) (.bool x.run) (.float .f64 x.stamp) (vs x.target)
  have hbe := set7_below (Below.refl w.heap.size W) w.heap.size (Nat.le_refl _) (vb x.kind) (.slice x.na x.names.length x.nc) (.slice x.ka ks.length x.kc) (.slice x.da x.data.length x.dc) (.bool x.run) (.float .f64 x.stamp) (vs x.target)
  refine ⟨set7_blk h.b2 rfl _ _ _ _ _ _ _, hok.turn hin (fun c hc _ => hoth c (by omega)) (fun _ _ hl => by rw [hsz]; exact hl), hin.mono (fun c hc => by omega), h.ar.other w.heap.size h2 h3 hbe, ?_⟩
  exact ⟨hbe.os.trans h.turned.os, hbe.tape.trans h.turned.tape, hbe.output.trans h.turned.output, by rw [hsz]; exact h.turned.size, fun c hc hn => (hoth c (by omega)).trans (h.turned.other c hc hn), fun _ h => .inl h⟩
/-- what the reference's reading of a node comes to -/
def RNodePost (d : Nat) (w : World) (top ga gr k : Nat) (r : Rd) (e : Ending) (w' : World) : Prop :=
  Turned (ArSet ga gr) (ArSet ga gr) w w' ∧
  match nodeR d k r with
  | none => ∃ z n, e = .returned (.tuple #[nv z n, .bool false])
  | some (t, k', r') => ∃ z lz, e = .returned (.tuple #[nv z lz.length, .bool true]) ∧ erase (.mk z lz) = t ∧ Ok w' w'.heap.size (.mk z lz) ∧ InS (fun c => w.heap.size ≤ c) (.mk z lz) ∧ InIs w' top ga gr k' r'
theorem rpost_none {d : Nat} {w w' : World} {top ga gr k : Nat} {r : Rd} {e : Ending} (h : nodeR d k r = none) (ht : Turned (ArSet ga gr) (ArSet ga gr) w w') (z : Hd) (n : Nat) (he : e = .returned (.tuple #[nv z n, .bool false])) : RNodePost d w top ga gr k r e w' := ⟨ht, by rw [h]; exact ⟨z, n, he⟩⟩
theorem rpost_some {d : Nat} {w w' : World} {top ga gr k : Nat} {r : Rd} {t : T} {k' : Nat} {r' : Rd} {e : Ending} (h : nodeR d k r = some (t, k', r')) (ht : Turned (ArSet ga gr) (ArSet ga gr) w w') (z : Hd) (lz : List T) (h1 : e = .returned (.tuple #[nv z lz.length, .bool true])) (h2 : erase (.mk z lz) = t) (h3 : Ok w' w'.heap.size (.mk z lz)) (h4 : InS (fun c => w.heap.size ≤ c) (.mk z lz)) (h5 : InIs w' top ga gr k' r') : RNodePost d w top ga gr k r e w' :=
  ⟨ht, by rw [h]; exact ⟨z, lz, h1, h2, h3, h4, h5⟩⟩
end Go.Proofs.Ytlehgacbcacokaa
