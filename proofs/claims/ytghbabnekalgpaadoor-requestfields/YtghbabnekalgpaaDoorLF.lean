/- The walk of RequestFields. -/
import Derived.Test.YtghbabnekalgpaaDoorF2
import Derived.Test.YtghbabnekalgpaaDoorE5
import Derived.Test.YtghbabnekalgpaaDoorL0
import Derived.Test.YtghbabnekalgpaaDoorRqMath2
import Derived.BigQuiet
namespace Go.Proofs.YtghbabnekalgpaaDoor
open Go.RowKit BaseMath WireMath ReqMath

set_option maxHeartbeats 4000000 in
set_option maxRecDepth 100000 in
theorem fields_long (k : By) (path name : List By) (n c : Nat) (A : Option Addr) (hp : path.length ≤ maxLen) (hq : name.length ≤ maxLen) (hm : n ≤ maxLen) (h : 60 < path.length ∨ 60 < name.length ∨ 100 < n) (w : World) (ht : KTab w) :
    Calls Tryd.prog 9 #[vb k, vs path, vs name, .slice A n c] w fun e w' => e = .returned (.bool true) ∧ Below w.heap.size w w' := by
  unfold maxLen at hp hq hm
  have HT := Lib.hid ht; clear ht
  have key : (decide ((60 : Int) < path.length) = true) ∨ (decide ((60 : Int) < path.length) = false ∧ decide ((60 : Int) < name.length) = true) ∨ (decide ((60 : Int) < path.length) = false ∧ decide ((60 : Int) < name.length) = false ∧ decide ((100 : Int) < n) = true) := by
    by_cases h1 : 60 < path.length
    · exact .inl (decide_eq_true (by omega))
    · by_cases h2 : 60 < name.length
      · exact .inr (.inl ⟨decide_eq_false (by omega), decide_eq_true (by omega)⟩)
      · exact .inr (.inr ⟨decide_eq_false (by omega), decide_eq_false (by omega), decide_eq_true (by omega)⟩)
  clear h
  rcases key with h1 | ⟨h1, h2⟩ | ⟨h1, h2, h3⟩
  all_goals
    go_enter Tryd.func9, Tryd.ntmps9
    go_wp2_with fail
    refine (lone_any w HT.out).mono ?_
    rintro e w1 ⟨rfl, hb1⟩
    have HB1 := Lib.hid hb1
    clear hb1
    go_wp2_with fail
    refine (lone_any w1 (HT.out.belowS HB1.out)).mono ?_
    rintro e w2 ⟨rfl, hb2⟩
    have HB2 : Hid (Below w.heap.size w w2) := HB1.out.trans (hb2.mono HB1.out.size)
    clear hb2
    go_wp2_with fail
    go_ret
    exact ⟨rfl, HB2.out⟩
theorem kind_of (k : By) : ∃ kk : By, vb kk = .int .u8 (1 + (k.toNat : Int) % 12) ∧ 1 ≤ kk.toNat ∧ kk.toNat ≤ 12 := by
  have h := Nat.mod_lt k.toNat (show 0 < 12 by decide)
  refine ⟨UInt8.ofNat (1 + k.toNat % 12), ?_, ?_, ?_⟩
  · rw [vb_ofNat, Nat.mod_eq_of_lt (by omega)]; congr 1
  · rw [UInt8.toNat_ofNat_of_lt' (by show _ < 256; omega)]; omega
  · rw [UInt8.toNat_ofNat_of_lt' (by show _ < 256; omega)]; omega
set_option maxHeartbeats 4000000 in
set_option maxRecDepth 100000 in
theorem fields_walk (k : By) (path name : List By) (p : List By) (A : Option Addr) (c : Nat) (hp : path.length ≤ maxLen) (hq : name.length ≤ maxLen) (hm : p.length ≤ maxLen) (w : World) (hA : SrcIs w A p) (ht : KTab w) :
    Calls Tryd.prog 9 #[vb k, vs path, vs name, .slice A p.length c] w fun e w' => e = .returned (.bool true) ∧ Below w.heap.size w w' := by
  by_cases hlong : 60 < path.length ∨ 60 < name.length ∨ 100 < p.length
  · exact fields_long k path name p.length c A hp hq hm hlong w ht
  · have h1 : decide ((60 : Int) < path.length) = false := decide_eq_false (by omega)
    have h2 : decide ((60 : Int) < name.length) = false := decide_eq_false (by omega)
    have h3 : decide ((100 : Int) < p.length) = false := decide_eq_false (by omega)
    have HLP : Hid (path.length ≤ 60) := by show _ ≤ _; omega
    have HLN : Hid (name.length ≤ 60) := by show _ ≤ _; omega
    have HLA : Hid (p.length ≤ 100) := by show _ ≤ _; omega
    have HT := Lib.hid ht; have HA := Lib.hid hA
    have hk : k.toNat < 256 := k.toNat_lt
    obtain ⟨kk, hkk, hk1, hk12⟩ := kind_of k
    have HK := Lib.hid hkk
    clear ht hA hkk hlong hp hq hm
    go_enter Tryd.func9, Tryd.ntmps9
    go_wp2_with fail
    refine (lone_any w HT.out).mono ?_
    rintro e w1 ⟨rfl, hb1⟩
    have HB1 := Lib.hid hb1
    clear hb1
    go_wp2_with fail
    have hb4 : Below w1.heap.size w1 (((w1.alloc (.cells #[vs path] 9)).alloc (.cells #[vs name, .slice A p.length c, ns, ns] 57)).alloc (.cells #[.int .u8 (1 + (k.toNat : Int) % 12), vs name, vs path, .slice A p.length c, .slice (some ⟨w1.heap.size, 0, none⟩) 1 1, .slice (some ⟨w1.heap.size + 1, 0, none⟩) 1 1] 40)) := (((Below.refl _ _).alloc (Nat.le_refl _) _).alloc (by simp) _).alloc (by simp; omega) _
    have HB4 : Hid (Below w.heap.size w (((w1.alloc (.cells #[vs path] 9)).alloc (.cells #[vs name, .slice A p.length c, ns, ns] 57)).alloc (.cells #[.int .u8 (1 + (k.toNat : Int) % 12), vs name, vs path, .slice A p.length c, .slice (some ⟨w1.heap.size, 0, none⟩) 1 1, .slice (some ⟨w1.heap.size + 1, 0, none⟩) 1 1] 40))) := HB1.out.trans (hb4.mono HB1.out.size)
    have hA4 := HA.out.below HB4.out
    have hR4 : StrsIs (((w1.alloc (.cells #[vs path] 9)).alloc (.cells #[vs name, .slice A p.length c, ns, ns] 57)).alloc (.cells #[.int .u8 (1 + (k.toNat : Int) % 12), vs name, vs path, .slice A p.length c, .slice (some ⟨w1.heap.size, 0, none⟩) 1 1, .slice (some ⟨w1.heap.size + 1, 0, none⟩) 1 1] 40)) (some ⟨w1.heap.size, 0, none⟩) [path] := fun _ => ⟨w1.heap.size, 0, rfl, fun i hi => by
      obtain rfl : i = 0 := by simp at hi; exact hi
      exact (((Blk.new w1 9 #[vs path]).alloc _).alloc _).cell 0⟩
    have hO4 : OutsAt (((w1.alloc (.cells #[vs path] 9)).alloc (.cells #[vs name, .slice A p.length c, ns, ns] 57)).alloc (.cells #[.int .u8 (1 + (k.toNat : Int) % 12), vs name, vs path, .slice A p.length c, .slice (some ⟨w1.heap.size, 0, none⟩) 1 1, .slice (some ⟨w1.heap.size + 1, 0, none⟩) 1 1] 40)) (some ⟨w1.heap.size + 1, 0, none⟩) [⟨name, p, [], []⟩] := fun _ => ⟨w1.heap.size + 1, 0, rfl, fun i hi => by
      obtain rfl : i = 0 := by simp at hi; exact hi
      have hb : Blk (((w1.alloc (.cells #[vs path] 9)).alloc (.cells #[vs name, .slice A p.length c, ns, ns] 57)).alloc (.cells #[.int .u8 (1 + (k.toNat : Int) % 12), vs name, vs path, .slice A p.length c, .slice (some ⟨w1.heap.size, 0, none⟩) 1 1, .slice (some ⟨w1.heap.size + 1, 0, none⟩) 1 1] 40)) (w1.heap.size + 1) 57 [vs name, .slice A p.length c, ns, ns] := by
        have := (Blk.new (w1.alloc (.cells #[vs path] 9)) 57 #[vs name, .slice A p.length c, ns, ns]).alloc (.cells #[.int .u8 (1 + (k.toNat : Int) % 12), vs name, vs path, .slice A p.length c, .slice (some ⟨w1.heap.size, 0, none⟩) 1 1, .slice (some ⟨w1.heap.size + 1, 0, none⟩) 1 1] 40)
        rw [show (w1.alloc (.cells #[vs path] 9)).heap.size = w1.heap.size + 1 by simp] at this
        exact this
      exact ⟨A, c, none, 0, none, 0, hb.cell 0, hb.cell 1, hb.cell 2, hb.cell 3, hA4, StrsIs.nil _ _, NeedsAt.nil _ _⟩⟩
    have hv4 : ReqIs (((w1.alloc (.cells #[vs path] 9)).alloc (.cells #[vs name, .slice A p.length c, ns, ns] 57)).alloc (.cells #[.int .u8 (1 + (k.toNat : Int) % 12), vs name, vs path, .slice A p.length c, .slice (some ⟨w1.heap.size, 0, none⟩) 1 1, .slice (some ⟨w1.heap.size + 1, 0, none⟩) 1 1] 40)) (.agg #[.int .u8 (1 + (k.toNat : Int) % 12), vs name, vs path, .slice A p.length c, .slice (some ⟨w1.heap.size, 0, none⟩) 1 1, .slice (some ⟨w1.heap.size + 1, 0, none⟩) 1 1]) ⟨kk, name, path, p, [path], [⟨name, p, [], []⟩]⟩ := ⟨A, c, _, 1, _, 1, by rw [HK.out]; rfl, hA4, hR4, hO4⟩
    have hbx : Blk (((w1.alloc (.cells #[vs path] 9)).alloc (.cells #[vs name, .slice A p.length c, ns, ns] 57)).alloc (.cells #[.int .u8 (1 + (k.toNat : Int) % 12), vs name, vs path, .slice A p.length c, .slice (some ⟨w1.heap.size, 0, none⟩) 1 1, .slice (some ⟨w1.heap.size + 1, 0, none⟩) 1 1] 40)) (w1.heap.size + 1 + 1) 40 [.int .u8 (1 + (k.toNat : Int) % 12), vs name, vs path, .slice A p.length c, .slice (some ⟨w1.heap.size, 0, none⟩) 1 1, .slice (some ⟨w1.heap.size + 1, 0, none⟩) 1 1] := by
      have := Blk.new ((w1.alloc (.cells #[vs path] 9)).alloc (.cells #[vs name, .slice A p.length c, ns, ns] 57)) 40 #[.int .u8 (1 + (k.toNat : Int) % 12), vs name, vs path, .slice A p.length c, .slice (some ⟨w1.heap.size, 0, none⟩) 1 1, .slice (some ⟨w1.heap.size + 1, 0, none⟩) 1 1]
      rw [show ((w1.alloc (.cells #[vs path] 9)).alloc (.cells #[vs name, .slice A p.length c, ns, ns] 57)).heap.size = w1.heap.size + 1 + 1 by simp] at this
      exact this
    have hlen : (encB ⟨kk, name, path, p, [path], [⟨name, p, [], []⟩]⟩).length ≤ 1000 := by
      have hlp := HLP.out; have hln := HLN.out; have hla := HLA.out
      have h : (restB (hasK kk.toNat) ⟨kk, name, path, p, [path], [⟨name, p, [], []⟩]⟩).length ≤ 900 := by
        unfold restB
        split
        · rw [textB_length]; simp only; omega
        · split
          · rw [itemB_length]; simp only [List.flatMap_cons, List.flatMap_nil, List.append_nil, textB_length]; omega
          · split
            · unfold outsB outB; simp only [List.flatMap_cons, List.flatMap_nil, List.append_nil, List.length_append, itemB_length, List.length_cons, List.length_nil, List.map_nil]; omega
            · simp
      unfold encB; rw [List.length_append]; simp only [List.length_cons, List.length_nil]; omega
    have hdec : decV (encB ⟨kk, name, path, p, [path], [⟨name, p, [], []⟩]⟩) = (canonV ⟨kk, name, path, p, [path], [⟨name, p, [], []⟩]⟩, 0) := by
      have hlp := HLP.out; have hln := HLN.out; have hla := HLA.out
      refine dec_enc _ ⟨?_, by simp only; omega, fun _ => ⟨by simp only; omega, by simp only; omega, by simp, fun s hs => by simp at hs; subst hs; omega⟩, fun _ => ⟨by simp, by simp, fun i hi => ?_⟩⟩ (by omega)
      · show hasK kk.toNat ≠ 0
        rcases has_cases kk.toNat with h | h | h | h | h <;> omega
      · obtain rfl : i = 0 := by simp at hi; exact hi
        exact ⟨⟨by simp only [List.getElem_cons_zero]; omega, by simp only [List.getElem_cons_zero]; omega, by simp, fun s hs => by simp at hs⟩, by simp, fun z hz => by simp at hz⟩
    have HC1 := Lib.hid (encode_any ⟨kk, name, path, p, [path], [⟨name, p, [], []⟩]⟩ (.agg #[.int .u8 (1 + (k.toNat : Int) % 12), vs name, vs path, .slice A p.length c, .slice (some ⟨w1.heap.size, 0, none⟩) 1 1, .slice (some ⟨w1.heap.size + 1, 0, none⟩) 1 1]) (by simp) (by simp) (by omega) _ (HT.out.belowS HB4.out) hv4)
    have HREN : Hid (∀ U, Below (((w1.alloc (.cells #[vs path] 9)).alloc (.cells #[vs name, .slice A p.length c, ns, ns] 57)).alloc (.cells #[.int .u8 (1 + (k.toNat : Int) % 12), vs name, vs path, .slice A p.length c, .slice (some ⟨w1.heap.size, 0, none⟩) 1 1, .slice (some ⟨w1.heap.size + 1, 0, none⟩) 1 1] 40)).heap.size (((w1.alloc (.cells #[vs path] 9)).alloc (.cells #[vs name, .slice A p.length c, ns, ns] 57)).alloc (.cells #[.int .u8 (1 + (k.toNat : Int) % 12), vs name, vs path, .slice A p.length c, .slice (some ⟨w1.heap.size, 0, none⟩) 1 1, .slice (some ⟨w1.heap.size + 1, 0, none⟩) 1 1] 40)) U → Calls Tryd.prog 17 #[.agg #[.int .u8 (1 + (k.toNat : Int) % 12), vs name, vs path, .slice A p.length c, .slice (some ⟨w1.heap.size, 0, none⟩) 1 1, .slice (some ⟨w1.heap.size + 1, 0, none⟩) 1 1]] U (EncPost U (encB ⟨kk, name, path, p, [path], [⟨name, p, [], []⟩]⟩))) := fun U hU => rencode_any ⟨kk, name, path, p, [path], [⟨name, p, [], []⟩]⟩ (.agg #[.int .u8 (1 + (k.toNat : Int) % 12), vs name, vs path, .slice A p.length c, .slice (some ⟨w1.heap.size, 0, none⟩) 1 1, .slice (some ⟨w1.heap.size + 1, 0, none⟩) 1 1]) (by simp) (by simp) (by omega) U (hv4.below hU)
    have HBX := Lib.hid hbx
    have HBXL : Hid (w1.heap.size + 1 + 1 < (((w1.alloc (.cells #[vs path] 9)).alloc (.cells #[vs name, .slice A p.length c, ns, ns] 57)).alloc (.cells #[.int .u8 (1 + (k.toNat : Int) % 12), vs name, vs path, .slice A p.length c, .slice (some ⟨w1.heap.size, 0, none⟩) 1 1, .slice (some ⟨w1.heap.size + 1, 0, none⟩) 1 1] 40)).heap.size) := by show _ < _; simp
    clear hb4 hA4 hR4 hO4 hv4 hbx
    generalize hqq : encB ⟨kk, name, path, p, [path], [⟨name, p, [], []⟩]⟩ = q at *
    have HLQ := Lib.hid hlen; have HDQ := Lib.hid hdec
    clear hqq hlen hdec
    generalize (((w1.alloc (.cells #[vs path] 9)).alloc (.cells #[vs name, .slice A p.length c, ns, ns] 57)).alloc (.cells #[.int .u8 (1 + (k.toNat : Int) % 12), vs name, vs path, .slice A p.length c, .slice (some ⟨w1.heap.size, 0, none⟩) 1 1, .slice (some ⟨w1.heap.size + 1, 0, none⟩) 1 1] 40)) = w4 at *
    refine HC1.out.mono ?_
    rintro e w5 ⟨v5, rfl, hr5⟩
    obtain ⟨A5, c5, rfl, hs5, hn5, hc5, -⟩ := hr5.src
    have HB5 : Hid (Below w.heap.size w w5) := HB4.out.trans (hr5.below.mono HB4.out.size)
    have HB45 := Lib.hid hr5.below
    have HBX5 := Lib.hid (HBX.out.below hr5.below HBXL.out)
    have HC2 : Hid (Calls Tryd.prog 18 #[.slice A5 q.length c5] w5 (DecPost w5 (decV q))) := decode_any A5 c5 q (by have := HLQ.out; omega) hn5 w5 (HT.out.belowS HB5.out) hs5
    have HS5 := Lib.hid hs5
    clear hr5 hs5 hn5 hc5 HC1
    rw [HDQ.out] at HC2
    go_wp2_with fail
    refine HC2.out.mono ?_
    rintro e w6 ⟨hb6, v6, rfl, hv6⟩
    have HB46 := Lib.hid (HB45.out.trans (hb6.mono HB45.out.size))
    have HB6 : Hid (Below w.heap.size w w6) := HB5.out.trans (hb6.mono HB5.out.size)
    have HBX6 := Lib.hid (HBX5.out.below hb6 (Blk.lt HBX5.out))
    have HS6 := Lib.hid (HS5.out.below hb6)
    clear hb6 HB5 HBX5 HS5 HC2 HDQ HB45
    have hcn : (hasK kk.toNat = 1 ∧ (kk.toNat = 11 ∨ kk.toNat = 12) ∧ canonV ⟨kk, name, path, p, [path], [⟨name, p, [], []⟩]⟩ = ⟨kk, [], [], [], [], []⟩) ∨ (hasK kk.toNat = 2 ∧ (2 ≤ kk.toNat ∧ kk.toNat ≤ 6 ∨ 8 ≤ kk.toNat ∧ kk.toNat ≤ 10) ∧ canonV ⟨kk, name, path, p, [path], [⟨name, p, [], []⟩]⟩ = ⟨kk, [], path, [], [], []⟩) ∨ (kk.toNat = 1 ∧ canonV ⟨kk, name, path, p, [path], [⟨name, p, [], []⟩]⟩ = ⟨kk, name, [], p, [path], []⟩) ∨ (kk.toNat = 7 ∧ canonV ⟨kk, name, path, p, [path], [⟨name, p, [], []⟩]⟩ = ⟨kk, [], [], [], [], [⟨name, p, [], []⟩]⟩) := by
      rcases has_cases kk.toNat with h | h | h | h | h
      · omega
      · exact .inl ⟨h.1, h.2, by unfold canonV; simp only [h.1]; rfl⟩
      · exact .inr (.inl ⟨h.1, h.2, by unfold canonV; simp only [h.1]; rfl⟩)
      · exact .inr (.inr (.inl ⟨h.2, by unfold canonV; simp only [h.1]; rfl⟩))
      · exact .inr (.inr (.inr ⟨h.2, by unfold canonV; simp only [h.1]; rfl⟩))
    obtain ⟨A6, a6, R6, r6, O6, o6, rfl, -⟩ := hv6
    generalize canonV ⟨kk, name, path, p, [path], [⟨name, p, [], []⟩]⟩ = cv at *
    rcases hcn with ⟨-, hcase, rfl⟩ | ⟨-, hcase, rfl⟩ | ⟨hcase, rfl⟩ | ⟨hcase, rfl⟩
    · clear HLP HLN HLA
      rcases hcase with hcase | hcase
      · have e1 : ((kk.toNat : Int) == 1) = false := by rw [beq_eq_false_iff_ne]; omega
        have e7 : ((kk.toNat : Int) == 7) = false := by rw [beq_eq_false_iff_ne]; omega
        have e11 : ((kk.toNat : Int) == 11) = true := by rw [beq_iff_eq]; omega
        have e12 : ((kk.toNat : Int) == 12) = false := by rw [beq_eq_false_iff_ne]; omega
        clear hcase
        by_cases hnm : name = []
        · have f1 : (([] : List By) == name) = true := by rw [beq_iff_eq]; exact hnm.symm
          have f2 : (name == ([] : List By)) = true := by rw [beq_iff_eq]; exact hnm
          clear hnm
          by_cases hpt : path = []
          · have f3 : (([] : List By) == path) = true := by rw [beq_iff_eq]; exact hpt.symm
            have f4 : (path == ([] : List By)) = true := by rw [beq_iff_eq]; exact hpt
            clear hpt
            have ha7 : Below w6.heap.size w6 (w6.alloc (.cells #[vb kk, vs [], vs [], .slice A6 0 a6, .slice R6 0 r6, .slice O6 0 o6] 40)) := (Below.refl _ _).alloc (Nat.le_refl _) _
            have HB7 : Hid (Below w.heap.size w (w6.alloc (.cells #[vb kk, vs [], vs [], .slice A6 0 a6, .slice R6 0 r6, .slice O6 0 o6] 40))) := HB6.out.trans (ha7.mono HB6.out.size)
            have HB47 : Hid (Below w4.heap.size w4 (w6.alloc (.cells #[vb kk, vs [], vs [], .slice A6 0 a6, .slice R6 0 r6, .slice O6 0 o6] 40))) := HB46.out.trans (ha7.mono HB46.out.size)
            have HBX7 := Lib.hid (HBX6.out.below ha7 (Blk.lt HBX6.out))
            have HS7 := Lib.hid (HS6.out.below ha7)
            have HCV7 : Hid (Blk (w6.alloc (.cells #[vb kk, vs [], vs [], .slice A6 0 a6, .slice R6 0 r6, .slice O6 0 o6] 40)) w6.heap.size 40 [vb kk, vs [], vs [], .slice A6 0 a6, .slice R6 0 r6, .slice O6 0 o6]) := Blk.new w6 40 _
            have b0 := Blk.cell HBX7.out 0; have b1 := Blk.cell HBX7.out 1; have b2 := Blk.cell HBX7.out 2; have b3 := Blk.cell HBX7.out 3; have b4 := Blk.cell HBX7.out 4; have b5 := Blk.cell HBX7.out 5
            simp only [List.getElem?_cons_zero, List.getElem?_cons_succ] at b0 b1 b2 b3 b4 b5
            clear ha7 HB6 HB46 HBX6 HS6
            go_wp2_with fail
            clear b0 b1 b2 b3 b4 b5
            have HV7 : Hid (Blk (w6.alloc (.cells #[vb kk, vs [], vs [], .slice A6 0 a6, .slice R6 0 r6, .slice O6 0 o6] 40)) (w1.heap.size + 1 + 1) 40 [.int .u8 (1 + (k.toNat : Int) % 12), vs name, vs path, .slice A p.length c, .slice (some ⟨w1.heap.size, 0, none⟩) 1 1, .slice (some ⟨w1.heap.size + 1, 0, none⟩) 1 1]) := HBX7.out
            clear HBX7
            generalize w6.alloc (.cells #[vb kk, vs [], vs [], .slice A6 0 a6, .slice R6 0 r6, .slice O6 0 o6] 40) = w7 at *
            refine (HREN.out w7 HB47.out).mono ?_
            rintro e w8 ⟨v8, rfl, hr8⟩
            obtain ⟨A8, c8, rfl, hs8, hn8, hc8, -⟩ := hr8.src
            have HB8 : Hid (Below w.heap.size w w8) := HB7.out.trans (hr8.below.mono HB7.out.size)
            have hx8 := Blk.below HV7.out hr8.below (Blk.lt HV7.out)
            have hc8' := Blk.below HCV7.out hr8.below (Blk.lt HCV7.out)
            have hs58 := HS7.out.below hr8.below
            have b0 := hx8.cell 0
            have d0 := hc8'.cell 0; have d1 := hc8'.cell 1; have d2 := hc8'.cell 2; have d3 := hc8'.cell 3; have d4 := hc8'.cell 4; have d5 := hc8'.cell 5
            simp only [List.getElem?_cons_zero, List.getElem?_cons_succ] at b0 d0 d1 d2 d3 d4 d5
            rw [← HK.out] at b0
            have HBS : Hid (Calls Tryd.prog 16 #[.slice A5 q.length c5, .slice A8 q.length c8] w8 fun e w' => e = .returned (.bool true) ∧ ∃ q, w' = w8.drewN q) := bytes_same A5 A8 c5 c8 q (by have := HLQ.out; omega) w8 hs58 hs8
            clear hr8 hs8 hn8 hc8 hx8 hc8' hs58 HV7 HCV7 HB7 HB47 HS7 HREN
            go_wp2_with fail
            refine HBS.out.mono ?_
            rintro e w9 ⟨rfl, q1, rfl⟩
            clear HBS
            go_wp2_with fail
            go_quiet (fail)
            go_wp2_with fail
            go_ret
            exact ⟨rfl, below_drewN HB8.out _⟩
          · have f3 : (([] : List By) == path) = false := by rw [beq_eq_false_iff_ne]; exact fun h => hpt h.symm
            have f4 : (path == ([] : List By)) = false := by rw [beq_eq_false_iff_ne]; exact hpt
            clear hpt
            have ha7 : Below w6.heap.size w6 (w6.alloc (.cells #[vb kk, vs [], vs [], .slice A6 0 a6, .slice R6 0 r6, .slice O6 0 o6] 40)) := (Below.refl _ _).alloc (Nat.le_refl _) _
            have HB7 : Hid (Below w.heap.size w (w6.alloc (.cells #[vb kk, vs [], vs [], .slice A6 0 a6, .slice R6 0 r6, .slice O6 0 o6] 40))) := HB6.out.trans (ha7.mono HB6.out.size)
            have HB47 : Hid (Below w4.heap.size w4 (w6.alloc (.cells #[vb kk, vs [], vs [], .slice A6 0 a6, .slice R6 0 r6, .slice O6 0 o6] 40))) := HB46.out.trans (ha7.mono HB46.out.size)
            have HBX7 := Lib.hid (HBX6.out.below ha7 (Blk.lt HBX6.out))
            have HS7 := Lib.hid (HS6.out.below ha7)
            have HCV7 : Hid (Blk (w6.alloc (.cells #[vb kk, vs [], vs [], .slice A6 0 a6, .slice R6 0 r6, .slice O6 0 o6] 40)) w6.heap.size 40 [vb kk, vs [], vs [], .slice A6 0 a6, .slice R6 0 r6, .slice O6 0 o6]) := Blk.new w6 40 _
            have b0 := Blk.cell HBX7.out 0; have b1 := Blk.cell HBX7.out 1; have b2 := Blk.cell HBX7.out 2; have b3 := Blk.cell HBX7.out 3; have b4 := Blk.cell HBX7.out 4; have b5 := Blk.cell HBX7.out 5
            simp only [List.getElem?_cons_zero, List.getElem?_cons_succ] at b0 b1 b2 b3 b4 b5
            clear ha7 HB6 HB46 HBX6 HS6
            go_wp2_with fail
            clear b0 b1 b2 b3 b4 b5
            have HV7 : Hid (Blk (w6.alloc (.cells #[vb kk, vs [], vs [], .slice A6 0 a6, .slice R6 0 r6, .slice O6 0 o6] 40)) (w1.heap.size + 1 + 1) 40 [.int .u8 (1 + (k.toNat : Int) % 12), vs name, vs path, .slice A p.length c, .slice (some ⟨w1.heap.size, 0, none⟩) 1 1, .slice (some ⟨w1.heap.size + 1, 0, none⟩) 1 1]) := HBX7.out
            clear HBX7
            generalize w6.alloc (.cells #[vb kk, vs [], vs [], .slice A6 0 a6, .slice R6 0 r6, .slice O6 0 o6] 40) = w7 at *
            refine (HREN.out w7 HB47.out).mono ?_
            rintro e w8 ⟨v8, rfl, hr8⟩
            obtain ⟨A8, c8, rfl, hs8, hn8, hc8, -⟩ := hr8.src
            have HB8 : Hid (Below w.heap.size w w8) := HB7.out.trans (hr8.below.mono HB7.out.size)
            have hx8 := Blk.below HV7.out hr8.below (Blk.lt HV7.out)
            have hc8' := Blk.below HCV7.out hr8.below (Blk.lt HCV7.out)
            have hs58 := HS7.out.below hr8.below
            have b0 := hx8.cell 0
            have d0 := hc8'.cell 0; have d1 := hc8'.cell 1; have d2 := hc8'.cell 2; have d3 := hc8'.cell 3; have d4 := hc8'.cell 4; have d5 := hc8'.cell 5
            simp only [List.getElem?_cons_zero, List.getElem?_cons_succ] at b0 d0 d1 d2 d3 d4 d5
            rw [← HK.out] at b0
            have HBS : Hid (Calls Tryd.prog 16 #[.slice A5 q.length c5, .slice A8 q.length c8] w8 fun e w' => e = .returned (.bool true) ∧ ∃ q, w' = w8.drewN q) := bytes_same A5 A8 c5 c8 q (by have := HLQ.out; omega) w8 hs58 hs8
            clear hr8 hs8 hn8 hc8 hx8 hc8' hs58 HV7 HCV7 HB7 HB47 HS7 HREN
            go_wp2_with fail
            refine HBS.out.mono ?_
            rintro e w9 ⟨rfl, q1, rfl⟩
            clear HBS
            go_wp2_with fail
            go_quiet (fail)
            go_wp2_with fail
            go_ret
            exact ⟨rfl, below_drewN HB8.out _⟩
        · have f1 : (([] : List By) == name) = false := by rw [beq_eq_false_iff_ne]; exact fun h => hnm h.symm
          have f2 : (name == ([] : List By)) = false := by rw [beq_eq_false_iff_ne]; exact hnm
          clear hnm
          by_cases hpt : path = []
          · have f3 : (([] : List By) == path) = true := by rw [beq_iff_eq]; exact hpt.symm
            have f4 : (path == ([] : List By)) = true := by rw [beq_iff_eq]; exact hpt
            clear hpt
            have ha7 : Below w6.heap.size w6 (w6.alloc (.cells #[vb kk, vs [], vs [], .slice A6 0 a6, .slice R6 0 r6, .slice O6 0 o6] 40)) := (Below.refl _ _).alloc (Nat.le_refl _) _
            have HB7 : Hid (Below w.heap.size w (w6.alloc (.cells #[vb kk, vs [], vs [], .slice A6 0 a6, .slice R6 0 r6, .slice O6 0 o6] 40))) := HB6.out.trans (ha7.mono HB6.out.size)
            have HB47 : Hid (Below w4.heap.size w4 (w6.alloc (.cells #[vb kk, vs [], vs [], .slice A6 0 a6, .slice R6 0 r6, .slice O6 0 o6] 40))) := HB46.out.trans (ha7.mono HB46.out.size)
            have HBX7 := Lib.hid (HBX6.out.below ha7 (Blk.lt HBX6.out))
            have HS7 := Lib.hid (HS6.out.below ha7)
            have HCV7 : Hid (Blk (w6.alloc (.cells #[vb kk, vs [], vs [], .slice A6 0 a6, .slice R6 0 r6, .slice O6 0 o6] 40)) w6.heap.size 40 [vb kk, vs [], vs [], .slice A6 0 a6, .slice R6 0 r6, .slice O6 0 o6]) := Blk.new w6 40 _
            have b0 := Blk.cell HBX7.out 0; have b1 := Blk.cell HBX7.out 1; have b2 := Blk.cell HBX7.out 2; have b3 := Blk.cell HBX7.out 3; have b4 := Blk.cell HBX7.out 4; have b5 := Blk.cell HBX7.out 5
            simp only [List.getElem?_cons_zero, List.getElem?_cons_succ] at b0 b1 b2 b3 b4 b5
            clear ha7 HB6 HB46 HBX6 HS6
            go_wp2_with fail
            clear b0 b1 b2 b3 b4 b5
            have HV7 : Hid (Blk (w6.alloc (.cells #[vb kk, vs [], vs [], .slice A6 0 a6, .slice R6 0 r6, .slice O6 0 o6] 40)) (w1.heap.size + 1 + 1) 40 [.int .u8 (1 + (k.toNat : Int) % 12), vs name, vs path, .slice A p.length c, .slice (some ⟨w1.heap.size, 0, none⟩) 1 1, .slice (some ⟨w1.heap.size + 1, 0, none⟩) 1 1]) := HBX7.out
            clear HBX7
            generalize w6.alloc (.cells #[vb kk, vs [], vs [], .slice A6 0 a6, .slice R6 0 r6, .slice O6 0 o6] 40) = w7 at *
            refine (HREN.out w7 HB47.out).mono ?_
            rintro e w8 ⟨v8, rfl, hr8⟩
            obtain ⟨A8, c8, rfl, hs8, hn8, hc8, -⟩ := hr8.src
            have HB8 : Hid (Below w.heap.size w w8) := HB7.out.trans (hr8.below.mono HB7.out.size)
            have hx8 := Blk.below HV7.out hr8.below (Blk.lt HV7.out)
            have hc8' := Blk.below HCV7.out hr8.below (Blk.lt HCV7.out)
            have hs58 := HS7.out.below hr8.below
            have b0 := hx8.cell 0
            have d0 := hc8'.cell 0; have d1 := hc8'.cell 1; have d2 := hc8'.cell 2; have d3 := hc8'.cell 3; have d4 := hc8'.cell 4; have d5 := hc8'.cell 5
            simp only [List.getElem?_cons_zero, List.getElem?_cons_succ] at b0 d0 d1 d2 d3 d4 d5
            rw [← HK.out] at b0
            have HBS : Hid (Calls Tryd.prog 16 #[.slice A5 q.length c5, .slice A8 q.length c8] w8 fun e w' => e = .returned (.bool true) ∧ ∃ q, w' = w8.drewN q) := bytes_same A5 A8 c5 c8 q (by have := HLQ.out; omega) w8 hs58 hs8
            clear hr8 hs8 hn8 hc8 hx8 hc8' hs58 HV7 HCV7 HB7 HB47 HS7 HREN
            go_wp2_with fail
            refine HBS.out.mono ?_
            rintro e w9 ⟨rfl, q1, rfl⟩
            clear HBS
            go_wp2_with fail
            go_quiet (fail)
            go_wp2_with fail
            go_ret
            exact ⟨rfl, below_drewN HB8.out _⟩
          · have f3 : (([] : List By) == path) = false := by rw [beq_eq_false_iff_ne]; exact fun h => hpt h.symm
            have f4 : (path == ([] : List By)) = false := by rw [beq_eq_false_iff_ne]; exact hpt
            clear hpt
            have ha7 : Below w6.heap.size w6 (w6.alloc (.cells #[vb kk, vs [], vs [], .slice A6 0 a6, .slice R6 0 r6, .slice O6 0 o6] 40)) := (Below.refl _ _).alloc (Nat.le_refl _) _
            have HB7 : Hid (Below w.heap.size w (w6.alloc (.cells #[vb kk, vs [], vs [], .slice A6 0 a6, .slice R6 0 r6, .slice O6 0 o6] 40))) := HB6.out.trans (ha7.mono HB6.out.size)
            have HB47 : Hid (Below w4.heap.size w4 (w6.alloc (.cells #[vb kk, vs [], vs [], .slice A6 0 a6, .slice R6 0 r6, .slice O6 0 o6] 40))) := HB46.out.trans (ha7.mono HB46.out.size)
            have HBX7 := Lib.hid (HBX6.out.below ha7 (Blk.lt HBX6.out))
            have HS7 := Lib.hid (HS6.out.below ha7)
            have HCV7 : Hid (Blk (w6.alloc (.cells #[vb kk, vs [], vs [], .slice A6 0 a6, .slice R6 0 r6, .slice O6 0 o6] 40)) w6.heap.size 40 [vb kk, vs [], vs [], .slice A6 0 a6, .slice R6 0 r6, .slice O6 0 o6]) := Blk.new w6 40 _
            have b0 := Blk.cell HBX7.out 0; have b1 := Blk.cell HBX7.out 1; have b2 := Blk.cell HBX7.out 2; have b3 := Blk.cell HBX7.out 3; have b4 := Blk.cell HBX7.out 4; have b5 := Blk.cell HBX7.out 5
            simp only [List.getElem?_cons_zero, List.getElem?_cons_succ] at b0 b1 b2 b3 b4 b5
            clear ha7 HB6 HB46 HBX6 HS6
            go_wp2_with fail
            clear b0 b1 b2 b3 b4 b5
            have HV7 : Hid (Blk (w6.alloc (.cells #[vb kk, vs [], vs [], .slice A6 0 a6, .slice R6 0 r6, .slice O6 0 o6] 40)) (w1.heap.size + 1 + 1) 40 [.int .u8 (1 + (k.toNat : Int) % 12), vs name, vs path, .slice A p.length c, .slice (some ⟨w1.heap.size, 0, none⟩) 1 1, .slice (some ⟨w1.heap.size + 1, 0, none⟩) 1 1]) := HBX7.out
            clear HBX7
            generalize w6.alloc (.cells #[vb kk, vs [], vs [], .slice A6 0 a6, .slice R6 0 r6, .slice O6 0 o6] 40) = w7 at *
            refine (HREN.out w7 HB47.out).mono ?_
            rintro e w8 ⟨v8, rfl, hr8⟩
            obtain ⟨A8, c8, rfl, hs8, hn8, hc8, -⟩ := hr8.src
            have HB8 : Hid (Below w.heap.size w w8) := HB7.out.trans (hr8.below.mono HB7.out.size)
            have hx8 := Blk.below HV7.out hr8.below (Blk.lt HV7.out)
            have hc8' := Blk.below HCV7.out hr8.below (Blk.lt HCV7.out)
            have hs58 := HS7.out.below hr8.below
            have b0 := hx8.cell 0
            have d0 := hc8'.cell 0; have d1 := hc8'.cell 1; have d2 := hc8'.cell 2; have d3 := hc8'.cell 3; have d4 := hc8'.cell 4; have d5 := hc8'.cell 5
            simp only [List.getElem?_cons_zero, List.getElem?_cons_succ] at b0 d0 d1 d2 d3 d4 d5
            rw [← HK.out] at b0
            have HBS : Hid (Calls Tryd.prog 16 #[.slice A5 q.length c5, .slice A8 q.length c8] w8 fun e w' => e = .returned (.bool true) ∧ ∃ q, w' = w8.drewN q) := bytes_same A5 A8 c5 c8 q (by have := HLQ.out; omega) w8 hs58 hs8
            clear hr8 hs8 hn8 hc8 hx8 hc8' hs58 HV7 HCV7 HB7 HB47 HS7 HREN
            go_wp2_with fail
            refine HBS.out.mono ?_
            rintro e w9 ⟨rfl, q1, rfl⟩
            clear HBS
            go_wp2_with fail
            go_quiet (fail)
            go_wp2_with fail
            go_ret
            exact ⟨rfl, below_drewN HB8.out _⟩
      · have e1 : ((kk.toNat : Int) == 1) = false := by rw [beq_eq_false_iff_ne]; omega
        have e7 : ((kk.toNat : Int) == 7) = false := by rw [beq_eq_false_iff_ne]; omega
        have e11 : ((kk.toNat : Int) == 11) = false := by rw [beq_eq_false_iff_ne]; omega
        have e12 : ((kk.toNat : Int) == 12) = true := by rw [beq_iff_eq]; omega
        clear hcase
        by_cases hnm : name = []
        · have f1 : (([] : List By) == name) = true := by rw [beq_iff_eq]; exact hnm.symm
          have f2 : (name == ([] : List By)) = true := by rw [beq_iff_eq]; exact hnm
          clear hnm
          by_cases hpt : path = []
          · have f3 : (([] : List By) == path) = true := by rw [beq_iff_eq]; exact hpt.symm
            have f4 : (path == ([] : List By)) = true := by rw [beq_iff_eq]; exact hpt
            clear hpt
            have ha7 : Below w6.heap.size w6 (w6.alloc (.cells #[vb kk, vs [], vs [], .slice A6 0 a6, .slice R6 0 r6, .slice O6 0 o6] 40)) := (Below.refl _ _).alloc (Nat.le_refl _) _
            have HB7 : Hid (Below w.heap.size w (w6.alloc (.cells #[vb kk, vs [], vs [], .slice A6 0 a6, .slice R6 0 r6, .slice O6 0 o6] 40))) := HB6.out.trans (ha7.mono HB6.out.size)
            have HB47 : Hid (Below w4.heap.size w4 (w6.alloc (.cells #[vb kk, vs [], vs [], .slice A6 0 a6, .slice R6 0 r6, .slice O6 0 o6] 40))) := HB46.out.trans (ha7.mono HB46.out.size)
            have HBX7 := Lib.hid (HBX6.out.below ha7 (Blk.lt HBX6.out))
            have HS7 := Lib.hid (HS6.out.below ha7)
            have HCV7 : Hid (Blk (w6.alloc (.cells #[vb kk, vs [], vs [], .slice A6 0 a6, .slice R6 0 r6, .slice O6 0 o6] 40)) w6.heap.size 40 [vb kk, vs [], vs [], .slice A6 0 a6, .slice R6 0 r6, .slice O6 0 o6]) := Blk.new w6 40 _
            have b0 := Blk.cell HBX7.out 0; have b1 := Blk.cell HBX7.out 1; have b2 := Blk.cell HBX7.out 2; have b3 := Blk.cell HBX7.out 3; have b4 := Blk.cell HBX7.out 4; have b5 := Blk.cell HBX7.out 5
            simp only [List.getElem?_cons_zero, List.getElem?_cons_succ] at b0 b1 b2 b3 b4 b5
            clear ha7 HB6 HB46 HBX6 HS6
            go_wp2_with fail
            clear b0 b1 b2 b3 b4 b5
            have HV7 : Hid (Blk (w6.alloc (.cells #[vb kk, vs [], vs [], .slice A6 0 a6, .slice R6 0 r6, .slice O6 0 o6] 40)) (w1.heap.size + 1 + 1) 40 [.int .u8 (1 + (k.toNat : Int) % 12), vs name, vs path, .slice A p.length c, .slice (some ⟨w1.heap.size, 0, none⟩) 1 1, .slice (some ⟨w1.heap.size + 1, 0, none⟩) 1 1]) := HBX7.out
            clear HBX7
            generalize w6.alloc (.cells #[vb kk, vs [], vs [], .slice A6 0 a6, .slice R6 0 r6, .slice O6 0 o6] 40) = w7 at *
            refine (HREN.out w7 HB47.out).mono ?_
            rintro e w8 ⟨v8, rfl, hr8⟩
            obtain ⟨A8, c8, rfl, hs8, hn8, hc8, -⟩ := hr8.src
            have HB8 : Hid (Below w.heap.size w w8) := HB7.out.trans (hr8.below.mono HB7.out.size)
            have hx8 := Blk.below HV7.out hr8.below (Blk.lt HV7.out)
            have hc8' := Blk.below HCV7.out hr8.below (Blk.lt HCV7.out)
            have hs58 := HS7.out.below hr8.below
            have b0 := hx8.cell 0
            have d0 := hc8'.cell 0; have d1 := hc8'.cell 1; have d2 := hc8'.cell 2; have d3 := hc8'.cell 3; have d4 := hc8'.cell 4; have d5 := hc8'.cell 5
            simp only [List.getElem?_cons_zero, List.getElem?_cons_succ] at b0 d0 d1 d2 d3 d4 d5
            rw [← HK.out] at b0
            have HBS : Hid (Calls Tryd.prog 16 #[.slice A5 q.length c5, .slice A8 q.length c8] w8 fun e w' => e = .returned (.bool true) ∧ ∃ q, w' = w8.drewN q) := bytes_same A5 A8 c5 c8 q (by have := HLQ.out; omega) w8 hs58 hs8
            clear hr8 hs8 hn8 hc8 hx8 hc8' hs58 HV7 HCV7 HB7 HB47 HS7 HREN
            go_wp2_with fail
            refine HBS.out.mono ?_
            rintro e w9 ⟨rfl, q1, rfl⟩
            clear HBS
            go_wp2_with fail
            go_quiet (fail)
            go_wp2_with fail
            go_ret
            exact ⟨rfl, below_drewN HB8.out _⟩
          · have f3 : (([] : List By) == path) = false := by rw [beq_eq_false_iff_ne]; exact fun h => hpt h.symm
            have f4 : (path == ([] : List By)) = false := by rw [beq_eq_false_iff_ne]; exact hpt
            clear hpt
            have ha7 : Below w6.heap.size w6 (w6.alloc (.cells #[vb kk, vs [], vs [], .slice A6 0 a6, .slice R6 0 r6, .slice O6 0 o6] 40)) := (Below.refl _ _).alloc (Nat.le_refl _) _
            have HB7 : Hid (Below w.heap.size w (w6.alloc (.cells #[vb kk, vs [], vs [], .slice A6 0 a6, .slice R6 0 r6, .slice O6 0 o6] 40))) := HB6.out.trans (ha7.mono HB6.out.size)
            have HB47 : Hid (Below w4.heap.size w4 (w6.alloc (.cells #[vb kk, vs [], vs [], .slice A6 0 a6, .slice R6 0 r6, .slice O6 0 o6] 40))) := HB46.out.trans (ha7.mono HB46.out.size)
            have HBX7 := Lib.hid (HBX6.out.below ha7 (Blk.lt HBX6.out))
            have HS7 := Lib.hid (HS6.out.below ha7)
            have HCV7 : Hid (Blk (w6.alloc (.cells #[vb kk, vs [], vs [], .slice A6 0 a6, .slice R6 0 r6, .slice O6 0 o6] 40)) w6.heap.size 40 [vb kk, vs [], vs [], .slice A6 0 a6, .slice R6 0 r6, .slice O6 0 o6]) := Blk.new w6 40 _
            have b0 := Blk.cell HBX7.out 0; have b1 := Blk.cell HBX7.out 1; have b2 := Blk.cell HBX7.out 2; have b3 := Blk.cell HBX7.out 3; have b4 := Blk.cell HBX7.out 4; have b5 := Blk.cell HBX7.out 5
            simp only [List.getElem?_cons_zero, List.getElem?_cons_succ] at b0 b1 b2 b3 b4 b5
            clear ha7 HB6 HB46 HBX6 HS6
            go_wp2_with fail
            clear b0 b1 b2 b3 b4 b5
            have HV7 : Hid (Blk (w6.alloc (.cells #[vb kk, vs [], vs [], .slice A6 0 a6, .slice R6 0 r6, .slice O6 0 o6] 40)) (w1.heap.size + 1 + 1) 40 [.int .u8 (1 + (k.toNat : Int) % 12), vs name, vs path, .slice A p.length c, .slice (some ⟨w1.heap.size, 0, none⟩) 1 1, .slice (some ⟨w1.heap.size + 1, 0, none⟩) 1 1]) := HBX7.out
            clear HBX7
            generalize w6.alloc (.cells #[vb kk, vs [], vs [], .slice A6 0 a6, .slice R6 0 r6, .slice O6 0 o6] 40) = w7 at *
            refine (HREN.out w7 HB47.out).mono ?_
            rintro e w8 ⟨v8, rfl, hr8⟩
            obtain ⟨A8, c8, rfl, hs8, hn8, hc8, -⟩ := hr8.src
            have HB8 : Hid (Below w.heap.size w w8) := HB7.out.trans (hr8.below.mono HB7.out.size)
            have hx8 := Blk.below HV7.out hr8.below (Blk.lt HV7.out)
            have hc8' := Blk.below HCV7.out hr8.below (Blk.lt HCV7.out)
            have hs58 := HS7.out.below hr8.below
            have b0 := hx8.cell 0
            have d0 := hc8'.cell 0; have d1 := hc8'.cell 1; have d2 := hc8'.cell 2; have d3 := hc8'.cell 3; have d4 := hc8'.cell 4; have d5 := hc8'.cell 5
            simp only [List.getElem?_cons_zero, List.getElem?_cons_succ] at b0 d0 d1 d2 d3 d4 d5
            rw [← HK.out] at b0
            have HBS : Hid (Calls Tryd.prog 16 #[.slice A5 q.length c5, .slice A8 q.length c8] w8 fun e w' => e = .returned (.bool true) ∧ ∃ q, w' = w8.drewN q) := bytes_same A5 A8 c5 c8 q (by have := HLQ.out; omega) w8 hs58 hs8
            clear hr8 hs8 hn8 hc8 hx8 hc8' hs58 HV7 HCV7 HB7 HB47 HS7 HREN
            go_wp2_with fail
            refine HBS.out.mono ?_
            rintro e w9 ⟨rfl, q1, rfl⟩
            clear HBS
            go_wp2_with fail
            go_quiet (fail)
            go_wp2_with fail
            go_ret
            exact ⟨rfl, below_drewN HB8.out _⟩
        · have f1 : (([] : List By) == name) = false := by rw [beq_eq_false_iff_ne]; exact fun h => hnm h.symm
          have f2 : (name == ([] : List By)) = false := by rw [beq_eq_false_iff_ne]; exact hnm
          clear hnm
          by_cases hpt : path = []
          · have f3 : (([] : List By) == path) = true := by rw [beq_iff_eq]; exact hpt.symm
            have f4 : (path == ([] : List By)) = true := by rw [beq_iff_eq]; exact hpt
            clear hpt
            have ha7 : Below w6.heap.size w6 (w6.alloc (.cells #[vb kk, vs [], vs [], .slice A6 0 a6, .slice R6 0 r6, .slice O6 0 o6] 40)) := (Below.refl _ _).alloc (Nat.le_refl _) _
            have HB7 : Hid (Below w.heap.size w (w6.alloc (.cells #[vb kk, vs [], vs [], .slice A6 0 a6, .slice R6 0 r6, .slice O6 0 o6] 40))) := HB6.out.trans (ha7.mono HB6.out.size)
            have HB47 : Hid (Below w4.heap.size w4 (w6.alloc (.cells #[vb kk, vs [], vs [], .slice A6 0 a6, .slice R6 0 r6, .slice O6 0 o6] 40))) := HB46.out.trans (ha7.mono HB46.out.size)
            have HBX7 := Lib.hid (HBX6.out.below ha7 (Blk.lt HBX6.out))
            have HS7 := Lib.hid (HS6.out.below ha7)
            have HCV7 : Hid (Blk (w6.alloc (.cells #[vb kk, vs [], vs [], .slice A6 0 a6, .slice R6 0 r6, .slice O6 0 o6] 40)) w6.heap.size 40 [vb kk, vs [], vs [], .slice A6 0 a6, .slice R6 0 r6, .slice O6 0 o6]) := Blk.new w6 40 _
            have b0 := Blk.cell HBX7.out 0; have b1 := Blk.cell HBX7.out 1; have b2 := Blk.cell HBX7.out 2; have b3 := Blk.cell HBX7.out 3; have b4 := Blk.cell HBX7.out 4; have b5 := Blk.cell HBX7.out 5
            simp only [List.getElem?_cons_zero, List.getElem?_cons_succ] at b0 b1 b2 b3 b4 b5
            clear ha7 HB6 HB46 HBX6 HS6
            go_wp2_with fail
            clear b0 b1 b2 b3 b4 b5
            have HV7 : Hid (Blk (w6.alloc (.cells #[vb kk, vs [], vs [], .slice A6 0 a6, .slice R6 0 r6, .slice O6 0 o6] 40)) (w1.heap.size + 1 + 1) 40 [.int .u8 (1 + (k.toNat : Int) % 12), vs name, vs path, .slice A p.length c, .slice (some ⟨w1.heap.size, 0, none⟩) 1 1, .slice (some ⟨w1.heap.size + 1, 0, none⟩) 1 1]) := HBX7.out
            clear HBX7
            generalize w6.alloc (.cells #[vb kk, vs [], vs [], .slice A6 0 a6, .slice R6 0 r6, .slice O6 0 o6] 40) = w7 at *
            refine (HREN.out w7 HB47.out).mono ?_
            rintro e w8 ⟨v8, rfl, hr8⟩
            obtain ⟨A8, c8, rfl, hs8, hn8, hc8, -⟩ := hr8.src
            have HB8 : Hid (Below w.heap.size w w8) := HB7.out.trans (hr8.below.mono HB7.out.size)
            have hx8 := Blk.below HV7.out hr8.below (Blk.lt HV7.out)
            have hc8' := Blk.below HCV7.out hr8.below (Blk.lt HCV7.out)
            have hs58 := HS7.out.below hr8.below
            have b0 := hx8.cell 0
            have d0 := hc8'.cell 0; have d1 := hc8'.cell 1; have d2 := hc8'.cell 2; have d3 := hc8'.cell 3; have d4 := hc8'.cell 4; have d5 := hc8'.cell 5
            simp only [List.getElem?_cons_zero, List.getElem?_cons_succ] at b0 d0 d1 d2 d3 d4 d5
            rw [← HK.out] at b0
            have HBS : Hid (Calls Tryd.prog 16 #[.slice A5 q.length c5, .slice A8 q.length c8] w8 fun e w' => e = .returned (.bool true) ∧ ∃ q, w' = w8.drewN q) := bytes_same A5 A8 c5 c8 q (by have := HLQ.out; omega) w8 hs58 hs8
            clear hr8 hs8 hn8 hc8 hx8 hc8' hs58 HV7 HCV7 HB7 HB47 HS7 HREN
            go_wp2_with fail
            refine HBS.out.mono ?_
            rintro e w9 ⟨rfl, q1, rfl⟩
            clear HBS
            go_wp2_with fail
            go_quiet (fail)
            go_wp2_with fail
            go_ret
            exact ⟨rfl, below_drewN HB8.out _⟩
          · have f3 : (([] : List By) == path) = false := by rw [beq_eq_false_iff_ne]; exact fun h => hpt h.symm
            have f4 : (path == ([] : List By)) = false := by rw [beq_eq_false_iff_ne]; exact hpt
            clear hpt
            have ha7 : Below w6.heap.size w6 (w6.alloc (.cells #[vb kk, vs [], vs [], .slice A6 0 a6, .slice R6 0 r6, .slice O6 0 o6] 40)) := (Below.refl _ _).alloc (Nat.le_refl _) _
            have HB7 : Hid (Below w.heap.size w (w6.alloc (.cells #[vb kk, vs [], vs [], .slice A6 0 a6, .slice R6 0 r6, .slice O6 0 o6] 40))) := HB6.out.trans (ha7.mono HB6.out.size)
            have HB47 : Hid (Below w4.heap.size w4 (w6.alloc (.cells #[vb kk, vs [], vs [], .slice A6 0 a6, .slice R6 0 r6, .slice O6 0 o6] 40))) := HB46.out.trans (ha7.mono HB46.out.size)
            have HBX7 := Lib.hid (HBX6.out.below ha7 (Blk.lt HBX6.out))
            have HS7 := Lib.hid (HS6.out.below ha7)
            have HCV7 : Hid (Blk (w6.alloc (.cells #[vb kk, vs [], vs [], .slice A6 0 a6, .slice R6 0 r6, .slice O6 0 o6] 40)) w6.heap.size 40 [vb kk, vs [], vs [], .slice A6 0 a6, .slice R6 0 r6, .slice O6 0 o6]) := Blk.new w6 40 _
            have b0 := Blk.cell HBX7.out 0; have b1 := Blk.cell HBX7.out 1; have b2 := Blk.cell HBX7.out 2; have b3 := Blk.cell HBX7.out 3; have b4 := Blk.cell HBX7.out 4; have b5 := Blk.cell HBX7.out 5
            simp only [List.getElem?_cons_zero, List.getElem?_cons_succ] at b0 b1 b2 b3 b4 b5
            clear ha7 HB6 HB46 HBX6 HS6
            go_wp2_with fail
            clear b0 b1 b2 b3 b4 b5
            have HV7 : Hid (Blk (w6.alloc (.cells #[vb kk, vs [], vs [], .slice A6 0 a6, .slice R6 0 r6, .slice O6 0 o6] 40)) (w1.heap.size + 1 + 1) 40 [.int .u8 (1 + (k.toNat : Int) % 12), vs name, vs path, .slice A p.length c, .slice (some ⟨w1.heap.size, 0, none⟩) 1 1, .slice (some ⟨w1.heap.size + 1, 0, none⟩) 1 1]) := HBX7.out
            clear HBX7
            generalize w6.alloc (.cells #[vb kk, vs [], vs [], .slice A6 0 a6, .slice R6 0 r6, .slice O6 0 o6] 40) = w7 at *
            refine (HREN.out w7 HB47.out).mono ?_
            rintro e w8 ⟨v8, rfl, hr8⟩
            obtain ⟨A8, c8, rfl, hs8, hn8, hc8, -⟩ := hr8.src
            have HB8 : Hid (Below w.heap.size w w8) := HB7.out.trans (hr8.below.mono HB7.out.size)
            have hx8 := Blk.below HV7.out hr8.below (Blk.lt HV7.out)
            have hc8' := Blk.below HCV7.out hr8.below (Blk.lt HCV7.out)
            have hs58 := HS7.out.below hr8.below
            have b0 := hx8.cell 0
            have d0 := hc8'.cell 0; have d1 := hc8'.cell 1; have d2 := hc8'.cell 2; have d3 := hc8'.cell 3; have d4 := hc8'.cell 4; have d5 := hc8'.cell 5
            simp only [List.getElem?_cons_zero, List.getElem?_cons_succ] at b0 d0 d1 d2 d3 d4 d5
            rw [← HK.out] at b0
            have HBS : Hid (Calls Tryd.prog 16 #[.slice A5 q.length c5, .slice A8 q.length c8] w8 fun e w' => e = .returned (.bool true) ∧ ∃ q, w' = w8.drewN q) := bytes_same A5 A8 c5 c8 q (by have := HLQ.out; omega) w8 hs58 hs8
            clear hr8 hs8 hn8 hc8 hx8 hc8' hs58 HV7 HCV7 HB7 HB47 HS7 HREN
            go_wp2_with fail
            refine HBS.out.mono ?_
            rintro e w9 ⟨rfl, q1, rfl⟩
            clear HBS
            go_wp2_with fail
            go_quiet (fail)
            go_wp2_with fail
            go_ret
            exact ⟨rfl, below_drewN HB8.out _⟩
    · clear HLP HLN HLA
      have e1 : ((kk.toNat : Int) == 1) = false := by rw [beq_eq_false_iff_ne]; omega
      have e7 : ((kk.toNat : Int) == 7) = false := by rw [beq_eq_false_iff_ne]; omega
      have e11 : ((kk.toNat : Int) == 11) = false := by rw [beq_eq_false_iff_ne]; omega
      have e12 : ((kk.toNat : Int) == 12) = false := by rw [beq_eq_false_iff_ne]; omega
      clear hcase
      by_cases hnm : name = []
      · have f1 : (([] : List By) == name) = true := by rw [beq_iff_eq]; exact hnm.symm
        have f2 : (name == ([] : List By)) = true := by rw [beq_iff_eq]; exact hnm
        clear hnm
        have ha7 : Below w6.heap.size w6 (w6.alloc (.cells #[vb kk, vs [], vs path, .slice A6 0 a6, .slice R6 0 r6, .slice O6 0 o6] 40)) := (Below.refl _ _).alloc (Nat.le_refl _) _
        have HB7 : Hid (Below w.heap.size w (w6.alloc (.cells #[vb kk, vs [], vs path, .slice A6 0 a6, .slice R6 0 r6, .slice O6 0 o6] 40))) := HB6.out.trans (ha7.mono HB6.out.size)
        have HB47 : Hid (Below w4.heap.size w4 (w6.alloc (.cells #[vb kk, vs [], vs path, .slice A6 0 a6, .slice R6 0 r6, .slice O6 0 o6] 40))) := HB46.out.trans (ha7.mono HB46.out.size)
        have HBX7 := Lib.hid (HBX6.out.below ha7 (Blk.lt HBX6.out))
        have HS7 := Lib.hid (HS6.out.below ha7)
        have HCV7 : Hid (Blk (w6.alloc (.cells #[vb kk, vs [], vs path, .slice A6 0 a6, .slice R6 0 r6, .slice O6 0 o6] 40)) w6.heap.size 40 [vb kk, vs [], vs path, .slice A6 0 a6, .slice R6 0 r6, .slice O6 0 o6]) := Blk.new w6 40 _
        have b0 := Blk.cell HBX7.out 0; have b1 := Blk.cell HBX7.out 1; have b2 := Blk.cell HBX7.out 2; have b3 := Blk.cell HBX7.out 3; have b4 := Blk.cell HBX7.out 4; have b5 := Blk.cell HBX7.out 5
        simp only [List.getElem?_cons_zero, List.getElem?_cons_succ] at b0 b1 b2 b3 b4 b5
        clear ha7 HB6 HB46 HBX6 HS6
        go_wp2_with fail
        clear b0 b1 b2 b3 b4 b5
        have HV7 : Hid (Blk (w6.alloc (.cells #[vb kk, vs [], vs path, .slice A6 0 a6, .slice R6 0 r6, .slice O6 0 o6] 40)) (w1.heap.size + 1 + 1) 40 [.int .u8 (1 + (k.toNat : Int) % 12), vs name, vs path, .slice A p.length c, .slice (some ⟨w1.heap.size, 0, none⟩) 1 1, .slice (some ⟨w1.heap.size + 1, 0, none⟩) 1 1]) := HBX7.out
        clear HBX7
        generalize w6.alloc (.cells #[vb kk, vs [], vs path, .slice A6 0 a6, .slice R6 0 r6, .slice O6 0 o6] 40) = w7 at *
        refine (HREN.out w7 HB47.out).mono ?_
        rintro e w8 ⟨v8, rfl, hr8⟩
        obtain ⟨A8, c8, rfl, hs8, hn8, hc8, -⟩ := hr8.src
        have HB8 : Hid (Below w.heap.size w w8) := HB7.out.trans (hr8.below.mono HB7.out.size)
        have hx8 := Blk.below HV7.out hr8.below (Blk.lt HV7.out)
        have hc8' := Blk.below HCV7.out hr8.below (Blk.lt HCV7.out)
        have hs58 := HS7.out.below hr8.below
        have b0 := hx8.cell 0
        have d0 := hc8'.cell 0; have d1 := hc8'.cell 1; have d2 := hc8'.cell 2; have d3 := hc8'.cell 3; have d4 := hc8'.cell 4; have d5 := hc8'.cell 5
        simp only [List.getElem?_cons_zero, List.getElem?_cons_succ] at b0 d0 d1 d2 d3 d4 d5
        rw [← HK.out] at b0
        have HBS : Hid (Calls Tryd.prog 16 #[.slice A5 q.length c5, .slice A8 q.length c8] w8 fun e w' => e = .returned (.bool true) ∧ ∃ q, w' = w8.drewN q) := bytes_same A5 A8 c5 c8 q (by have := HLQ.out; omega) w8 hs58 hs8
        clear hr8 hs8 hn8 hc8 hx8 hc8' hs58 HV7 HCV7 HB7 HB47 HS7 HREN
        go_wp2_with fail
        refine HBS.out.mono ?_
        rintro e w9 ⟨rfl, q1, rfl⟩
        clear HBS
        go_wp2_with fail
        go_quiet (fail)
        go_wp2_with fail
        go_ret
        exact ⟨rfl, below_drewN HB8.out _⟩
      · have f1 : (([] : List By) == name) = false := by rw [beq_eq_false_iff_ne]; exact fun h => hnm h.symm
        have f2 : (name == ([] : List By)) = false := by rw [beq_eq_false_iff_ne]; exact hnm
        clear hnm
        have ha7 : Below w6.heap.size w6 (w6.alloc (.cells #[vb kk, vs [], vs path, .slice A6 0 a6, .slice R6 0 r6, .slice O6 0 o6] 40)) := (Below.refl _ _).alloc (Nat.le_refl _) _
        have HB7 : Hid (Below w.heap.size w (w6.alloc (.cells #[vb kk, vs [], vs path, .slice A6 0 a6, .slice R6 0 r6, .slice O6 0 o6] 40))) := HB6.out.trans (ha7.mono HB6.out.size)
        have HB47 : Hid (Below w4.heap.size w4 (w6.alloc (.cells #[vb kk, vs [], vs path, .slice A6 0 a6, .slice R6 0 r6, .slice O6 0 o6] 40))) := HB46.out.trans (ha7.mono HB46.out.size)
        have HBX7 := Lib.hid (HBX6.out.below ha7 (Blk.lt HBX6.out))
        have HS7 := Lib.hid (HS6.out.below ha7)
        have HCV7 : Hid (Blk (w6.alloc (.cells #[vb kk, vs [], vs path, .slice A6 0 a6, .slice R6 0 r6, .slice O6 0 o6] 40)) w6.heap.size 40 [vb kk, vs [], vs path, .slice A6 0 a6, .slice R6 0 r6, .slice O6 0 o6]) := Blk.new w6 40 _
        have b0 := Blk.cell HBX7.out 0; have b1 := Blk.cell HBX7.out 1; have b2 := Blk.cell HBX7.out 2; have b3 := Blk.cell HBX7.out 3; have b4 := Blk.cell HBX7.out 4; have b5 := Blk.cell HBX7.out 5
        simp only [List.getElem?_cons_zero, List.getElem?_cons_succ] at b0 b1 b2 b3 b4 b5
        clear ha7 HB6 HB46 HBX6 HS6
        go_wp2_with fail
        clear b0 b1 b2 b3 b4 b5
        have HV7 : Hid (Blk (w6.alloc (.cells #[vb kk, vs [], vs path, .slice A6 0 a6, .slice R6 0 r6, .slice O6 0 o6] 40)) (w1.heap.size + 1 + 1) 40 [.int .u8 (1 + (k.toNat : Int) % 12), vs name, vs path, .slice A p.length c, .slice (some ⟨w1.heap.size, 0, none⟩) 1 1, .slice (some ⟨w1.heap.size + 1, 0, none⟩) 1 1]) := HBX7.out
        clear HBX7
        generalize w6.alloc (.cells #[vb kk, vs [], vs path, .slice A6 0 a6, .slice R6 0 r6, .slice O6 0 o6] 40) = w7 at *
        refine (HREN.out w7 HB47.out).mono ?_
        rintro e w8 ⟨v8, rfl, hr8⟩
        obtain ⟨A8, c8, rfl, hs8, hn8, hc8, -⟩ := hr8.src
        have HB8 : Hid (Below w.heap.size w w8) := HB7.out.trans (hr8.below.mono HB7.out.size)
        have hx8 := Blk.below HV7.out hr8.below (Blk.lt HV7.out)
        have hc8' := Blk.below HCV7.out hr8.below (Blk.lt HCV7.out)
        have hs58 := HS7.out.below hr8.below
        have b0 := hx8.cell 0
        have d0 := hc8'.cell 0; have d1 := hc8'.cell 1; have d2 := hc8'.cell 2; have d3 := hc8'.cell 3; have d4 := hc8'.cell 4; have d5 := hc8'.cell 5
        simp only [List.getElem?_cons_zero, List.getElem?_cons_succ] at b0 d0 d1 d2 d3 d4 d5
        rw [← HK.out] at b0
        have HBS : Hid (Calls Tryd.prog 16 #[.slice A5 q.length c5, .slice A8 q.length c8] w8 fun e w' => e = .returned (.bool true) ∧ ∃ q, w' = w8.drewN q) := bytes_same A5 A8 c5 c8 q (by have := HLQ.out; omega) w8 hs58 hs8
        clear hr8 hs8 hn8 hc8 hx8 hc8' hs58 HV7 HCV7 HB7 HB47 HS7 HREN
        go_wp2_with fail
        refine HBS.out.mono ?_
        rintro e w9 ⟨rfl, q1, rfl⟩
        clear HBS
        go_wp2_with fail
        go_quiet (fail)
        go_wp2_with fail
        go_ret
        exact ⟨rfl, below_drewN HB8.out _⟩
    · clear HLP HLN HLA
      have e1 : ((kk.toNat : Int) == 1) = true := by rw [beq_iff_eq]; omega
      have e7 : ((kk.toNat : Int) == 7) = false := by rw [beq_eq_false_iff_ne]; omega
      have e11 : ((kk.toNat : Int) == 11) = false := by rw [beq_eq_false_iff_ne]; omega
      have e12 : ((kk.toNat : Int) == 12) = false := by rw [beq_eq_false_iff_ne]; omega
      clear hcase
      by_cases hpt : path = []
      · have f3 : (([] : List By) == path) = true := by rw [beq_iff_eq]; exact hpt.symm
        have f4 : (path == ([] : List By)) = true := by rw [beq_iff_eq]; exact hpt
        clear hpt
        have ha7 : Below w6.heap.size w6 (w6.alloc (.cells #[vb kk, vs name, vs [], .slice A6 p.length a6, .slice R6 1 r6, .slice O6 0 o6] 40)) := (Below.refl _ _).alloc (Nat.le_refl _) _
        have HB7 : Hid (Below w.heap.size w (w6.alloc (.cells #[vb kk, vs name, vs [], .slice A6 p.length a6, .slice R6 1 r6, .slice O6 0 o6] 40))) := HB6.out.trans (ha7.mono HB6.out.size)
        have HB47 : Hid (Below w4.heap.size w4 (w6.alloc (.cells #[vb kk, vs name, vs [], .slice A6 p.length a6, .slice R6 1 r6, .slice O6 0 o6] 40))) := HB46.out.trans (ha7.mono HB46.out.size)
        have HBX7 := Lib.hid (HBX6.out.below ha7 (Blk.lt HBX6.out))
        have HS7 := Lib.hid (HS6.out.below ha7)
        have HCV7 : Hid (Blk (w6.alloc (.cells #[vb kk, vs name, vs [], .slice A6 p.length a6, .slice R6 1 r6, .slice O6 0 o6] 40)) w6.heap.size 40 [vb kk, vs name, vs [], .slice A6 p.length a6, .slice R6 1 r6, .slice O6 0 o6]) := Blk.new w6 40 _
        have b0 := Blk.cell HBX7.out 0; have b1 := Blk.cell HBX7.out 1; have b2 := Blk.cell HBX7.out 2; have b3 := Blk.cell HBX7.out 3; have b4 := Blk.cell HBX7.out 4; have b5 := Blk.cell HBX7.out 5
        simp only [List.getElem?_cons_zero, List.getElem?_cons_succ] at b0 b1 b2 b3 b4 b5
        clear ha7 HB6 HB46 HBX6 HS6
        go_wp2_with fail
        clear b0 b1 b2 b3 b4 b5
        have HV7 : Hid (Blk (w6.alloc (.cells #[vb kk, vs name, vs [], .slice A6 p.length a6, .slice R6 1 r6, .slice O6 0 o6] 40)) (w1.heap.size + 1 + 1) 40 [.int .u8 (1 + (k.toNat : Int) % 12), vs name, vs path, .slice A p.length c, .slice (some ⟨w1.heap.size, 0, none⟩) 1 1, .slice (some ⟨w1.heap.size + 1, 0, none⟩) 1 1]) := HBX7.out
        clear HBX7
        generalize w6.alloc (.cells #[vb kk, vs name, vs [], .slice A6 p.length a6, .slice R6 1 r6, .slice O6 0 o6] 40) = w7 at *
        refine (HREN.out w7 HB47.out).mono ?_
        rintro e w8 ⟨v8, rfl, hr8⟩
        obtain ⟨A8, c8, rfl, hs8, hn8, hc8, -⟩ := hr8.src
        have HB8 : Hid (Below w.heap.size w w8) := HB7.out.trans (hr8.below.mono HB7.out.size)
        have hx8 := Blk.below HV7.out hr8.below (Blk.lt HV7.out)
        have hc8' := Blk.below HCV7.out hr8.below (Blk.lt HCV7.out)
        have hs58 := HS7.out.below hr8.below
        have b0 := hx8.cell 0
        have d0 := hc8'.cell 0; have d1 := hc8'.cell 1; have d2 := hc8'.cell 2; have d3 := hc8'.cell 3; have d4 := hc8'.cell 4; have d5 := hc8'.cell 5
        simp only [List.getElem?_cons_zero, List.getElem?_cons_succ] at b0 d0 d1 d2 d3 d4 d5
        rw [← HK.out] at b0
        have HBS : Hid (Calls Tryd.prog 16 #[.slice A5 q.length c5, .slice A8 q.length c8] w8 fun e w' => e = .returned (.bool true) ∧ ∃ q, w' = w8.drewN q) := bytes_same A5 A8 c5 c8 q (by have := HLQ.out; omega) w8 hs58 hs8
        clear hr8 hs8 hn8 hc8 hx8 hc8' hs58 HV7 HCV7 HB7 HB47 HS7 HREN
        go_wp2_with fail
        refine HBS.out.mono ?_
        rintro e w9 ⟨rfl, q1, rfl⟩
        clear HBS
        go_wp2_with fail
        go_quiet (fail)
        go_wp2_with fail
        go_ret
        exact ⟨rfl, below_drewN HB8.out _⟩
      · have f3 : (([] : List By) == path) = false := by rw [beq_eq_false_iff_ne]; exact fun h => hpt h.symm
        have f4 : (path == ([] : List By)) = false := by rw [beq_eq_false_iff_ne]; exact hpt
        clear hpt
        have ha7 : Below w6.heap.size w6 (w6.alloc (.cells #[vb kk, vs name, vs [], .slice A6 p.length a6, .slice R6 1 r6, .slice O6 0 o6] 40)) := (Below.refl _ _).alloc (Nat.le_refl _) _
        have HB7 : Hid (Below w.heap.size w (w6.alloc (.cells #[vb kk, vs name, vs [], .slice A6 p.length a6, .slice R6 1 r6, .slice O6 0 o6] 40))) := HB6.out.trans (ha7.mono HB6.out.size)
        have HB47 : Hid (Below w4.heap.size w4 (w6.alloc (.cells #[vb kk, vs name, vs [], .slice A6 p.length a6, .slice R6 1 r6, .slice O6 0 o6] 40))) := HB46.out.trans (ha7.mono HB46.out.size)
        have HBX7 := Lib.hid (HBX6.out.below ha7 (Blk.lt HBX6.out))
        have HS7 := Lib.hid (HS6.out.below ha7)
        have HCV7 : Hid (Blk (w6.alloc (.cells #[vb kk, vs name, vs [], .slice A6 p.length a6, .slice R6 1 r6, .slice O6 0 o6] 40)) w6.heap.size 40 [vb kk, vs name, vs [], .slice A6 p.length a6, .slice R6 1 r6, .slice O6 0 o6]) := Blk.new w6 40 _
        have b0 := Blk.cell HBX7.out 0; have b1 := Blk.cell HBX7.out 1; have b2 := Blk.cell HBX7.out 2; have b3 := Blk.cell HBX7.out 3; have b4 := Blk.cell HBX7.out 4; have b5 := Blk.cell HBX7.out 5
        simp only [List.getElem?_cons_zero, List.getElem?_cons_succ] at b0 b1 b2 b3 b4 b5
        clear ha7 HB6 HB46 HBX6 HS6
        go_wp2_with fail
        clear b0 b1 b2 b3 b4 b5
        have HV7 : Hid (Blk (w6.alloc (.cells #[vb kk, vs name, vs [], .slice A6 p.length a6, .slice R6 1 r6, .slice O6 0 o6] 40)) (w1.heap.size + 1 + 1) 40 [.int .u8 (1 + (k.toNat : Int) % 12), vs name, vs path, .slice A p.length c, .slice (some ⟨w1.heap.size, 0, none⟩) 1 1, .slice (some ⟨w1.heap.size + 1, 0, none⟩) 1 1]) := HBX7.out
        clear HBX7
        generalize w6.alloc (.cells #[vb kk, vs name, vs [], .slice A6 p.length a6, .slice R6 1 r6, .slice O6 0 o6] 40) = w7 at *
        refine (HREN.out w7 HB47.out).mono ?_
        rintro e w8 ⟨v8, rfl, hr8⟩
        obtain ⟨A8, c8, rfl, hs8, hn8, hc8, -⟩ := hr8.src
        have HB8 : Hid (Below w.heap.size w w8) := HB7.out.trans (hr8.below.mono HB7.out.size)
        have hx8 := Blk.below HV7.out hr8.below (Blk.lt HV7.out)
        have hc8' := Blk.below HCV7.out hr8.below (Blk.lt HCV7.out)
        have hs58 := HS7.out.below hr8.below
        have b0 := hx8.cell 0
        have d0 := hc8'.cell 0; have d1 := hc8'.cell 1; have d2 := hc8'.cell 2; have d3 := hc8'.cell 3; have d4 := hc8'.cell 4; have d5 := hc8'.cell 5
        simp only [List.getElem?_cons_zero, List.getElem?_cons_succ] at b0 d0 d1 d2 d3 d4 d5
        rw [← HK.out] at b0
        have HBS : Hid (Calls Tryd.prog 16 #[.slice A5 q.length c5, .slice A8 q.length c8] w8 fun e w' => e = .returned (.bool true) ∧ ∃ q, w' = w8.drewN q) := bytes_same A5 A8 c5 c8 q (by have := HLQ.out; omega) w8 hs58 hs8
        clear hr8 hs8 hn8 hc8 hx8 hc8' hs58 HV7 HCV7 HB7 HB47 HS7 HREN
        go_wp2_with fail
        refine HBS.out.mono ?_
        rintro e w9 ⟨rfl, q1, rfl⟩
        clear HBS
        go_wp2_with fail
        go_quiet (fail)
        go_wp2_with fail
        go_ret
        exact ⟨rfl, below_drewN HB8.out _⟩
    · clear HLP HLN HLA
      have e1 : ((kk.toNat : Int) == 1) = false := by rw [beq_eq_false_iff_ne]; omega
      have e7 : ((kk.toNat : Int) == 7) = true := by rw [beq_iff_eq]; omega
      have e11 : ((kk.toNat : Int) == 11) = false := by rw [beq_eq_false_iff_ne]; omega
      have e12 : ((kk.toNat : Int) == 12) = false := by rw [beq_eq_false_iff_ne]; omega
      clear hcase
      by_cases hnm : name = []
      · have f1 : (([] : List By) == name) = true := by rw [beq_iff_eq]; exact hnm.symm
        have f2 : (name == ([] : List By)) = true := by rw [beq_iff_eq]; exact hnm
        clear hnm
        by_cases hpt : path = []
        · have f3 : (([] : List By) == path) = true := by rw [beq_iff_eq]; exact hpt.symm
          have f4 : (path == ([] : List By)) = true := by rw [beq_iff_eq]; exact hpt
          clear hpt
          have ha7 : Below w6.heap.size w6 (w6.alloc (.cells #[vb kk, vs [], vs [], .slice A6 0 a6, .slice R6 0 r6, .slice O6 1 o6] 40)) := (Below.refl _ _).alloc (Nat.le_refl _) _
          have HB7 : Hid (Below w.heap.size w (w6.alloc (.cells #[vb kk, vs [], vs [], .slice A6 0 a6, .slice R6 0 r6, .slice O6 1 o6] 40))) := HB6.out.trans (ha7.mono HB6.out.size)
          have HB47 : Hid (Below w4.heap.size w4 (w6.alloc (.cells #[vb kk, vs [], vs [], .slice A6 0 a6, .slice R6 0 r6, .slice O6 1 o6] 40))) := HB46.out.trans (ha7.mono HB46.out.size)
          have HBX7 := Lib.hid (HBX6.out.below ha7 (Blk.lt HBX6.out))
          have HS7 := Lib.hid (HS6.out.below ha7)
          have HCV7 : Hid (Blk (w6.alloc (.cells #[vb kk, vs [], vs [], .slice A6 0 a6, .slice R6 0 r6, .slice O6 1 o6] 40)) w6.heap.size 40 [vb kk, vs [], vs [], .slice A6 0 a6, .slice R6 0 r6, .slice O6 1 o6]) := Blk.new w6 40 _
          have b0 := Blk.cell HBX7.out 0; have b1 := Blk.cell HBX7.out 1; have b2 := Blk.cell HBX7.out 2; have b3 := Blk.cell HBX7.out 3; have b4 := Blk.cell HBX7.out 4; have b5 := Blk.cell HBX7.out 5
          simp only [List.getElem?_cons_zero, List.getElem?_cons_succ] at b0 b1 b2 b3 b4 b5
          clear ha7 HB6 HB46 HBX6 HS6
          go_wp2_with fail
          clear b0 b1 b2 b3 b4 b5
          have HV7 : Hid (Blk (w6.alloc (.cells #[vb kk, vs [], vs [], .slice A6 0 a6, .slice R6 0 r6, .slice O6 1 o6] 40)) (w1.heap.size + 1 + 1) 40 [.int .u8 (1 + (k.toNat : Int) % 12), vs name, vs path, .slice A p.length c, .slice (some ⟨w1.heap.size, 0, none⟩) 1 1, .slice (some ⟨w1.heap.size + 1, 0, none⟩) 1 1]) := HBX7.out
          clear HBX7
          generalize w6.alloc (.cells #[vb kk, vs [], vs [], .slice A6 0 a6, .slice R6 0 r6, .slice O6 1 o6] 40) = w7 at *
          refine (HREN.out w7 HB47.out).mono ?_
          rintro e w8 ⟨v8, rfl, hr8⟩
          obtain ⟨A8, c8, rfl, hs8, hn8, hc8, -⟩ := hr8.src
          have HB8 : Hid (Below w.heap.size w w8) := HB7.out.trans (hr8.below.mono HB7.out.size)
          have hx8 := Blk.below HV7.out hr8.below (Blk.lt HV7.out)
          have hc8' := Blk.below HCV7.out hr8.below (Blk.lt HCV7.out)
          have hs58 := HS7.out.below hr8.below
          have b0 := hx8.cell 0
          have d0 := hc8'.cell 0; have d1 := hc8'.cell 1; have d2 := hc8'.cell 2; have d3 := hc8'.cell 3; have d4 := hc8'.cell 4; have d5 := hc8'.cell 5
          simp only [List.getElem?_cons_zero, List.getElem?_cons_succ] at b0 d0 d1 d2 d3 d4 d5
          rw [← HK.out] at b0
          have HBS : Hid (Calls Tryd.prog 16 #[.slice A5 q.length c5, .slice A8 q.length c8] w8 fun e w' => e = .returned (.bool true) ∧ ∃ q, w' = w8.drewN q) := bytes_same A5 A8 c5 c8 q (by have := HLQ.out; omega) w8 hs58 hs8
          clear hr8 hs8 hn8 hc8 hx8 hc8' hs58 HV7 HCV7 HB7 HB47 HS7 HREN
          go_wp2_with fail
          refine HBS.out.mono ?_
          rintro e w9 ⟨rfl, q1, rfl⟩
          clear HBS
          go_wp2_with fail
          go_quiet (fail)
          go_wp2_with fail
          go_ret
          exact ⟨rfl, below_drewN HB8.out _⟩
        · have f3 : (([] : List By) == path) = false := by rw [beq_eq_false_iff_ne]; exact fun h => hpt h.symm
          have f4 : (path == ([] : List By)) = false := by rw [beq_eq_false_iff_ne]; exact hpt
          clear hpt
          have ha7 : Below w6.heap.size w6 (w6.alloc (.cells #[vb kk, vs [], vs [], .slice A6 0 a6, .slice R6 0 r6, .slice O6 1 o6] 40)) := (Below.refl _ _).alloc (Nat.le_refl _) _
          have HB7 : Hid (Below w.heap.size w (w6.alloc (.cells #[vb kk, vs [], vs [], .slice A6 0 a6, .slice R6 0 r6, .slice O6 1 o6] 40))) := HB6.out.trans (ha7.mono HB6.out.size)
          have HB47 : Hid (Below w4.heap.size w4 (w6.alloc (.cells #[vb kk, vs [], vs [], .slice A6 0 a6, .slice R6 0 r6, .slice O6 1 o6] 40))) := HB46.out.trans (ha7.mono HB46.out.size)
          have HBX7 := Lib.hid (HBX6.out.below ha7 (Blk.lt HBX6.out))
          have HS7 := Lib.hid (HS6.out.below ha7)
          have HCV7 : Hid (Blk (w6.alloc (.cells #[vb kk, vs [], vs [], .slice A6 0 a6, .slice R6 0 r6, .slice O6 1 o6] 40)) w6.heap.size 40 [vb kk, vs [], vs [], .slice A6 0 a6, .slice R6 0 r6, .slice O6 1 o6]) := Blk.new w6 40 _
          have b0 := Blk.cell HBX7.out 0; have b1 := Blk.cell HBX7.out 1; have b2 := Blk.cell HBX7.out 2; have b3 := Blk.cell HBX7.out 3; have b4 := Blk.cell HBX7.out 4; have b5 := Blk.cell HBX7.out 5
          simp only [List.getElem?_cons_zero, List.getElem?_cons_succ] at b0 b1 b2 b3 b4 b5
          clear ha7 HB6 HB46 HBX6 HS6
          go_wp2_with fail
          clear b0 b1 b2 b3 b4 b5
          have HV7 : Hid (Blk (w6.alloc (.cells #[vb kk, vs [], vs [], .slice A6 0 a6, .slice R6 0 r6, .slice O6 1 o6] 40)) (w1.heap.size + 1 + 1) 40 [.int .u8 (1 + (k.toNat : Int) % 12), vs name, vs path, .slice A p.length c, .slice (some ⟨w1.heap.size, 0, none⟩) 1 1, .slice (some ⟨w1.heap.size + 1, 0, none⟩) 1 1]) := HBX7.out
          clear HBX7
          generalize w6.alloc (.cells #[vb kk, vs [], vs [], .slice A6 0 a6, .slice R6 0 r6, .slice O6 1 o6] 40) = w7 at *
          refine (HREN.out w7 HB47.out).mono ?_
          rintro e w8 ⟨v8, rfl, hr8⟩
          obtain ⟨A8, c8, rfl, hs8, hn8, hc8, -⟩ := hr8.src
          have HB8 : Hid (Below w.heap.size w w8) := HB7.out.trans (hr8.below.mono HB7.out.size)
          have hx8 := Blk.below HV7.out hr8.below (Blk.lt HV7.out)
          have hc8' := Blk.below HCV7.out hr8.below (Blk.lt HCV7.out)
          have hs58 := HS7.out.below hr8.below
          have b0 := hx8.cell 0
          have d0 := hc8'.cell 0; have d1 := hc8'.cell 1; have d2 := hc8'.cell 2; have d3 := hc8'.cell 3; have d4 := hc8'.cell 4; have d5 := hc8'.cell 5
          simp only [List.getElem?_cons_zero, List.getElem?_cons_succ] at b0 d0 d1 d2 d3 d4 d5
          rw [← HK.out] at b0
          have HBS : Hid (Calls Tryd.prog 16 #[.slice A5 q.length c5, .slice A8 q.length c8] w8 fun e w' => e = .returned (.bool true) ∧ ∃ q, w' = w8.drewN q) := bytes_same A5 A8 c5 c8 q (by have := HLQ.out; omega) w8 hs58 hs8
          clear hr8 hs8 hn8 hc8 hx8 hc8' hs58 HV7 HCV7 HB7 HB47 HS7 HREN
          go_wp2_with fail
          refine HBS.out.mono ?_
          rintro e w9 ⟨rfl, q1, rfl⟩
          clear HBS
          go_wp2_with fail
          go_quiet (fail)
          go_wp2_with fail
          go_ret
          exact ⟨rfl, below_drewN HB8.out _⟩
      · have f1 : (([] : List By) == name) = false := by rw [beq_eq_false_iff_ne]; exact fun h => hnm h.symm
        have f2 : (name == ([] : List By)) = false := by rw [beq_eq_false_iff_ne]; exact hnm
        clear hnm
        by_cases hpt : path = []
        · have f3 : (([] : List By) == path) = true := by rw [beq_iff_eq]; exact hpt.symm
          have f4 : (path == ([] : List By)) = true := by rw [beq_iff_eq]; exact hpt
          clear hpt
          have ha7 : Below w6.heap.size w6 (w6.alloc (.cells #[vb kk, vs [], vs [], .slice A6 0 a6, .slice R6 0 r6, .slice O6 1 o6] 40)) := (Below.refl _ _).alloc (Nat.le_refl _) _
          have HB7 : Hid (Below w.heap.size w (w6.alloc (.cells #[vb kk, vs [], vs [], .slice A6 0 a6, .slice R6 0 r6, .slice O6 1 o6] 40))) := HB6.out.trans (ha7.mono HB6.out.size)
          have HB47 : Hid (Below w4.heap.size w4 (w6.alloc (.cells #[vb kk, vs [], vs [], .slice A6 0 a6, .slice R6 0 r6, .slice O6 1 o6] 40))) := HB46.out.trans (ha7.mono HB46.out.size)
          have HBX7 := Lib.hid (HBX6.out.below ha7 (Blk.lt HBX6.out))
          have HS7 := Lib.hid (HS6.out.below ha7)
          have HCV7 : Hid (Blk (w6.alloc (.cells #[vb kk, vs [], vs [], .slice A6 0 a6, .slice R6 0 r6, .slice O6 1 o6] 40)) w6.heap.size 40 [vb kk, vs [], vs [], .slice A6 0 a6, .slice R6 0 r6, .slice O6 1 o6]) := Blk.new w6 40 _
          have b0 := Blk.cell HBX7.out 0; have b1 := Blk.cell HBX7.out 1; have b2 := Blk.cell HBX7.out 2; have b3 := Blk.cell HBX7.out 3; have b4 := Blk.cell HBX7.out 4; have b5 := Blk.cell HBX7.out 5
          simp only [List.getElem?_cons_zero, List.getElem?_cons_succ] at b0 b1 b2 b3 b4 b5
          clear ha7 HB6 HB46 HBX6 HS6
          go_wp2_with fail
          clear b0 b1 b2 b3 b4 b5
          have HV7 : Hid (Blk (w6.alloc (.cells #[vb kk, vs [], vs [], .slice A6 0 a6, .slice R6 0 r6, .slice O6 1 o6] 40)) (w1.heap.size + 1 + 1) 40 [.int .u8 (1 + (k.toNat : Int) % 12), vs name, vs path, .slice A p.length c, .slice (some ⟨w1.heap.size, 0, none⟩) 1 1, .slice (some ⟨w1.heap.size + 1, 0, none⟩) 1 1]) := HBX7.out
          clear HBX7
          generalize w6.alloc (.cells #[vb kk, vs [], vs [], .slice A6 0 a6, .slice R6 0 r6, .slice O6 1 o6] 40) = w7 at *
          refine (HREN.out w7 HB47.out).mono ?_
          rintro e w8 ⟨v8, rfl, hr8⟩
          obtain ⟨A8, c8, rfl, hs8, hn8, hc8, -⟩ := hr8.src
          have HB8 : Hid (Below w.heap.size w w8) := HB7.out.trans (hr8.below.mono HB7.out.size)
          have hx8 := Blk.below HV7.out hr8.below (Blk.lt HV7.out)
          have hc8' := Blk.below HCV7.out hr8.below (Blk.lt HCV7.out)
          have hs58 := HS7.out.below hr8.below
          have b0 := hx8.cell 0
          have d0 := hc8'.cell 0; have d1 := hc8'.cell 1; have d2 := hc8'.cell 2; have d3 := hc8'.cell 3; have d4 := hc8'.cell 4; have d5 := hc8'.cell 5
          simp only [List.getElem?_cons_zero, List.getElem?_cons_succ] at b0 d0 d1 d2 d3 d4 d5
          rw [← HK.out] at b0
          have HBS : Hid (Calls Tryd.prog 16 #[.slice A5 q.length c5, .slice A8 q.length c8] w8 fun e w' => e = .returned (.bool true) ∧ ∃ q, w' = w8.drewN q) := bytes_same A5 A8 c5 c8 q (by have := HLQ.out; omega) w8 hs58 hs8
          clear hr8 hs8 hn8 hc8 hx8 hc8' hs58 HV7 HCV7 HB7 HB47 HS7 HREN
          go_wp2_with fail
          refine HBS.out.mono ?_
          rintro e w9 ⟨rfl, q1, rfl⟩
          clear HBS
          go_wp2_with fail
          go_quiet (fail)
          go_wp2_with fail
          go_ret
          exact ⟨rfl, below_drewN HB8.out _⟩
        · have f3 : (([] : List By) == path) = false := by rw [beq_eq_false_iff_ne]; exact fun h => hpt h.symm
          have f4 : (path == ([] : List By)) = false := by rw [beq_eq_false_iff_ne]; exact hpt
          clear hpt
          have ha7 : Below w6.heap.size w6 (w6.alloc (.cells #[vb kk, vs [], vs [], .slice A6 0 a6, .slice R6 0 r6, .slice O6 1 o6] 40)) := (Below.refl _ _).alloc (Nat.le_refl _) _
          have HB7 : Hid (Below w.heap.size w (w6.alloc (.cells #[vb kk, vs [], vs [], .slice A6 0 a6, .slice R6 0 r6, .slice O6 1 o6] 40))) := HB6.out.trans (ha7.mono HB6.out.size)
          have HB47 : Hid (Below w4.heap.size w4 (w6.alloc (.cells #[vb kk, vs [], vs [], .slice A6 0 a6, .slice R6 0 r6, .slice O6 1 o6] 40))) := HB46.out.trans (ha7.mono HB46.out.size)
          have HBX7 := Lib.hid (HBX6.out.below ha7 (Blk.lt HBX6.out))
          have HS7 := Lib.hid (HS6.out.below ha7)
          have HCV7 : Hid (Blk (w6.alloc (.cells #[vb kk, vs [], vs [], .slice A6 0 a6, .slice R6 0 r6, .slice O6 1 o6] 40)) w6.heap.size 40 [vb kk, vs [], vs [], .slice A6 0 a6, .slice R6 0 r6, .slice O6 1 o6]) := Blk.new w6 40 _
          have b0 := Blk.cell HBX7.out 0; have b1 := Blk.cell HBX7.out 1; have b2 := Blk.cell HBX7.out 2; have b3 := Blk.cell HBX7.out 3; have b4 := Blk.cell HBX7.out 4; have b5 := Blk.cell HBX7.out 5
          simp only [List.getElem?_cons_zero, List.getElem?_cons_succ] at b0 b1 b2 b3 b4 b5
          clear ha7 HB6 HB46 HBX6 HS6
          go_wp2_with fail
          clear b0 b1 b2 b3 b4 b5
          have HV7 : Hid (Blk (w6.alloc (.cells #[vb kk, vs [], vs [], .slice A6 0 a6, .slice R6 0 r6, .slice O6 1 o6] 40)) (w1.heap.size + 1 + 1) 40 [.int .u8 (1 + (k.toNat : Int) % 12), vs name, vs path, .slice A p.length c, .slice (some ⟨w1.heap.size, 0, none⟩) 1 1, .slice (some ⟨w1.heap.size + 1, 0, none⟩) 1 1]) := HBX7.out
          clear HBX7
          generalize w6.alloc (.cells #[vb kk, vs [], vs [], .slice A6 0 a6, .slice R6 0 r6, .slice O6 1 o6] 40) = w7 at *
          refine (HREN.out w7 HB47.out).mono ?_
          rintro e w8 ⟨v8, rfl, hr8⟩
          obtain ⟨A8, c8, rfl, hs8, hn8, hc8, -⟩ := hr8.src
          have HB8 : Hid (Below w.heap.size w w8) := HB7.out.trans (hr8.below.mono HB7.out.size)
          have hx8 := Blk.below HV7.out hr8.below (Blk.lt HV7.out)
          have hc8' := Blk.below HCV7.out hr8.below (Blk.lt HCV7.out)
          have hs58 := HS7.out.below hr8.below
          have b0 := hx8.cell 0
          have d0 := hc8'.cell 0; have d1 := hc8'.cell 1; have d2 := hc8'.cell 2; have d3 := hc8'.cell 3; have d4 := hc8'.cell 4; have d5 := hc8'.cell 5
          simp only [List.getElem?_cons_zero, List.getElem?_cons_succ] at b0 d0 d1 d2 d3 d4 d5
          rw [← HK.out] at b0
          have HBS : Hid (Calls Tryd.prog 16 #[.slice A5 q.length c5, .slice A8 q.length c8] w8 fun e w' => e = .returned (.bool true) ∧ ∃ q, w' = w8.drewN q) := bytes_same A5 A8 c5 c8 q (by have := HLQ.out; omega) w8 hs58 hs8
          clear hr8 hs8 hn8 hc8 hx8 hc8' hs58 HV7 HCV7 HB7 HB47 HS7 HREN
          go_wp2_with fail
          refine HBS.out.mono ?_
          rintro e w9 ⟨rfl, q1, rfl⟩
          clear HBS
          go_wp2_with fail
          go_quiet (fail)
          go_wp2_with fail
          go_ret
          exact ⟨rfl, below_drewN HB8.out _⟩
end Go.Proofs.YtghbabnekalgpaaDoor
