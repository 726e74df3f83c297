/- The walk of RequestKinds. -/
import Derived.Test.YtghbabnekalgpaaDoorL0
namespace Go.Proofs.YtghbabnekalgpaaDoor
open Go.RowKit BaseMath WireMath ReqMath

theorem nameL_len : nameL.length = 13 := rfl
theorem nameL_get (n : Nat) (h : n < 13) : (nameL.map vs)[n]? = some (vs (nameK n)) := by
  have h' : n < nameL.length := h
  rw [List.getElem?_map, List.getElem?_eq_getElem h']
  unfold nameK
  rw [List.getD_eq_getElem?_getD, List.getElem?_eq_getElem h']; rfl
theorem tmod13 (n : Nat) : Int.tmod (n : Int) 13 = ((n % 13 : Nat) : Int) := by
  rw [Int.tmod_eq_emod_of_nonneg (by omega)]; omega
set_option maxHeartbeats 4000000 in
set_option maxRecDepth 100000 in
theorem kinds_walk (k : By) (w : World) (ht : KTab w) : Calls Tryd.prog 8 #[vb k] w fun e w' => e = .returned (.bool true) ∧ Below w.heap.size w w' := by
  have HT := Lib.hid ht; clear ht
  have hk : k.toNat < 256 := k.toNat_lt
  have hb1 : Below w.heap.size w (w.alloc (.cells #[.string ⟨#[]⟩, .string ⟨#[97, 100, 100]⟩, .string ⟨#[118, 97, 108, 105, 100]⟩, .string ⟨#[105, 110, 102, 111]⟩, .string ⟨#[114, 101, 102, 115]⟩, .string ⟨#[114, 101, 102, 101, 114, 114, 101, 114, 115]⟩, .string ⟨#[99, 108, 111, 115, 117, 114, 101]⟩, .string ⟨#[114, 101, 103, 105, 115, 116, 101, 114]⟩, .string ⟨#[114, 111, 111, 116]⟩, .string ⟨#[117, 110, 114, 111, 111, 116]⟩, .string ⟨#[100, 101, 108, 101, 116, 101]⟩, .string ⟨#[99, 111, 108, 108, 101, 99, 116]⟩, .string ⟨#[118, 101, 114, 105, 102, 121]⟩] 9)) := (Below.refl _ _).alloc (Nat.le_refl _) _
  have hblk : Blk (w.alloc (.cells #[.string ⟨#[]⟩, .string ⟨#[97, 100, 100]⟩, .string ⟨#[118, 97, 108, 105, 100]⟩, .string ⟨#[105, 110, 102, 111]⟩, .string ⟨#[114, 101, 102, 115]⟩, .string ⟨#[114, 101, 102, 101, 114, 114, 101, 114, 115]⟩, .string ⟨#[99, 108, 111, 115, 117, 114, 101]⟩, .string ⟨#[114, 101, 103, 105, 115, 116, 101, 114]⟩, .string ⟨#[114, 111, 111, 116]⟩, .string ⟨#[117, 110, 114, 111, 111, 116]⟩, .string ⟨#[100, 101, 108, 101, 116, 101]⟩, .string ⟨#[99, 111, 108, 108, 101, 99, 116]⟩, .string ⟨#[118, 101, 114, 105, 102, 121]⟩] 9)) w.heap.size 9 (nameL.map vs) := Blk.new w 9 #[.string ⟨#[]⟩, .string ⟨#[97, 100, 100]⟩, .string ⟨#[118, 97, 108, 105, 100]⟩, .string ⟨#[105, 110, 102, 111]⟩, .string ⟨#[114, 101, 102, 115]⟩, .string ⟨#[114, 101, 102, 101, 114, 114, 101, 114, 115]⟩, .string ⟨#[99, 108, 111, 115, 117, 114, 101]⟩, .string ⟨#[114, 101, 103, 105, 115, 116, 101, 114]⟩, .string ⟨#[114, 111, 111, 116]⟩, .string ⟨#[117, 110, 114, 111, 111, 116]⟩, .string ⟨#[100, 101, 108, 101, 116, 101]⟩, .string ⟨#[99, 111, 108, 108, 101, 99, 116]⟩, .string ⟨#[118, 101, 114, 105, 102, 121]⟩]
  obtain ⟨m, hm, hm1, hm2⟩ : ∃ m : Nat, m < 13 ∧ Int.tmod (k.toNat : Int) 13 = (m : Int) ∧ (k.toNat : Int) % 13 = (m : Int) := ⟨k.toNat % 13, Nat.mod_lt _ (by decide), tmod13 _, by omega⟩
  have HM1 := Lib.hid hm1; have HM2 := Lib.hid hm2
  clear hm1 hm2
  have c13 := hblk.cell m
  rw [nameL_get _ hm] at c13
  have HC : Hid (∀ W, Below w.heap.size w W → W.cell? ⟨w.heap.size, m, none⟩ = some (vs (nameK (m))) → ∀ j : Nat, j < 256 → Calls Tryd.prog 30 #[.int .u8 (j : Int)] W fun e w' => e = .returned (vs (nameK j)) ∧ Below W.heap.size W w') := fun W hW _ j hj => by
    have h := kind_any (UInt8.ofNat j) W (HT.out.belowS hW)
    rw [vb_ofNat, Nat.mod_eq_of_lt hj, UInt8.toNat_ofNat_of_lt' hj] at h; exact h
  have HL : Hid (∀ W, Below w.heap.size w W → Calls Tryd.prog 10 #[] W fun e w' => e = .returned (.bool true) ∧ Below W.heap.size W w') := fun W hW => lone_any W (HT.out.belowS hW)
  have HB1 := Lib.hid hb1
  have hsz : w.heap.size < (w.alloc (.cells #[.string ⟨#[]⟩, .string ⟨#[97, 100, 100]⟩, .string ⟨#[118, 97, 108, 105, 100]⟩, .string ⟨#[105, 110, 102, 111]⟩, .string ⟨#[114, 101, 102, 115]⟩, .string ⟨#[114, 101, 102, 101, 114, 114, 101, 114, 115]⟩, .string ⟨#[99, 108, 111, 115, 117, 114, 101]⟩, .string ⟨#[114, 101, 103, 105, 115, 116, 101, 114]⟩, .string ⟨#[114, 111, 111, 116]⟩, .string ⟨#[117, 110, 114, 111, 111, 116]⟩, .string ⟨#[100, 101, 108, 101, 116, 101]⟩, .string ⟨#[99, 111, 108, 108, 101, 99, 116]⟩, .string ⟨#[118, 101, 114, 105, 102, 121]⟩] 9)).heap.size := by simp
  have HSZ := Lib.hid hsz
  by_cases hn : k.toNat < 13
  · have c1 := hblk.cell k.toNat
    rw [nameL_get _ hn] at c1
    have hn' : (k.toNat : Int) < 13 := by omega
    clear hblk hb1 hsz
    go_enter Tryd.func8, Tryd.ntmps8
    go_wp2_with fail
    generalize w.alloc (.cells #[.string ⟨#[]⟩, .string ⟨#[97, 100, 100]⟩, .string ⟨#[118, 97, 108, 105, 100]⟩, .string ⟨#[105, 110, 102, 111]⟩, .string ⟨#[114, 101, 102, 115]⟩, .string ⟨#[114, 101, 102, 101, 114, 114, 101, 114, 115]⟩, .string ⟨#[99, 108, 111, 115, 117, 114, 101]⟩, .string ⟨#[114, 101, 103, 105, 115, 116, 101, 114]⟩, .string ⟨#[114, 111, 111, 116]⟩, .string ⟨#[117, 110, 114, 111, 111, 116]⟩, .string ⟨#[100, 101, 108, 101, 116, 101]⟩, .string ⟨#[99, 111, 108, 108, 101, 99, 116]⟩, .string ⟨#[118, 101, 114, 105, 102, 121]⟩] 9) = W1 at *
    have HB1' : Hid (Below w.heap.size w W1.drew) := HB1.out.drew
    have k0 : W1.drew.cell? ⟨w.heap.size, m, none⟩ = some (vs (nameK (m))) := c13
    have hi1 : (0 : Int) ≤ (m : Int) := by omega
    have hi2 : (m : Int) < 13 := by omega
    have hm1 := HM1.out
    have hm2 := HM2.out
    go_region_held3 (fun W => W.cell? ⟨w.heap.size, m, none⟩ = some (vs (nameK (m))))
      (first | with_reducible exact k0 | with_reducible exact k1 | with_reducible exact k2 | with_reducible exact k3)
      (first
        | (go_at_call 10
           refine (HL.out _ HB1'.out).mono ?_
           rintro e w2 ⟨rfl, hb2⟩
           have HB2 : Hid (Below w.heap.size w w2) := HB1'.out.trans (hb2.mono HB1'.out.size)
           have k1 : w2.cell? ⟨w.heap.size, m, none⟩ = some (vs (nameK (m))) := by rw [hb2.cell (p := ⟨w.heap.size, m, none⟩) HSZ.out]; exact k0
           have HSZ2 : Hid (w.heap.size < w2.heap.size) := Nat.lt_of_lt_of_le HSZ.out hb2.size
           clear hb2)
        | (go_at_call 30
           with_reducible refine (HC.out w2 HB2.out k1 k.toNat hk).mono ?_
           rintro e w3 ⟨rfl, hb3⟩
           have HB3 : Hid (Below w.heap.size w w3) := HB2.out.trans (hb3.mono HB2.out.size)
           have k2 : w3.cell? ⟨w.heap.size, m, none⟩ = some (vs (nameK (m))) := by rw [hb3.cell (p := ⟨w.heap.size, m, none⟩) HSZ2.out]; exact k1
           have HSZ3 : Hid (w.heap.size < w3.heap.size) := Nat.lt_of_lt_of_le HSZ2.out hb3.size
           clear hb3)
        | (go_at_call 30
           with_reducible refine (HC.out w3 HB3.out k2 (m) (by omega)).mono ?_
           rintro e w4 ⟨rfl, hb4⟩
           have HB4 : Hid (Below w.heap.size w w4) := HB3.out.trans (hb4.mono HB3.out.size)
           have k3 : w4.cell? ⟨w.heap.size, m, none⟩ = some (vs (nameK (m))) := by rw [hb4.cell (p := ⟨w.heap.size, m, none⟩) HSZ3.out]; exact k2
           clear hb4)
        | fail)
    all_goals
      go_wp2_with fail
      go_ret
      exact ⟨rfl, HB4.out⟩
  · have hn' : ¬ (k.toNat : Int) < 13 := by omega
    have HN := Lib.hid (nameK_big k.toNat (by omega))
    have HC' := HC
    clear HC
    have HC : Hid (∀ W, Below w.heap.size w W → W.cell? ⟨w.heap.size, m, none⟩ = some (vs (nameK (m))) → ∀ j : Nat, j < 256 → Calls Tryd.prog 30 #[.int .u8 (j : Int)] W fun e w' => e = .returned (vs (nameK j)) ∧ Below W.heap.size W w') := HC'.out
    clear HC' hblk hb1 hsz
    go_enter Tryd.func8, Tryd.ntmps8
    go_wp2_with fail
    generalize w.alloc (.cells #[.string ⟨#[]⟩, .string ⟨#[97, 100, 100]⟩, .string ⟨#[118, 97, 108, 105, 100]⟩, .string ⟨#[105, 110, 102, 111]⟩, .string ⟨#[114, 101, 102, 115]⟩, .string ⟨#[114, 101, 102, 101, 114, 114, 101, 114, 115]⟩, .string ⟨#[99, 108, 111, 115, 117, 114, 101]⟩, .string ⟨#[114, 101, 103, 105, 115, 116, 101, 114]⟩, .string ⟨#[114, 111, 111, 116]⟩, .string ⟨#[117, 110, 114, 111, 111, 116]⟩, .string ⟨#[100, 101, 108, 101, 116, 101]⟩, .string ⟨#[99, 111, 108, 108, 101, 99, 116]⟩, .string ⟨#[118, 101, 114, 105, 102, 121]⟩] 9) = W1 at *
    have HB1' : Hid (Below w.heap.size w W1.drew) := HB1.out.drew
    have k0 : W1.drew.cell? ⟨w.heap.size, m, none⟩ = some (vs (nameK (m))) := c13
    have hi1 : (0 : Int) ≤ (m : Int) := by omega
    have hi2 : (m : Int) < 13 := by omega
    have hm1 := HM1.out
    have hm2 := HM2.out
    go_region_held3 (fun W => W.cell? ⟨w.heap.size, m, none⟩ = some (vs (nameK (m))))
      (first | with_reducible exact k0 | with_reducible exact k1 | with_reducible exact k2 | with_reducible exact k3)
      (first
        | (go_at_call 10
           refine (HL.out _ HB1'.out).mono ?_
           rintro e w2 ⟨rfl, hb2⟩
           have HB2 : Hid (Below w.heap.size w w2) := HB1'.out.trans (hb2.mono HB1'.out.size)
           have k1 : w2.cell? ⟨w.heap.size, m, none⟩ = some (vs (nameK (m))) := by rw [hb2.cell (p := ⟨w.heap.size, m, none⟩) HSZ.out]; exact k0
           have HSZ2 : Hid (w.heap.size < w2.heap.size) := Nat.lt_of_lt_of_le HSZ.out hb2.size
           clear hb2)
        | (go_at_call 30
           with_reducible refine (HC.out w2 HB2.out k1 k.toNat hk).mono ?_
           rintro e w3 ⟨rfl, hb3⟩
           rw [HN.out]
           have HB3 : Hid (Below w.heap.size w w3) := HB2.out.trans (hb3.mono HB2.out.size)
           have k2 : w3.cell? ⟨w.heap.size, m, none⟩ = some (vs (nameK (m))) := by rw [hb3.cell (p := ⟨w.heap.size, m, none⟩) HSZ2.out]; exact k1
           have HSZ3 : Hid (w.heap.size < w3.heap.size) := Nat.lt_of_lt_of_le HSZ2.out hb3.size
           clear hb3)
        | (go_at_call 30
           with_reducible refine (HC.out w3 HB3.out k2 (m) (by omega)).mono ?_
           rintro e w4 ⟨rfl, hb4⟩
           have HB4 : Hid (Below w.heap.size w w4) := HB3.out.trans (hb4.mono HB3.out.size)
           have k3 : w4.cell? ⟨w.heap.size, m, none⟩ = some (vs (nameK (m))) := by rw [hb4.cell (p := ⟨w.heap.size, m, none⟩) HSZ3.out]; exact k2
           clear hb4)
        | fail)
    all_goals
      go_wp2_with fail
      go_ret
      exact ⟨rfl, HB4.out⟩
end Go.Proofs.YtghbabnekalgpaaDoor
