/- Plain facts: a request is read as it was written. No program is named. -/
import Derived.Test.YtghbabnekalgpaaDoorRqMath
namespace ReqMath
open BaseMath WireMath

/-- only the kind's own fields -/
def canonV (r : ReqV) : ReqV := if hasK r.kind.toNat = 2 then ⟨r.kind, [], r.path, [], [], []⟩ else if hasK r.kind.toNat = 3 then ⟨r.kind, r.name, [], r.arch, r.refs, []⟩ else if hasK r.kind.toNat = 4 then ⟨r.kind, [], [], [], [], r.outs⟩ else ⟨r.kind, [], [], [], [], []⟩
def ItemOk (n a : List By) (rs : List (List By)) : Prop := n.length < 65536 ∧ a.length < 65536 ∧ rs.length ≤ 16 ∧ ∀ s ∈ rs, s.length < 65536
def OutOk (i : Nat) (o : OutV) : Prop := ItemOk o.name o.arch o.refs ∧ o.needs.length < 4 ∧ ∀ z ∈ o.needs, 0 ≤ z ∧ z < (i : Int)
structure ReqOk (r : ReqV) : Prop where
  kind : hasK r.kind.toNat ≠ 0
  path : r.path.length < 65536
  item : hasK r.kind.toNat = 3 → ItemOk r.name r.arch r.refs
  outs : hasK r.kind.toNat = 4 → 0 < r.outs.length ∧ r.outs.length ≤ 4 ∧ ∀ i (h : i < r.outs.length), OutOk i r.outs[i]
theorem item_back (n a : List By) (rs : List (List By)) (y : List By) (h : ItemOk n a rs) :
    iname ⟨itemB n a rs ++ y, false⟩ = n ∧ iarch ⟨itemB n a rs ++ y, false⟩ = a ∧ irefs ⟨itemB n a rs ++ y, false⟩ = rs ∧ itemA ⟨itemB n a rs ++ y, false⟩ = ⟨y, false⟩ := by
  obtain ⟨h1, h2, h3, h4⟩ := h
  have e : itemB n a rs ++ y = textB n ++ (textB a ++ (textsB rs ++ y)) := by unfold itemB; simp
  have t1 := text_back n (textB a ++ (textsB rs ++ y)) false h1
  have t2 := text_back a (textsB rs ++ y) false h2
  have t3 := texts_back rs y 16 (by omega) (by omega) h4
  rw [e]
  unfold iname iarch irefs itemA
  rw [t1.1, t1.2, t2.1, t2.2, t3.1, t3.2]
  exact ⟨rfl, rfl, rfl, rfl⟩
theorem byteI_nat (z : Int) (h0 : 0 ≤ z) (h1 : z < 256) : ((byteI z).toNat : Int) = z := by
  unfold byteI
  rw [UInt8.toNat_ofNat_of_lt' (by show (z % 256).toNat < 256; omega)]
  omega
theorem needsGo_back (place : Nat) (hp : place ≤ 255) : ∀ (ns acc : List Int) (y : List By), (∀ z ∈ ns, 0 ≤ z ∧ z < (place : Int)) → needsGo place ns.length acc ⟨ns.map byteI ++ y, false⟩ = some (acc ++ ns, ⟨y, false⟩)
  | [], acc, y, _ => by simp [needsGo]
  | z :: ns, acc, y, h => by
    have hz := h z (by simp)
    rw [List.length_cons, needsGo, List.map_cons]
    have e : byteI z :: ns.map byteI ++ y = [byteI z] ++ (ns.map byteI ++ y) := rfl
    obtain ⟨h1, h2⟩ := byte_back (byteI z) (ns.map byteI ++ y) false
    have hb := byteI_nat z hz.1 (by omega)
    rw [e, h1, h2, if_neg (by omega)]
    rw [needsGo_back place hp ns _ y (fun u hu => h u (by simp [hu])), hb]
    simp
theorem needs_back (i : Nat) (hi : i ≤ 4) (ns : List Int) (y : List By) (hl : ns.length < 4) (h : ∀ z ∈ ns, 0 ≤ z ∧ z < (i : Int)) : needsR i ⟨[UInt8.ofNat ns.length] ++ (ns.map byteI ++ y), false⟩ = some (ns, ⟨y, false⟩) := by
  obtain ⟨h1, h2⟩ := byte_back (UInt8.ofNat ns.length) (ns.map byteI ++ y) false
  rw [UInt8.toNat_ofNat_of_lt' (by show ns.length < 256; omega)] at h1
  unfold needsR
  rw [h1, h2, if_neg (by omega), needsGo_back i (by omega) ns [] y h]
  simp
theorem outsGo_back : ∀ (os acc : List OutV) (i : Nat) (y : List By), i + os.length ≤ 4 → (∀ j (h : j < os.length), OutOk (i + j) os[j]) → outsGo os.length i acc ⟨os.flatMap outB ++ y, false⟩ = some (acc ++ os, ⟨y, false⟩)
  | [], acc, i, y, _, _ => by simp [outsGo]
  | o :: os, acc, i, y, hl, h => by
    have ho := h 0 (by simp)
    simp only [List.getElem_cons_zero, Nat.add_zero] at ho
    obtain ⟨hi, hn, hz⟩ := ho
    rw [List.length_cons] at hl ⊢
    rw [outsGo]
    have e : (o :: os).flatMap outB ++ y = itemB o.name o.arch o.refs ++ ([UInt8.ofNat o.needs.length] ++ (o.needs.map byteI ++ (os.flatMap outB ++ y))) := by
      rw [List.flatMap_cons]; unfold outB; simp
    rw [e]
    obtain ⟨e1, e2, e3, e4⟩ := item_back o.name o.arch o.refs ([UInt8.ofNat o.needs.length] ++ (o.needs.map byteI ++ (os.flatMap outB ++ y))) hi
    rw [e1, e2, e3, e4, needs_back i (by omega) o.needs _ hn hz]
    show outsGo os.length (i + 1) (acc ++ [o]) _ = _
    rw [outsGo_back os _ (i + 1) y (by omega) (fun j hj => by
      have := h (j + 1) (by simp; omega)
      rw [List.getElem_cons_succ] at this
      rwa [show i + 1 + j = i + (j + 1) by omega])]
    simp
theorem outs_back (os : List OutV) (h0 : 0 < os.length) (h4 : os.length ≤ 4) (h : ∀ i (h : i < os.length), OutOk i os[i]) : outsR ⟨outsB os, false⟩ = some (os, ⟨[], false⟩) := by
  obtain ⟨h1, h2⟩ := byte_back (UInt8.ofNat os.length) (os.flatMap outB) false
  rw [UInt8.toNat_ofNat_of_lt' (by show os.length < 256; omega)] at h1
  have hb := outsGo_back os [] 0 [] (by omega) (fun j hj => by simpa using h j hj)
  rw [List.append_nil, List.nil_append] at hb
  unfold outsR outsB
  rw [h1, h2, if_neg (by omega), hb]
theorem whole_nil : whole ⟨[], false⟩ = true := rfl
/-- A REQUEST IS READ AS IT WAS WRITTEN -/
theorem dec_enc (r : ReqV) (h : ReqOk r) (hl : (encB r).length ≤ 2048) : decV (encB r) = (canonV r, 0) := by
  have hb := byte_back r.kind (restB (hasK r.kind.toNat) r) false
  have hk : kindR (encB r) = r.kind := by
    unfold kindR encB; rw [hb.1]; simp
  have ha : after 1 ⟨encB r, false⟩ = ⟨restB (hasK r.kind.toNat) r, false⟩ := by unfold encB; exact hb.2
  unfold decV
  rw [if_neg (by omega), hk, ha]
  have hc : hasK r.kind.toNat = 1 ∨ hasK r.kind.toNat = 2 ∨ hasK r.kind.toNat = 3 ∨ hasK r.kind.toNat = 4 := by have := hasK_le r.kind.toNat; have := h.kind; omega
  unfold decK canonV
  rcases hc with hc | hc | hc | hc
  · have hr : restB (hasK r.kind.toNat) r = [] := by rw [hc]; rfl
    rw [hr, if_neg (by omega), if_pos hc, if_neg (by omega), if_neg (by omega), if_neg (by omega)]
    unfold finR; rw [whole_nil, if_pos rfl]
  · have hr : restB (hasK r.kind.toNat) r = textB r.path := by rw [hc]; rfl
    have ht := text_back r.path [] false h.path
    rw [List.append_nil] at ht
    rw [hr, if_neg (by omega), if_neg (by omega), if_pos hc, if_pos hc, ht.1, ht.2]
    unfold finR; rw [whole_nil, if_pos rfl]
  · have hr : restB (hasK r.kind.toNat) r = itemB r.name r.arch r.refs := by rw [hc]; rfl
    have ht := item_back r.name r.arch r.refs [] (h.item hc)
    rw [List.append_nil] at ht
    rw [hr, if_neg (by omega), if_neg (by omega), if_neg (by omega), if_pos hc, if_neg (by omega), if_pos hc, ht.1, ht.2.1, ht.2.2.1, ht.2.2.2]
    unfold finR; rw [whole_nil, if_pos rfl]
  · have hr : restB (hasK r.kind.toNat) r = outsB r.outs := by rw [hc]; rfl
    obtain ⟨h0, h4, ho⟩ := h.outs hc
    rw [hr, if_neg (by omega), if_neg (by omega), if_neg (by omega), if_neg (by omega), if_neg (by omega), if_neg (by omega), if_pos hc, outs_back r.outs h0 h4 ho]
    show finR _ _ = _
    unfold finR; rw [whole_nil, if_pos rfl]
end ReqMath
