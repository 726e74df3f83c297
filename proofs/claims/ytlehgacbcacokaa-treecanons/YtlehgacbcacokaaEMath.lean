/- Trees but for where they lie. No program is named. -/
import Derived.Test.YtlehgacbcacokaaTMath
namespace TreeMath
open Go RealMath

def eraseH (x : Hd) : Hd := ⟨x.kind, none, 0, x.names, none, 0, none, 0, x.data, x.run, x.stamp, x.target⟩
mutual
/-- but for where it lies -/
def erase : T → T
  | .mk x ks => .mk (eraseH x) (eraseL ks)
def eraseL : List T → List T
  | [] => []
  | k :: l => erase k :: eraseL l
end
theorem eraseL_map : ∀ l, eraseL l = l.map erase
  | [] => rfl
  | k :: l => by rw [eraseL, List.map_cons, eraseL_map l]
theorem eraseL_length (l : List T) : (eraseL l).length = l.length := by rw [eraseL_map]; simp
theorem eraseL_append (a b : List T) : eraseL (a ++ b) = eraseL a ++ eraseL b := by simp [eraseL_map]
mutual
theorem all_erase : ∀ t, all (erase t) = (all t).map erase
  | .mk x ks => by rw [erase, all, all, List.map_cons, allL_erase ks, erase]
theorem allL_erase : ∀ l, allL (eraseL l) = (allL l).map erase
  | [] => rfl
  | k :: l => by rw [eraseL, allL, allL, List.map_append, all_erase k, allL_erase l]
end
theorem count_erase (t : T) : count (erase t) = count t := by unfold count; rw [all_erase]; simp
mutual
theorem depth_erase : ∀ t, depth (erase t) = depth t
  | .mk x ks => by rw [erase, depth, depth, depthL_erase ks]
theorem depthL_erase : ∀ l, depthL (eraseL l) = depthL l
  | [] => rfl
  | k :: l => by rw [eraseL, depthL, depthL, depth_erase k, depthL_erase l]
end
theorem fits_erase (t : T) : fitsB (erase t) = fitsB t := by
  cases t with
  | mk x ks => rw [erase, fitsB, fitsB, eraseL_length]; rfl
mutual
theorem same_erase : ∀ a b, same (erase a) (erase b) = same a b
  | .mk x ks, .mk y ls => by rw [erase, erase, same, same, sameL_erase ks ls]; rfl
theorem sameL_erase : ∀ a b, sameL (eraseL a) (eraseL b) = sameL a b
  | [], [] => by simp [eraseL]
  | a :: l, b :: m => by rw [eraseL, eraseL, sameL, sameL, same_erase a b, sameL_erase l m]
  | [], _ :: _ => by simp [eraseL, sameL]
  | _ :: _, [] => by simp [eraseL, sameL]
end
mutual
theorem same_refl : ∀ t, same t t = true
  | .mk x ks => by rw [same, sameL_refl ks]; simp [hdSame]
theorem sameL_refl : ∀ l, sameL l l = true
  | [] => by rw [sameL]
  | k :: l => by rw [sameL, same_refl k, sameL_refl l]; rfl
end
theorem same_of_erase {a b : T} (h : erase a = erase b) : same a b = true := by rw [← same_erase, h, same_refl]
mutual
theorem erase_erase : ∀ t, erase (erase t) = erase t
  | .mk x ks => by rw [erase, erase, eraseL_eraseL ks]; rfl
theorem eraseL_eraseL : ∀ l, eraseL (eraseL l) = eraseL l
  | [] => rfl
  | k :: l => by rw [eraseL, eraseL, erase_erase k, eraseL_eraseL l]
end
def dirE (ns : List (List By)) : Hd := ⟨1, none, 0, ns, none, 0, none, 0, [], false, 0, []⟩
def fileE (data : List By) (run : Bool) (stamp : Nat) : Hd := ⟨2, none, 0, [], none, 0, none, 0, data, run, stamp, []⟩
def linkE (t : List By) : Hd := ⟨3, none, 0, [], none, 0, none, 0, [], false, 0, t⟩
end TreeMath
