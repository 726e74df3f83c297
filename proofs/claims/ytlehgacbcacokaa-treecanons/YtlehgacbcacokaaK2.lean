/- Nodes of each kind, as they are laid. -/
import Derived.Test.YtlehgacbcacokaaK1
namespace Go.Proofs.Ytlehgacbcacokaa
open Go.RowKit TreeMath

def fileHd (da : Option Addr) (dc : Nat) (data : List By) (run : Bool) (stamp : Nat) : Hd := ⟨2, none, 0, [], none, 0, da, dc, data, run, stamp, []⟩
def linkHd (target : List By) : Hd := ⟨3, none, 0, [], none, 0, none, 0, [], false, 0, target⟩
def dirHd (na : Option Addr) (nc : Nat) (names : List (List By)) (ka : Option Addr) (kc : Nat) : Hd := ⟨1, na, nc, names, ka, kc, none, 0, [], false, 0, []⟩
theorem ok_file {w : World} {top : Nat} (da : Option Addr) (dc : Nat) (data : List By) (run : Bool) (stamp : Nat) (h1 : SrcIs w da data) (h2 : 0 < data.length → ∀ a, da = some a → a.block < top)
    (h3 : da = none → dc = 0) (h4 : data.length ≤ dc) (h5 : data.length ≤ maxLen) (h6 : stamp < 18446744073709551616) : Ok w top (.mk (fileHd da dc data run stamp) []) :=
  .mk _ _ ⟨fun h => absurd h (by simp [fileHd]), fun h => absurd h (by simp [fileHd]), fun _ => rfl, by simp [fileHd], by simp [fileHd], by simp [fileHd], h1, h2, h3, h4, h5, h6, by simp [fileHd], fun _ => rfl⟩ (by simp) (by simp) (fun h => absurd h (by simp)) (fun k hk => by cases hk)
theorem ok_link {w : World} {top : Nat} (target : List By) (h : target.length ≤ maxLen) : Ok w top (.mk (linkHd target) []) :=
  .mk _ _ ⟨fun h => absurd h (by simp [linkHd]), fun h => absurd h (by simp [linkHd]), fun _ => rfl, by simp [linkHd], by simp [linkHd], by simp [linkHd], fun h => absurd h (by simp [linkHd]), fun h => absurd h (by simp [linkHd]), fun _ => rfl, by simp [linkHd], by simp [linkHd], by simp [linkHd], h, fun _ => rfl⟩ (by simp) (by simp) (fun h => absurd h (by simp)) (fun k hk => by cases hk)
theorem ok_dir {w : World} {top : Nat} (na : Option Addr) (nc : Nat) (names : List (List By)) (ka : Option Addr) (kc : Nat) (ks : List T) (h1 : StrsIs w na names) (h2 : 0 < names.length → ∀ a, na = some a → a.block < top)
    (h3 : na = none → nc = 0) (h4 : names.length ≤ nc) (h5 : names.length ≤ maxLen) (h6 : ∀ t ∈ names, t.length ≤ maxLen) (h7 : ka = none → kc = 0) (h8 : ks.length ≤ maxLen) (h9 : ks.length ≤ kc) (h10 : KidsAt w top ka ks) (h11 : ∀ k ∈ ks, Ok w top k) :
    Ok w top (.mk (dirHd na nc names ka kc) ks) :=
  .mk _ _ ⟨h1, h2, h3, h4, h5, h6, fun h => absurd h (by simp [dirHd]), fun h => absurd h (by simp [dirHd]), fun _ => rfl, by simp [dirHd], by simp [dirHd], by simp [dirHd], by simp [dirHd], h7⟩ h8 h9 h10 h11
theorem Blk.strs {w : World} {g : Nat} {t : TypeId} {ls : List (List By)} {tl : List Value} (h : Blk w g t (ls.map vs ++ tl)) : StrsIs w (some ⟨g, 0, none⟩) ls := fun _ => ⟨g, 0, rfl, fun k hk => by
  rw [Nat.zero_add, h.cell, List.getElem?_append_left (by simpa using hk)]; simp [hk]⟩
theorem Blk.src {w : World} {g : Nat} {l : List By} {tl : List Value} (h : Blk w g 5 (l.map vb ++ tl)) : SrcIs w (some ⟨g, 0, none⟩) l := fun _ => ⟨g, 0, rfl, Blk.bytes h⟩
/-- one node in a row of its own -/
theorem Blk.kid {w : World} {g top : Nat} {t : TypeId} (k : T) (h : Blk w g t (cellsT k)) (hg : g < top) : KidsAt w top (some ⟨g, 0, none⟩) [k] := fun _ => ⟨g, 0, rfl, hg, fun i hi j v hv => by
  have : i = 0 := by simpa using hi
  subst this
  rw [show 0 + 0 * 7 + j = j by omega, h.cell]; exact hv⟩
theorem fits_file (da : Option Addr) (dc : Nat) (data : List By) (run : Bool) (stamp : Nat) : fitsB (.mk (fileHd da dc data run stamp) []) = decide (data.length ≤ 1024) := by
  rw [fitsB]; simp [fileHd]; rfl
theorem fits_link (t : List By) : fitsB (.mk (linkHd t) []) = (decide (1 ≤ t.length) && decide (t.length ≤ 1024)) := by
  have h0 : RealMath.canonB 0 = 0 := by decide
  rw [fitsB]; simp [linkHd, noFile, h0]; rfl
theorem fits_dir (na : Option Addr) (nc : Nat) (names : List (List By)) (ka : Option Addr) (kc : Nat) (ks : List T) : fitsB (.mk (dirHd na nc names ka kc) ks) = (decide (names.length = ks.length) && namesOk names) := by
  have h0 : RealMath.canonB 0 = 0 := by decide
  rw [fitsB]; simp [dirHd, noFile, h0]; rfl
end Go.Proofs.Ytlehgacbcacokaa
