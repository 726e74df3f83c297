/- The contract of restore. -/
import Derived.Test.YtkmjknehbaofcaaR2
import Derived.Deep.RegionHeld3
import Derived.Deep.DeepCutAuto
namespace Go.Proofs.Ytkmjknehbaofcaa
open Go.RowKit Go.Maps Go.WideShapes Go.MapKept Go.WideMaps Go.ChangeMaps BaseMath WireMath NameMath

def Fo.val (f : Fo) : Value := .agg #[vs f.k, .int .i64 f.v, .bool f.t]
/-- what a key had, once more -/
def restD (D : DU) (f : Fo) : DU := if f.t then D.put (kl f.k) (.lit (.int .i64 f.v)) else D.del (kl f.k)
theorem grown_cell {w w' : World} {m : Nat} (hg : w.grownBy w' (some m)) {p : Addr} {v : Value} (h : w.cell? p = some v) (hne : p.block ≠ m) : w'.cell? p = some v := by
  rw [World.cell?_of_block (w := w) (hg.block p.block (World.block_lt_of_cell? w _ h) (fun e => by injection e with e; exact hne e))]; exact h
set_option maxHeartbeats 2000000 in
set_option maxRecDepth 100000 in
theorem restore_any {base : Nat} {w : World} {tb mb : Nat} {jv : Value} {D : DU} {J : List Fo} {n : Nat} (h : TabAt base w tb mb jv D J n) (f : Fo) (hn : n ≤ 1000000) :
    Calls Try.prog 38 #[.pointer (some ⟨tb, 0, none⟩), f.val] w fun e w' => e = .returned (.tuple #[]) ∧ w'.ownsMap Try.prog 9 (plainElem (H := Unit) Try.prog 3) mb (n + 1) (restD D f) ∧ w.grownBy w' (some mb) := by
  have hk := f.hk; have hv := f.hv
  have hne := blk_ne_map h.map h.blk
  have hmlt := h.map.lt
  have c0 : (w.alloc (.cells #[vs f.k, .int .i64 f.v, .bool f.t] 76)).cell? ⟨tb, 0, none⟩ = some (.map (some mb)) := (h.blk.alloc _).cell 0
  have HX := Lib.hid (Blk.new w 76 #[vs f.k, .int .i64 f.v, .bool f.t])
  have x0 : (w.alloc (.cells #[vs f.k, .int .i64 f.v, .bool f.t] 76)).cell? ⟨w.heap.size, 0, none⟩ = some (vs f.k) := HX.out.cell 0
  have x1 : (w.alloc (.cells #[vs f.k, .int .i64 f.v, .bool f.t] 76)).cell? ⟨w.heap.size, 1, none⟩ = some (.int .i64 f.v) := HX.out.cell 1
  have hkey := keyOf9 hk
  have hmap := (h.map.alloc (.cells #[vs f.k, .int .i64 f.v, .bool f.t] 76)).drew
  have hga := World.grownBy_alloc w (.cells #[vs f.k, .int .i64 f.v, .bool f.t] 76) (some mb)
  obtain ⟨k, v, t, hk', hv'⟩ := f
  unfold Fo.val restD
  dsimp only at *
  cases t with
  | true =>
    obtain ⟨w2, hrun, hown2, hg2⟩ := hmap.update key9 Try.underlying62 (by unfold maxLen; omega) hkey (plainElem_int Try.underlying3 hv)
    have hg2' : (w.alloc (.cells #[vs k, .int .i64 v, .bool true] 76)).grownBy w2 (some mb) := ⟨hg2.os, hg2.tape, hg2.output, hg2.size, hg2.block⟩
    have K0 := Lib.hid (And.intro c0 (And.intro x0 x1))
    have K2 := Lib.hid (And.intro (grown_cell hg2' c0 (Ne.symm hne)) (And.intro (grown_cell hg2' x0 (by show w.heap.size ≠ mb; omega)) (grown_cell hg2' x1 (by show w.heap.size ≠ mb; omega))))
    have HO := Lib.hid hown2; have HG := Lib.hid (hga.trans hg2')
    clear hmap hown2 hg2 hg2' hga HX h hkey hv hk
    go_enter Try.func38, Try.ntmps38
    go_upto_region 2 with fail
    go_region_held3 (fun W => W.cell? ⟨tb, 0, none⟩ = some (.map (some mb)) ∧ W.cell? ⟨w.heap.size, 0, none⟩ = some (vs k) ∧ W.cell? ⟨w.heap.size, 1, none⟩ = some (.int .i64 v))
      (first | exact K0.out | exact K2.out) (fail)
    go_wp2_with fail
    go_end0
    exact ⟨rfl, HO.out, HG.out⟩
  | false =>
    obtain ⟨w2, hrun, hown2, hturn⟩ := hmap.drop key9 Try.underlying62 hkey 0
    have hg2 := hturn.grown
    have hg2' : (w.alloc (.cells #[vs k, .int .i64 v, .bool false] 76)).grownBy w2 (some mb) := ⟨hg2.os, hg2.tape, hg2.output, hg2.size, hg2.block⟩
    have K0 := Lib.hid (And.intro c0 x0)
    have K2 := Lib.hid (And.intro (grown_cell hg2' c0 (Ne.symm hne)) (grown_cell hg2' x0 (by show w.heap.size ≠ mb; omega)))
    have HO := Lib.hid (hown2.mono (Nat.le_succ n)); have HG := Lib.hid (hga.trans hg2')
    clear hmap hown2 hg2 hg2' hga HX h hkey hv hk hturn
    go_enter Try.func38, Try.ntmps38
    go_upto_region 3 with fail
    go_region_held3 (fun W => W.cell? ⟨tb, 0, none⟩ = some (.map (some mb)) ∧ W.cell? ⟨w.heap.size, 0, none⟩ = some (vs k))
      (first | exact K0.out | exact K2.out) (fail)
    go_wp2_with fail
    go_end0
    exact ⟨rfl, HO.out, HG.out⟩
end Go.Proofs.Ytkmjknehbaofcaa
