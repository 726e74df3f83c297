/- The contracts of bare and fits. -/
import Derived.Test.YtlehgacbcacokaaG6
import Derived.StillTailTactics
namespace Go.Proofs.Ytlehgacbcacokaa
open Go.RowKit TreeMath RealMath

theorem hdOk_zero (w : World) (top : Nat) : HdOk w top zero :=
  ⟨fun h => absurd h (by simp [zero]), fun h => absurd h (by simp [zero]), fun _ => rfl, by simp [zero], by simp [zero], by simp [zero], fun h => absurd h (by simp [zero]), fun h => absurd h (by simp [zero]), fun _ => rfl, by simp [zero], by simp [zero], by simp [zero], by simp [zero], fun _ => rfl⟩
theorem ok_zero (w : World) (top : Nat) : Ok w top zeroT := .mk zero [] (hdOk_zero w top) (by simp) (by simp [zero]) (fun h => absurd h (by simp)) (fun k hk => by cases hk)
set_option maxHeartbeats 1000000 in
theorem bare_any (x : Hd) (ks : List T) (top : Nat) (w : World) (htop : top ≤ w.heap.size) (h : Ok w top (.mk x ks)) :
    Calls Try.prog 81 #[nv x ks.length] w fun e w' => e = .returned (.bool (same (.mk x ks) zeroT)) ∧ Below w.heap.size w w' := by
  have H := Lib.hid h; clear h
  go_enter Try.func81, Try.ntmps81
  go_wp2_with fail
  have hB : Below w.heap.size w (w.alloc (.cells #[vb x.kind, .slice x.na x.names.length x.nc, .slice x.ka ks.length x.kc, .slice x.da x.data.length x.dc, .bool x.run, .float .f64 x.stamp, vs x.target] 27)) := (Below.refl _ _).alloc (Nat.le_refl _) _
  refine (same_of top (.mk x ks) zeroT _ (Nat.le_trans htop hB.size) (H.out.keep (hB.mono htop)) (ok_zero _ _)).mono ?_
  rintro e w1 ⟨rfl, hb1⟩
  have HB1 : Hid (Below w.heap.size w w1) := hB.trans (hb1.mono hB.size)
  clear hb1 hB
  go_wp2_with fail
  go_ret
  exact ⟨rfl, HB1.out⟩
def dirRest (x : Hd) : Hd := ⟨0, none, 0, [], none, 0, x.da, x.dc, x.data, x.run, x.stamp, x.target⟩
def fileRest (x : Hd) : Hd := ⟨0, x.na, x.nc, x.names, x.ka, x.kc, none, 0, [], false, 0, x.target⟩
def linkRest (x : Hd) : Hd := ⟨0, x.na, x.nc, x.names, x.ka, x.kc, x.da, x.dc, x.data, x.run, x.stamp, []⟩
theorem dirRest_ok {w : World} {top : Nat} {x : Hd} {ks : List T} (h : Ok w top (.mk x ks)) : Ok w top (.mk (dirRest x) []) :=
  .mk _ _ ⟨fun h => absurd h (by simp [dirRest]), fun h => absurd h (by simp [dirRest]), fun _ => rfl, by simp [dirRest], by simp [dirRest], by simp [dirRest], h.hd.dsrc, h.hd.dlt, h.hd.dnil, h.hd.dcap, h.hd.dlen, h.hd.stamp, h.hd.tlen, fun _ => rfl⟩ (by simp) (by simp) (fun h => absurd h (by simp)) (fun k hk => by cases hk)
theorem fileRest_ok {w : World} {top : Nat} {x : Hd} {ks : List T} (h : Ok w top (.mk x ks)) : Ok w top (.mk (fileRest x) ks) :=
  .mk _ _ ⟨h.hd.nsrc, h.hd.nlt, h.hd.nnil, h.hd.ncap, h.hd.nlen, h.hd.neach, fun h => absurd h (by simp [fileRest]), fun h => absurd h (by simp [fileRest]), fun _ => rfl, by simp [fileRest], by simp [fileRest], by simp [fileRest], h.hd.tlen, h.hd.knil⟩ h.len h.cap h.at (fun k hk => h.kid hk)
theorem linkRest_ok {w : World} {top : Nat} {x : Hd} {ks : List T} (h : Ok w top (.mk x ks)) : Ok w top (.mk (linkRest x) ks) :=
  .mk _ _ ⟨h.hd.nsrc, h.hd.nlt, h.hd.nnil, h.hd.ncap, h.hd.nlen, h.hd.neach, h.hd.dsrc, h.hd.dlt, h.hd.dnil, h.hd.dcap, h.hd.dlen, h.hd.stamp, by simp [linkRest], h.hd.knil⟩ h.len h.cap h.at (fun k hk => h.kid hk)
theorem dir_same (x : Hd) : same (.mk (dirRest x) []) zeroT = (noFile x && decide (x.target = [])) := by
  rw [same_zero]
  by_cases h1 : x.run = false <;> by_cases h2 : x.target = [] <;> by_cases h3 : canonB x.stamp = 0 <;> by_cases h4 : x.data = [] <;> simp [dirRest, noFile, h1, h2, h3, h4]
theorem file_same (x : Hd) (ks : List T) : same (.mk (fileRest x) ks) zeroT = (decide (x.names = []) && decide (ks.length = 0) && decide (x.target = [])) := by
  rw [same_zero]
  have h0 : canonB 0 = 0 := by decide
  by_cases h1 : x.names = [] <;> by_cases h2 : x.target = [] <;> by_cases h3 : ks.length = 0 <;> simp [fileRest, h0, h1, h2, h3]
theorem link_same (x : Hd) (ks : List T) : same (.mk (linkRest x) ks) zeroT = (decide (x.names = []) && decide (ks.length = 0) && noFile x) := by
  rw [same_zero]
  by_cases h1 : x.names = [] <;> by_cases h2 : x.run = false <;> by_cases h3 : ks.length = 0 <;> by_cases h4 : canonB x.stamp = 0 <;> by_cases h5 : x.data = [] <;> simp [linkRest, noFile, h1, h2, h3, h4, h5]
end Go.Proofs.Ytlehgacbcacokaa

/- The reference's form: the question of one name and one kid, each of its four ways. -/
namespace Go.Proofs.Ytlehgacbcacokaa
open Go.RowKit TreeMath RealMath

def cRight : Code → Code
  | .seq _ b => b
  | c => c
def cLeft : Code → Code
  | .seq a _ => a
  | c => c
def cIn : Code → Code
  | .block _ c => c
  | .loop c => c
  | c => c
def cThen : Code → Code
  | .cond _ a _ => a
  | c => c
theorem wpStill_skip {P : Program} {ops : Array Oper} {w : World} {Q : Act → Prop} {a : Act} {o : Oper} {rest : List Oper} (h : Region.wanted o (yielded ops a.tmps) = false) (k : wpStill P ops w Q rest (a.put o.dst undef)) : wpStill P ops w Q (o :: rest) a := by
  show (if Region.wanted o (yielded ops a.tmps) = true then _ else _)
  rw [if_neg (by rw [h]; decide)]; exact k
theorem wpStill_of_quiet {P : Program} {ops : Array Oper} {w : World} {Q : Act → Prop} : ∀ {l : List Oper} {a : Act}, wpQuiet P ops (fun w' => w' = w) Q l a → wpStill P ops w Q l a
  | [], _, h => h
  | o :: rest, a, h => by
    unfold wpQuiet at h
    unfold wpStill
    by_cases hw : Region.wanted o (yielded ops a.tmps) = true
    · rw [if_pos hw] at h ⊢
      obtain ⟨v, hv, hn⟩ := h
      have h1 := hv w rfl
      have hn' := wpStill_of_quiet hn
      unfold Oper.quietAt at h1
      unfold Oper.still
      generalize (execOp a.eval o).run P w = r at h1
      match r, h1 with
      | .ok (.value u) w', ⟨e1, e2⟩ => exact ⟨e1, by rw [e2]; exact hn'⟩
      | .ok .skip w', ⟨e1, e2⟩ => exact ⟨e1, by rw [← e2]; exact hn'⟩
      | .ok (.enter f args) w', ⟨e1, e2⟩ => exact ⟨e1, v, e2, hn'⟩
    · rw [if_neg hw] at h ⊢
      exact wpStill_of_quiet h
theorem quiet_name (s : List By) (hs : s.length ≤ maxLen) (b : Bool) (hb : nameOk s = b) (W : World) (n : Nat) : Calls Try.prog 82 #[vs s] (W.drewN n) fun e w' => e = .returned (.bool b) ∧ ∃ m, w' = W.drewN m :=
  (refname_any s hs (W.drewN n)).mono fun _ _ ⟨h1, h2⟩ => ⟨by rw [h1, hb], n, h2.symm⟩
set_option maxHeartbeats 8000000 in
set_option maxRecDepth 100000 in
theorem reg11_bad {x0 x2 x3 x4 x5 x7 x8 x9 x10 x11 x12 x13 x14 x15 x16 x17 x18 x19 x20 x21 x22 x23 x24 x25 x26 x27 x28 x29 x30 x31 x32 x33 x34 x35 x36 x37 x38 x39 x40 x41 x42 x43 x44 x45 x46 x47 x48 x49 x50 x51 x52 x53 x54 x55 x56 x57 x58 x59 x60 x61 x62 x63 x64 x65 x66 x67 x68 x69 x70 x71 x72 x73 x74 x75 x76 x77 x78 x79 x80 x81 x82 x83 x84 x85 x86 x87 x88 x89 x90 x91 x92 x93 x94 x95 x96 x97 x98 x99 x100 x101 x102 x103 x104 x105 x106 x107 x108 x109 x110 x111 x112 x113 x114 x115 x116 x117 x118 x119 x120 x121 : Value} (g i nb no cn ln : Nat) (s1 : List By) (W0 : World) (Q : Exit → Act → World → Prop) (hs : s1.length ≤ maxLen) (hnm : nameOk s1 = false) (hi : i < ln) (c1 : W0.cell? ⟨g, 1, none⟩ = some (.slice (some ⟨nb, no, none⟩) ln cn)) (n1 : W0.cell? ⟨nb, no + i, none⟩ = some (vs s1))
    (hQ : ∀ {y57 y58 y59 y60 y61 y62 y63 y64 y65 y66 y67 y68 y69 y70 y71 y72 y73 y74 y75 y76 y77 y78 y79 y80 y81 y82 y83 y84 y85 y86 y87 y88 y89 : Value} (w' : World), Below W0.heap.size W0 w' → Q .normal { tmps := List.toArray (x0 :: (.pointer (some ⟨g, 0, none⟩)) :: x2 :: x3 :: x4 :: x5 :: (.int .i64 i) :: x7 :: x8 :: x9 :: x10 :: x11 :: x12 :: x13 :: x14 :: x15 :: x16 :: x17 :: x18 :: x19 :: x20 :: x21 :: x22 :: x23 :: x24 :: x25 :: x26 :: x27 :: x28 :: x29 :: x30 :: x31 :: x32 :: x33 :: x34 :: x35 :: x36 :: x37 :: x38 :: x39 :: x40 :: x41 :: x42 :: x43 :: x44 :: x45 :: x46 :: x47 :: x48 :: x49 :: x50 :: x51 :: x52 :: x53 :: x54 :: x55 :: x56 :: y57 :: y58 :: y59 :: y60 :: y61 :: y62 :: y63 :: y64 :: y65 :: y66 :: y67 :: y68 :: y69 :: y70 :: y71 :: y72 :: y73 :: y74 :: y75 :: y76 :: y77 :: y78 :: y79 :: y80 :: y81 :: y82 :: y83 :: y84 :: y85 :: y86 :: y87 :: y88 :: y89 :: (.bool true) :: x91 :: x92 :: x93 :: x94 :: x95 :: x96 :: x97 :: x98 :: x99 :: x100 :: x101 :: x102 :: x103 :: x104 :: x105 :: x106 :: x107 :: x108 :: x109 :: x110 :: x111 :: x112 :: x113 :: x114 :: x115 :: x116 :: x117 :: x118 :: x119 :: x120 :: x121 :: []), defers := [] } w') :
    Code.wp Try.prog (cLeft (cIn (cLeft (cRight (cIn (cIn (cRight (cLeft (cRight (cThen (cRight (cIn (cRight (cLeft (cRight (cRight (cRight (cRight (Try.f50.body.getD .skip))))))))))))))))))) Q { tmps := List.toArray (x0 :: (.pointer (some ⟨g, 0, none⟩)) :: x2 :: x3 :: x4 :: x5 :: (.int .i64 i) :: x7 :: x8 :: x9 :: x10 :: x11 :: x12 :: x13 :: x14 :: x15 :: x16 :: x17 :: x18 :: x19 :: x20 :: x21 :: x22 :: x23 :: x24 :: x25 :: x26 :: x27 :: x28 :: x29 :: x30 :: x31 :: x32 :: x33 :: x34 :: x35 :: x36 :: x37 :: x38 :: x39 :: x40 :: x41 :: x42 :: x43 :: x44 :: x45 :: x46 :: x47 :: x48 :: x49 :: x50 :: x51 :: x52 :: x53 :: x54 :: x55 :: x56 :: x57 :: x58 :: x59 :: x60 :: x61 :: x62 :: x63 :: x64 :: x65 :: x66 :: x67 :: x68 :: x69 :: x70 :: x71 :: x72 :: x73 :: x74 :: x75 :: x76 :: x77 :: x78 :: x79 :: x80 :: x81 :: x82 :: x83 :: x84 :: x85 :: x86 :: x87 :: x88 :: x89 :: x90 :: x91 :: x92 :: x93 :: x94 :: x95 :: x96 :: x97 :: x98 :: x99 :: x100 :: x101 :: x102 :: x103 :: x104 :: x105 :: x106 :: x107 :: x108 :: x109 :: x110 :: x111 :: x112 :: x113 :: x114 :: x115 :: x116 :: x117 :: x118 :: x119 :: x120 :: x121 :: []), defers := [] } W0 := by
  have HNM : Hid (∀ n, Calls Try.prog 82 #[vs s1] (W0.drewN n) fun e w' => e = .returned (.bool false) ∧ ∃ m, w' = W0.drewN m) := fun n => quiet_name s1 hs false hnm W0 n
  clear hs hnm
  dsimp only [Try.f50, cRight, cLeft, cIn, cThen, Option.getD]
  go_quiet ((go_at_call 82; with_reducible exact HNM.out _))
  exact hQ _ (below_drewN (Below.refl _ _) _)
end Go.Proofs.Ytlehgacbcacokaa
