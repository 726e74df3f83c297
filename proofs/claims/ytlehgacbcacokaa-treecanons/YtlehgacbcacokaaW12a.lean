/- The reference's form: the question of one name and one kid, each of its four ways. -/
import Derived.Test.YtlehgacbcacokaaW11
import Derived.Test.YtlehgacbcacokaaW5
import Derived.StillTailTactics
namespace Go.Proofs.Ytlehgacbcacokaa
open Go.RowKit TreeMath RealMath

def cRight : Code → Code
  | .seq _ b => b
  | c => c
def cLeft : Code → Code
  | .seq a _ => a
  | c => c
def cIn : Code → Code
  | .block _ c => c
  | .loop c => c
  | c => c
def cThen : Code → Code
  | .cond _ a _ => a
  | c => c
theorem wpStill_skip {P : Program} {ops : Array Oper} {w : World} {Q : Act → Prop} {a : Act} {o : Oper} {rest : List Oper} (h : Region.wanted o (yielded ops a.tmps) = false) (k : wpStill P ops w Q rest (a.put o.dst undef)) : wpStill P ops w Q (o :: rest) a := by
  show (if Region.wanted o (yielded ops a.tmps) = true then _ else _)
  rw [if_neg (by rw [h]; decide)]; exact k
theorem wpStill_of_quiet {P : Program} {ops : Array Oper} {w : World} {Q : Act → Prop} : ∀ {l : List Oper} {a : Act}, wpQuiet P ops (fun w' => w' = w) Q l a → wpStill P ops w Q l a
  | [], _, h => h
  | o :: rest, a, h => by
    unfold wpQuiet at h
    unfold wpStill
    by_cases hw : Region.wanted o (yielded ops a.tmps) = true
    · rw [if_pos hw] at h ⊢
      obtain ⟨v, hv, hn⟩ := h
      have h1 := hv w rfl
      have hn' := wpStill_of_quiet hn
      unfold Oper.quietAt at h1
      unfold Oper.still
      generalize (execOp a.eval o).run P w = r at h1
      match r, h1 with
      | .ok (.value u) w', ⟨e1, e2⟩ => exact ⟨e1, by rw [e2]; exact hn'⟩
      | .ok .skip w', ⟨e1, e2⟩ => exact ⟨e1, by rw [← e2]; exact hn'⟩
      | .ok (.enter f args) w', ⟨e1, e2⟩ => exact ⟨e1, v, e2, hn'⟩
    · rw [if_neg hw] at h ⊢
      exact wpStill_of_quiet h
theorem quiet_name (s : List By) (hs : s.length ≤ maxLen) (b : Bool) (hb : nameOk s = b) (W : World) (n : Nat) : Calls Try.prog 82 #[vs s] (W.drewN n) fun e w' => e = .returned (.bool b) ∧ ∃ m, w' = W.drewN m :=
  (refname_any s hs (W.drewN n)).mono fun _ _ ⟨h1, h2⟩ => ⟨by rw [h1, hb], n, h2.symm⟩
set_option maxHeartbeats 8000000 in
set_option maxRecDepth 100000 in
theorem reg11_bad {x0 x2 x3 x4 x5 x7 x8 x9 x10 x11 x12 x13 x14 x15 x16 x17 x18 x19 x20 x21 x22 x23 x24 x25 x26 x27 x28 x29 x30 x31 x32 x33 x34 x35 x36 x37 x38 x39 x40 x41 x42 x43 x44 x45 x46 x47 x48 x49 x50 x51 x52 x53 x54 x55 x56 x57 x58 x59 x60 x61 x62 x63 x64 x65 x66 x67 x68 x69 x70 x71 x72 x73 x74 x75 x76 x77 x78 x79 x80 x81 x82 x83 x84 x85 x86 x87 x88 x89 x90 x91 x92 x93 x94 x95 x96 x97 x98 x99 x100 x101 x102 x103 x104 x105 x106 x107 x108 x109 x110 x111 x112 x113 x114 x115 x116 x117 x118 x119 x120 x121 : Value} (g i nb no cn ln : Nat) (s1 : List By) (W0 : World) (Q : Exit → Act → World → Prop) (hs : s1.length ≤ maxLen) (hnm : nameOk s1 = false) (hi : i < ln) (c1 : W0.cell? ⟨g, 1, none⟩ = some (.slice (some ⟨nb, no, none⟩) ln cn)) (n1 : W0.cell? ⟨nb, no + i, none⟩ = some (vs s1))
    (hQ : ∀ {y57 y58 y59 y60 y61 y62 y63 y64 y65 y66 y67 y68 y69 y70 y71 y72 y73 y74 y75 y76 y77 y78 y79 y80 y81 y82 y83 y84 y85 y86 y87 y88 y89 : Value} (w' : World), Below W0.heap.size W0 w' → Q .normal { tmps := List.toArray (x0 :: (.pointer (some ⟨g, 0, none⟩)) :: x2 :: x3 :: x4 :: x5 :: (.int .i64 i) :: x7 :: x8 :: x9 :: x10 :: x11 :: x12 :: x13 :: x14 :: x15 :: x16 :: x17 :: x18 :: x19 :: x20 :: x21 :: x22 :: x23 :: x24 :: x25 :: x26 :: x27 :: x28 :: x29 :: x30 :: x31 :: x32 :: x33 :: x34 :: x35 :: x36 :: x37 :: x38 :: x39 :: x40 :: x41 :: x42 :: x43 :: x44 :: x45 :: x46 :: x47 :: x48 :: x49 :: x50 :: x51 :: x52 :: x53 :: x54 :: x55 :: x56 :: y57 :: y58 :: y59 :: y60 :: y61 :: y62 :: y63 :: y64 :: y65 :: y66 :: y67 :: y68 :: y69 :: y70 :: y71 :: y72 :: y73 :: y74 :: y75 :: y76 :: y77 :: y78 :: y79 :: y80 :: y81 :: y82 :: y83 :: y84 :: y85 :: y86 :: y87 :: y88 :: y89 :: (.bool true) :: x91 :: x92 :: x93 :: x94 :: x95 :: x96 :: x97 :: x98 :: x99 :: x100 :: x101 :: x102 :: x103 :: x104 :: x105 :: x106 :: x107 :: x108 :: x109 :: x110 :: x111 :: x112 :: x113 :: x114 :: x115 :: x116 :: x117 :: x118 :: x119 :: x120 :: x121 :: []), defers := [] } w') :
    Code.wp Try.prog (cLeft (cIn (cLeft (cRight (cIn (cIn (cRight (cLeft (cRight (cThen (cRight (cIn (cRight (cLeft (cRight (cRight (cRight (cRight (Try.f50.body.getD .skip))))))))))))))))))) Q { tmps := List.toArray (x0 :: (.pointer (some ⟨g, 0, none⟩)) :: x2 :: x3 :: x4 :: x5 :: (.int .i64 i) :: x7 :: x8 :: x9 :: x10 :: x11 :: x12 :: x13 :: x14 :: x15 :: x16 :: x17 :: x18 :: x19 :: x20 :: x21 :: x22 :: x23 :: x24 :: x25 :: x26 :: x27 :: x28 :: x29 :: x30 :: x31 :: x32 :: x33 :: x34 :: x35 :: x36 :: x37 :: x38 :: x39 :: x40 :: x41 :: x42 :: x43 :: x44 :: x45 :: x46 :: x47 :: x48 :: x49 :: x50 :: x51 :: x52 :: x53 :: x54 :: x55 :: x56 :: x57 :: x58 :: x59 :: x60 :: x61 :: x62 :: x63 :: x64 :: x65 :: x66 :: x67 :: x68 :: x69 :: x70 :: x71 :: x72 :: x73 :: x74 :: x75 :: x76 :: x77 :: x78 :: x79 :: x80 :: x81 :: x82 :: x83 :: x84 :: x85 :: x86 :: x87 :: x88 :: x89 :: x90 :: x91 :: x92 :: x93 :: x94 :: x95 :: x96 :: x97 :: x98 :: x99 :: x100 :: x101 :: x102 :: x103 :: x104 :: x105 :: x106 :: x107 :: x108 :: x109 :: x110 :: x111 :: x112 :: x113 :: x114 :: x115 :: x116 :: x117 :: x118 :: x119 :: x120 :: x121 :: []), defers := [] } W0 := by
  have HNM : Hid (∀ n, Calls Try.prog 82 #[vs s1] (W0.drewN n) fun e w' => e = .returned (.bool false) ∧ ∃ m, w' = W0.drewN m) := fun n => quiet_name s1 hs false hnm W0 n
  clear hs hnm
  dsimp only [Try.f50, cRight, cLeft, cIn, cThen, Option.getD]
  go_quiet ((go_at_call 82; with_reducible exact HNM.out _))
  exact hQ _ (below_drewN (Below.refl _ _) _)
end Go.Proofs.Ytlehgacbcacokaa
