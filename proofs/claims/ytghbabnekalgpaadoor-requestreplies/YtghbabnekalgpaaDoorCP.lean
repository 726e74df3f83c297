/- RequestReplies answers true for every error, flag, count, stamp, sum, paths and bytes: a reply laid and read is that reply (its stamp in the canonical form) and the bytes are the document's, and of any bytes DecodeReply answers what the document asks (of more than 60 bytes of sum, 8 paths, 60 bytes of a path or 200 bytes it asks the document's example alone). Conditions: none but the row's own (the listed table of the program holds what its text lays). -/
import Derived.Test.YtghbabnekalgpaaDoorPost
import Derived.Test.YtghbabnekalgpaaDoorPost2
import Derived.Test.YtghbabnekalgpaaDoorLP
namespace Go.Proofs.YtghbabnekalgpaaDoor.requestReplies
open Go.ChangeShapes Go.WideShapes Go.ChangeAt Go.RowKit BaseMath

set_option maxRecDepth 100000 in
theorem contract (H : Type) (enc : TypeId × Value → H) (W : World) (base : Nat) (args : Array Value) (ds gs : List (DataW H)) (before : List MemPlace)
    (hval : ∀ (j : Nat) t v, Tryd.f7.params[j]? = some t → args[j]? = some v → Value.okWide Tryd.prog W .any base t v)
    (hW : DataW.Whole enc Tryd.prog Tryd.f7.params.toList Rows.requestRepliesSpec.vars false W args.toList ds gs before) (hL : laidMetH Tryd.prog Rows.requestRepliesRow.laid W) :
    Calls Tryd.prog 7 args W fun e W' => ∃ v, e = .returned v ∧ Rows.requestRepliesSpec.post enc Tryd.prog Tryd.f7 false true false false W args v W' := by
  have hW' := hW
  obtain ⟨p, q, hA0, hV, rfl, hfz, hnd⟩ := hW
  have hA : DataW.TrodAll enc Tryd.prog W 0 (fun _ => true) true Tryd.f7.params.toList args.toList ds p := hA0
  rw [Tryd.params7] at hA hval
  obtain ⟨v0, vs0, d0, ds0, p0, q0, hargs, rfl, rfl, h0, r0⟩ := trodAll_cons hA
  obtain ⟨v1, vs1, d1, ds1, p1, q1, rfl, rfl, rfl, h1, r1⟩ := trodAll_cons r0
  obtain ⟨v2, vs2, d2, ds2, p2, q2, rfl, rfl, rfl, h2, r2⟩ := trodAll_cons r1
  obtain ⟨v3, vs3, d3, ds3, p3, q3, rfl, rfl, rfl, h3, r3⟩ := trodAll_cons r2
  obtain ⟨v4, vs4, d4, ds4, p4, q4, rfl, rfl, rfl, h4, r4⟩ := trodAll_cons r3
  obtain ⟨v5, vs5, d5, ds5, p5, q5, rfl, rfl, rfl, h5, r5⟩ := trodAll_cons r4
  obtain ⟨v6, vs6, d6, ds6, p6, q6, rfl, rfl, rfl, h6, r6⟩ := trodAll_cons r5
  obtain ⟨rfl, rfl, rfl⟩ := trodAll_nil r6
  obtain rfl : args = #[v0, v1, v2, v3, v4, v5, v6] := by cases args; simp_all
  obtain ⟨rfl, rfl⟩ := trodVars_none hV
  obtain ⟨x0, rfl, rfl, rfl, wx0⟩ := open_int Tryd.underlying5 (hval 0 5 v0 rfl rfl) h0
  obtain ⟨b0, rfl⟩ := byte_of wx0
  obtain ⟨b1, rfl, rfl, rfl⟩ := Go.RowKit.open_bool Tryd.underlying4 (hval 1 4 v1 rfl rfl) h1
  obtain ⟨x2, rfl, rfl, rfl, wx2⟩ := open_int Tryd.underlying53 (hval 2 53 v2 rfl rfl) h2
  have bx2 := bounds_u16 wx2
  obtain ⟨b2, rfl⟩ : ∃ b : Nat, x2 = b := ⟨x2.toNat, by omega⟩
  obtain ⟨x3, rfl, rfl, rfl, wx3⟩ := open_int Tryd.underlying59 (hval 3 59 v3 rfl rfl) h3
  have bx3 := bounds_u64 wx3
  obtain ⟨b3, rfl⟩ : ∃ b : Nat, x3 = b := ⟨x3.toNat, by omega⟩
  obtain ⟨A4, c4, bs4, rfl, hm4, hc4, hn4, hs4⟩ := open_bytes (hval 4 37 v4 rfl rfl) h4
  obtain ⟨A5, c5, ls5, rfl, hm5, hs5, he5⟩ := open_texts (hval 5 32 v5 rfl rfl) h5
  obtain ⟨A6, c6, bs6, rfl, hm6, hc6, hn6, hs6⟩ := open_bytes (hval 6 37 v6 rfl rfl) h6
  clear hA0
  simp only [List.append_nil] at hW'
  have hlt4 : ∀ x ∈ p4, x.block < W.heap.size := fun x hx => by simpa using hW'.lt x (by simp [hx])
  have hlt5 : ∀ x ∈ p5, x.block < W.heap.size := fun x hx => by simpa using hW'.lt x (by simp [hx])
  have hlt6 : ∀ x ∈ p6, x.block < W.heap.size := fun x hx => by simpa using hW'.lt x (by simp [hx])
  refine (replies_walk b0 b1 b2 (by omega) b3 (by omega) bs4 ls5 bs6 A4 A5 A6 c4 c5 c6 hm4 hm5 hm6 he5 hc6 hn6 W (ktab_of hL) hs4 hs5 hs6).mono fun e W' ⟨he, hb⟩ => ?_
  subst he
  refine ⟨_, rfl, post_law hW' rfl (by kernel_rfl) rfl rfl rfl ?_ hb⟩
  have := (trodAll_cons_mk (shut_int Tryd.underlying5 wx0) (trodAll_cons_mk (Go.RowKit.shut_bool Tryd.underlying4 b1) (trodAll_cons_mk (shut_int Tryd.underlying53 wx2) (trodAll_cons_mk (shut_int Tryd.underlying59 wx3) (trodAll_cons_mk (Below.trod laidOut (by kernel_rfl) (of_decide_eq_true (by kernel_rfl)) h4 hb hlt4) (trodAll_cons_mk (Below.trod laidOut (by kernel_rfl) (of_decide_eq_true (by kernel_rfl)) h5 hb hlt5) (trodAll_cons_mk (Below.trod laidOut (by kernel_rfl) (of_decide_eq_true (by kernel_rfl)) h6 hb hlt6) trodAll_mk0)))))))
  simpa using this

set_option maxRecDepth 100000 in
theorem reads (os : Os) {H : Type} (enc : TypeId × Value → H) : ∃ places, DataW.whole enc Tryd.prog ((World.laidAll Tryd.prog os Rows.requestRepliesRow.laid).forCall (fun _ _ => 0) ⟨#[], #[.int .u8 0, .bool false, .int .u16 0, .int .u64 0, .slice none 0 0, .slice none 0 0, .slice none 0 0], []⟩).memory Tryd.f7.params.toList Rows.requestRepliesSpec.vars false #[Value.int .u8 0, Value.bool false, Value.int .u16 0, Value.int .u64 0, Value.slice none 0 0, Value.slice none 0 0, Value.slice none 0 0].toList 8 = some ([.lit (.int .u8 0), .lit (.bool false), .lit (.int .u16 0), .lit (.int .u64 0), .nil, .nil, .nil], [], places) :=
  ⟨[], by kernel_rfl⟩

set_option maxRecDepth 100000 in
theorem lifted (os : Os) (started : os.Started) (H : Type) (enc : TypeId × Value → H) (F : Stop.Interp) :
    ReturnsInHanded {} Tryd.checked os 7 .any ((OpenSpec.ofChange Rows.requestRepliesSpec).preRow enc Tryd.prog Tryd.f7 Rows.requestRepliesRow.domain false Rows.requestRepliesRow.laid) (((OpenSpec.ofChange Rows.requestRepliesSpec).at F).post enc Tryd.prog Tryd.f7 false true false false) := by
  obtain ⟨places, hx⟩ := reads os enc
  refine returnsInHanded_of_row (C := Tryd.checked) (s := OpenSpec.ofChange Rows.requestRepliesSpec) own started (by kernel_rfl) Tryd.func7
    (witness_row_at (enc := enc) (C := Tryd.checked) false (World.laidAll Tryd.prog os Rows.requestRepliesRow.laid) #[.int .u8 0, .bool false, .int .u16 0, .int .u64 0, .slice none 0 0, .slice none 0 0, .slice none 0 0] (World.laidAll_os _ _ _) (by kernel_rfl) (by kernel_rfl) (by kernel_rfl)
      (OpenSpec.preRow_of_cond 8 hx (by kernel_rfl) (fun k hk => by cases hk) (by kernel_rfl) (laidMet_laidAll _ (by kernel_rfl) (by kernel_rfl)))) ?_
  intro W base args ds gs before hval hW _ _ _ hL _ _
  exact contract H enc W base args ds gs before hval hW hL

set_option maxRecDepth 100000 in
theorem said : Rows.RequestRepliesSaid :=
  OpenClaim.holds_of_cond 7 Tryd.f7 rfl rfl rfl rfl rfl rfl rfl ⟨rfl, rfl, rfl, rfl, rfl⟩ rfl rfl rfl rfl rfl (by kernel_rfl) Tryd.func7 (by kernel_rfl)
    (of_decide_eq_true (by kernel_rfl)) (by unfold Func.isWrapper; first | (rw [if_pos (by decide +kernel)]; kernel_rfl) | (rw [if_neg (by decide +kernel)]; exact ⟨rfl, rfl⟩))
    (fun os started H enc _ F => by rw [OpenClaim.pre_eq_preRow]; exact lifted os started H enc F)

set_option maxRecDepth 100000 in
/-- No parameter wants a stand-in; the program's own looks are off. -/
theorem plain (f : FuncId) (fn : Func) (hf : Tryd.pinned.checked.prog.funcNamed "godown/godownlaw11.RequestReplies" = some f) (hfn : Tryd.pinned.checked.prog.funcs[f]? = some fn) :
    false = Tryd.pinned.checked.prog.looks [] ∧ ∀ (j : Nat) t, fn.params[j]? = some t → Tryd.pinned.checked.prog.wantsStandIn t = false := by
  obtain rfl : f = 7 := Option.some.inj ((show Tryd.prog.funcNamed "godown/godownlaw11.RequestReplies" = some 7 by kernel_rfl).symm.trans hf) |>.symm
  obtain rfl : fn = Tryd.f7 := (Option.some.inj (Tryd.func7.symm.trans hfn)).symm
  refine ⟨by kernel_rfl, fun j t ht => ?_⟩
  rw [Tryd.params7] at ht
  have hm : t = 5 ∨ t = 4 ∨ t = 53 ∨ t = 59 ∨ t = 37 ∨ t = 32 ∨ t = 37 := by simpa using Array.mem_of_getElem? ht
  rcases hm with rfl | rfl | rfl | rfl | rfl | rfl | rfl
  · exact (show Tryd.prog.wantsStandIn 5 = false by kernel_rfl)
  · exact (show Tryd.prog.wantsStandIn 4 = false by kernel_rfl)
  · exact (show Tryd.prog.wantsStandIn 53 = false by kernel_rfl)
  · exact (show Tryd.prog.wantsStandIn 59 = false by kernel_rfl)
  · exact (show Tryd.prog.wantsStandIn 37 = false by kernel_rfl)
  · exact (show Tryd.prog.wantsStandIn 32 = false by kernel_rfl)
  · exact (show Tryd.prog.wantsStandIn 37 = false by kernel_rfl)

end Go.Proofs.YtghbabnekalgpaaDoor.requestReplies
namespace Go.Proofs.YtghbabnekalgpaaDoor
set_option maxRecDepth 100000 in
/-- THE CARD -/
theorem requestReplies_holds : Rows.RequestRepliesCardSaid :=
  Claim7.holds_tied_plain_at .later [] _ _ _ _ requestReplies.said (fun _ h => by cases h) (by kernel_rfl) (fun _ h => by cases h) requestReplies_row_tie rfl ⟨rfl, rfl⟩ (by kernel_rfl) rfl requestReplies.plain (by kernel_rfl)
end Go.Proofs.YtghbabnekalgpaaDoor
