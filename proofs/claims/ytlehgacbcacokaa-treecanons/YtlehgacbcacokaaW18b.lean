/- The reference's kids: links and files. -/
import Derived.Test.YtlehgacbcacokaaK6
import Derived.Laws.Concat
namespace Go.Proofs.Ytlehgacbcacokaa
open Go.RowKit TreeMath RealMath

/-- what a made node comes to -/
def KPost (l : List Md) (B at_ deep : Nat) (w : World) (e : Ending) (w' : World) : Prop := ∃ t, e = .returned (val t) ∧ Ok w' w'.heap.size t ∧ InS (fun c => c < B ∨ w.heap.size ≤ c) t ∧ MadeT l at_ deep t ∧ Below w.heap.size w w'
set_option maxHeartbeats 4000000 in
set_option maxRecDepth 100000 in
theorem kids_link (l : List Md) (A : Option Addr) (c B at_ deep : Nat) (w : World) (hd2 : deep ≤ 8) (hat : at_ < l.length) (hl40 : l.length ≤ 40) (hdata : ∀ x ∈ l, x.data.length ≤ 200) (hm : Mades w B A l) (hk : l[at_].kind.toNat % 4 = 3) :
    Calls Try.prog 55 #[.slice A l.length c, .int .i64 at_, .int .i64 deep] w (KPost l B at_ deep w) := by
  have hBw := hm.le
  obtain ⟨b, o, rfl, hbB, hc⟩ := hm.at_ (by omega)
  obtain ⟨c0, c1, c2, c3, c4, c5⟩ := (hc at_ hat).six
  have hok := hm.each _ (List.getElem_mem hat)
  have hdl := hdata _ (List.getElem_mem hat)
  have hbw : b < w.heap.size := by omega
  have HMD := Lib.hid (made_link l at_ deep l[at_].data hdl hat hd2 (by rw [kidsT_leaf hat (.inl (by omega))]; unfold leafE; rw [if_pos hk]))
  have HOK := Lib.hid hok
  clear hc hok hm hdata
  generalize l[at_] = x at *
  have hk' : ((x.kind.toNat : Int) % 4) = 3 := by omega
  have hcv : ∀ W, Below w.heap.size w W → (convert 24 9 (.slice x.da x.data.length x.dc)).run Try.prog W = .ok (.string ⟨x.data.toArray⟩) W := fun W hW => run_text_src (HOK.out.dsrc.below hW)
  have hcv1 := hcv ((w.alloc (.cells #[.int .u8 0, .slice none 0 0, .slice none 0 0, .slice none 0 0, .bool false, .float .f64 0, .string ⟨#[]⟩] 27)).alloc (.cells #[.int .u8 (x.up.toNat : Int), .int .u8 (x.kind.toNat : Int), .int .u8 (x.name.toNat : Int), .slice x.da x.data.length x.dc, .bool x.run, .float .f64 x.stamp] 71)) (((Below.refl _ _).alloc (Nat.le_refl _) _).alloc (by simp) _)
  have hadd : ∀ W, (Op.stringOp .add ⟨[116].toArray⟩ ⟨x.data.toArray⟩).run Try.prog W = .ok (.string ⟨([116] ++ x.data).toArray⟩) W := fun W => run_string_add_lists W [116] x.data (by simp) (by omega)
  clear hcv
  go_enter Try.func55, Try.ntmps55
  go_wp2_with fail
  refine bodyPost_ret (v := val (.mk (linkHd (116 :: x.data)) [])) (by simp [results, Try.results55, go_sem]; rfl) rfl ⟨_, rfl, ok_link _ (by unfold maxLen; simp; omega), inS_link _ _, HMD.out, ((Below.refl _ _).alloc (Nat.le_refl _) _).alloc (by simp) _⟩
set_option maxHeartbeats 4000000 in
set_option maxRecDepth 100000 in
theorem kids_file (l : List Md) (A : Option Addr) (c B at_ deep : Nat) (w : World) (hd2 : deep ≤ 8) (hat : at_ < l.length) (hl40 : l.length ≤ 40) (hdata : ∀ x ∈ l, x.data.length ≤ 200) (hm : Mades w B A l) (hk : l[at_].kind.toNat % 4 ≠ 3) (hk0 : 0 < l[at_].kind.toNat % 4 ∨ deep = 8) :
    Calls Try.prog 55 #[.slice A l.length c, .int .i64 at_, .int .i64 deep] w (KPost l B at_ deep w) := by
  have hBw := hm.le
  obtain ⟨b, o, rfl, hbB, hc⟩ := hm.at_ (by omega)
  obtain ⟨c0, c1, c2, c3, c4, c5⟩ := (hc at_ hat).six
  have hok := hm.each _ (List.getElem_mem hat)
  have hlow := hm.low _ (List.getElem_mem hat)
  have hdl := hdata _ (List.getElem_mem hat)
  have hbw : b < w.heap.size := by omega
  have HMD := Lib.hid (made_file l at_ deep l[at_].da l[at_].dc l[at_].data l[at_].run l[at_].stamp hdl hat hd2 (by rw [kidsT_leaf hat (hk0.imp id (fun e => by omega))]; unfold leafE; rw [if_neg hk]))
  have HOK := Lib.hid hok; have HLOW := Lib.hid hlow
  clear hc hok hm hdata hlow
  generalize l[at_] = x at *
  have hk' : ((((x.kind.toNat : Int) % 4)) == 3) = false := by rw [beq_eq_false_iff_ne]; omega
  have HB : Hid (∀ o1 o2, Below w.heap.size w ((w.alloc o1).alloc o2)) := fun o1 o2 => ((Below.refl _ _).alloc (Nat.le_refl _) _).alloc (by simp) _
  have HF : Hid (∀ W, Below w.heap.size w W → Ok W W.heap.size (.mk (fileHd x.da x.dc x.data x.run x.stamp) []) ∧ InS (fun c => c < B ∨ w.heap.size ≤ c) (.mk (fileHd x.da x.dc x.data x.run x.stamp) [])) := fun W hW =>
    ⟨ok_file _ _ _ _ _ (HOK.out.dsrc.below hW) (fun h a ha => Nat.lt_of_lt_of_le (HOK.out.dsrc.lt h a ha) hW.size) HOK.out.dnil HOK.out.dcap HOK.out.dlen HOK.out.stamp, inS_file _ _ _ _ _ _ (fun h a ha => .inl (HLOW.out h a ha))⟩
  have HIN := Lib.hid (HF.out w (Below.refl _ _)).2
  by_cases h0 : 0 < x.kind.toNat % 4
  · have h0' : decide ((0 : Int) < (x.kind.toNat : Int) % 4) = true := decide_eq_true (by omega)
    go_enter Try.func55, Try.ntmps55
    go_wp2_with fail
    refine bodyPost_ret (v := val (.mk (fileHd x.da x.dc x.data x.run x.stamp) [])) (by simp [results, Try.results55, go_sem]; rfl) rfl ⟨_, rfl, (HF.out _ (HB.out _ _)).1, HIN.out, HMD.out, HB.out _ _⟩
  · have h0' : decide ((0 : Int) < (x.kind.toNat : Int) % 4) = false := decide_eq_false (by omega)
    obtain rfl : deep = 8 := by omega
    go_enter Try.func55, Try.ntmps55
    go_wp2_with fail
    refine bodyPost_ret (v := val (.mk (fileHd x.da x.dc x.data x.run x.stamp) [])) (by simp [results, Try.results55, go_sem]; rfl) rfl ⟨_, rfl, (HF.out _ (HB.out _ _)).1, HIN.out, HMD.out, HB.out _ _⟩
end Go.Proofs.Ytlehgacbcacokaa
