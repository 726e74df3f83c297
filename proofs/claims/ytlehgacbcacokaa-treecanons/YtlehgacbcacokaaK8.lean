/- TreeMade: a tree that is put into directories. -/
import Derived.Test.YtlehgacbcacokaaK7
namespace Go.Proofs.Ytlehgacbcacokaa
open Go.RowKit TreeMath RealMath

structure NestRel (w : World) (g9 g10 : Nat) (y : Hd) (ly : List T) (i : Nat) (z : Hd) (lz : List T) (W : World) : Prop where
  b9 : Blk W g9 27 (cellsT (.mk y ly))
  oky : Ok W g9 (.mk y ly)
  b10 : Blk W g10 27 (cellsT (.mk z lz))
  okz : Ok W W.heap.size (.mk z lz)
  ins : InS (fun c => c < g9 ∨ g10 < c) (.mk z lz)
  cn : count (.mk z lz) ≤ 40 + i
  few : Few (.mk z lz)
  ne : g9 < g10
  wg : w.heap.size ≤ g9
  below : Below w.heap.size w W
theorem nest_start {w W : World} {g9 g10 : Nat} {y : Hd} {ly : List T} (h : Sw w g9 g10 y ly W) : NestRel w g9 g10 y ly 0 y ly W :=
  ⟨h.b9, h.ok, h.b10, h.ok.up (Nat.le_of_lt h.b9.lt), h.ok.inS.mono (fun _ hc => .inl hc), h.made.count, made_few h.made, h.ne, h.wg, h.below⟩
theorem NestRel.ready {w W : World} {g9 g10 i : Nat} {y z : Hd} {ly lz : List T} (h : NestRel w g9 g10 y ly i z lz W) (hi : i ≤ 1000) : Ready w g9 g10 y z ly lz W :=
  ⟨h.b9, h.b10, h.oky.up (Nat.le_of_lt h.b9.lt), h.okz, by have := h.cn; omega, h.few, h.below⟩
theorem nest_step {w W0 : World} {g9 g10 i : Nat} {y z : Hd} {ly lz : List T} (h : NestRel w g9 g10 y ly i z lz W0) :
    NestRel w g9 g10 y ly (i + 1) (dirHd (some ⟨W0.heap.size, 0, none⟩) 1 [[100]] (some ⟨W0.heap.size + 1, 0, none⟩) 1) [.mk z lz] (((set7 W0 g10 (.int .u8 1) (.slice (some ⟨W0.heap.size, 0, none⟩) 1 1) (.slice (some ⟨W0.heap.size + 1, 0, none⟩) 1 1) (.slice none 0 0) (.bool false) (.float .f64 0) (.string ⟨#[]⟩)).alloc (.cells #[.string ⟨#[100]⟩] 9)).alloc (.cells #[vb z.kind, .slice z.na z.names.length z.nc, .slice z.ka lz.length z.kc, .slice z.da z.data.length z.dc, .bool z.run, .float .f64 z.stamp, vs z.target] 27)) := by
  have hgl := h.b10.lt
  have hne := h.ne; have hwg := h.wg
  have key := set7_other W0 g10 (.int .u8 1) (.slice (some ⟨W0.heap.size, 0, none⟩) 1 1) (.slice (some ⟨W0.heap.size + 1, 0, none⟩) 1 1) (.slice none 0 0) (.bool false) (.float .f64 0) (.string ⟨#[]⟩)
  have hsz := set7_size W0 g10 (.int .u8 1) (.slice (some ⟨W0.heap.size, 0, none⟩) 1 1) (.slice (some ⟨W0.heap.size + 1, 0, none⟩) 1 1) (.slice none 0 0) (.bool false) (.float .f64 0) (.string ⟨#[]⟩)
  have bg' := set7_blk h.b10 (by rfl) (.int .u8 1) (.slice (some ⟨W0.heap.size, 0, none⟩) 1 1) (.slice (some ⟨W0.heap.size + 1, 0, none⟩) 1 1) (.slice none 0 0) (.bool false) (.float .f64 0) (.string ⟨#[]⟩)
  have be' := set7_below h.below g10 (by omega) (.int .u8 1) (.slice (some ⟨W0.heap.size, 0, none⟩) 1 1) (.slice (some ⟨W0.heap.size + 1, 0, none⟩) 1 1) (.slice none 0 0) (.bool false) (.float .f64 0) (.string ⟨#[]⟩)
  generalize (set7 W0 g10 (.int .u8 1) (.slice (some ⟨W0.heap.size, 0, none⟩) 1 1) (.slice (some ⟨W0.heap.size + 1, 0, none⟩) 1 1) (.slice none 0 0) (.bool false) (.float .f64 0) (.string ⟨#[]⟩)) = W1 at *
  have hok1 : Ok W1 W0.heap.size (.mk z lz) := h.okz.turn h.ins (fun c h1 h2 => key c (by rcases h1 with e | e <;> omega)) (fun c h1 h2 => h2)
  have hok0 : Ok W1 g9 (.mk y ly) := h.oky.turn h.oky.inS (fun c h1 h2 => key c (by omega)) (fun c h1 h2 => h2)
  have b9' : Blk W1 g9 27 (cellsT (.mk y ly)) := by unfold Blk; rw [key g9 (by omega)]; exact h.b9
  have hB : Below W1.heap.size W1 ((W1.alloc (.cells #[.string ⟨#[100]⟩] 9)).alloc (.cells #[vb z.kind, .slice z.na z.names.length z.nc, .slice z.ka lz.length z.kc, .slice z.da z.data.length z.dc, .bool z.run, .float .f64 z.stamp, vs z.target] 27)) := ((Below.refl _ _).alloc (Nat.le_refl _) _).alloc (by simp) _
  have b0 := (Blk.new W1 9 #[vs [100]]).alloc (.cells #[vb z.kind, .slice z.na z.names.length z.nc, .slice z.ka lz.length z.kc, .slice z.da z.data.length z.dc, .bool z.run, .float .f64 z.stamp, vs z.target] 27)
  have b1 := Blk.new (W1.alloc (.cells #[.string ⟨#[100]⟩] 9)) 27 #[vb z.kind, .slice z.na z.names.length z.nc, .slice z.ka lz.length z.kc, .slice z.da z.data.length z.dc, .bool z.run, .float .f64 z.stamp, vs z.target]
  simp only [World.size_alloc] at b1
  rw [hsz] at b0 b1
  have hbe := be'.trans (hB.mono (by have := h.below.size; omega))
  have bg2 := bg'.below hB (by omega)
  have b92 := b9'.below hB (by omega)
  have hok2 : Ok ((W1.alloc (.cells #[.string ⟨#[100]⟩] 9)).alloc (.cells #[vb z.kind, .slice z.na z.names.length z.nc, .slice z.ka lz.length z.kc, .slice z.da z.data.length z.dc, .bool z.run, .float .f64 z.stamp, vs z.target] 27)) W0.heap.size (.mk z lz) := hok1.keep (hB.mono (by omega))
  have hok02 : Ok ((W1.alloc (.cells #[.string ⟨#[100]⟩] 9)).alloc (.cells #[vb z.kind, .slice z.na z.names.length z.nc, .slice z.ka lz.length z.kc, .slice z.da z.data.length z.dc, .bool z.run, .float .f64 z.stamp, vs z.target] 27)) g9 (.mk y ly) := hok0.keep (hB.mono (by omega))
  have hs : ((W1.alloc (.cells #[.string ⟨#[100]⟩] 9)).alloc (.cells #[vb z.kind, .slice z.na z.names.length z.nc, .slice z.ka lz.length z.kc, .slice z.da z.data.length z.dc, .bool z.run, .float .f64 z.stamp, vs z.target] 27)).heap.size = W0.heap.size + 2 := by simp; omega
  replace b0 : Blk ((W1.alloc (.cells #[.string ⟨#[100]⟩] 9)).alloc (.cells #[vb z.kind, .slice z.na z.names.length z.nc, .slice z.ka lz.length z.kc, .slice z.da z.data.length z.dc, .bool z.run, .float .f64 z.stamp, vs z.target] 27)) W0.heap.size 9 [vs [100]] := b0
  replace b1 : Blk ((W1.alloc (.cells #[.string ⟨#[100]⟩] 9)).alloc (.cells #[vb z.kind, .slice z.na z.names.length z.nc, .slice z.ka lz.length z.kc, .slice z.da z.data.length z.dc, .bool z.run, .float .f64 z.stamp, vs z.target] 27)) (W0.heap.size + 1) 27 (cellsT (.mk z lz)) := b1
  generalize (W1.alloc (.cells #[.string ⟨#[100]⟩] 9)).alloc (.cells #[vb z.kind, .slice z.na z.names.length z.nc, .slice z.ka lz.length z.kc, .slice z.da z.data.length z.dc, .bool z.run, .float .f64 z.stamp, vs z.target] 27) = W2 at *
  refine ⟨b92, hok02, bg2, ?_, ?_, ?_, ?_, hne, hwg, hbe⟩
  · refine ok_dir _ _ _ _ _ _ (Blk.strs (tl := []) (by simpa using b0)) (fun _ a ha => by cases ha; exact b0.lt) (fun h => by cases h) (by simp) (by unfold maxLen; simp) (fun t ht => by simp at ht; subst ht; unfold maxLen; simp) (fun h => by cases h) (by unfold maxLen; simp) (by simp) (Blk.kid _ b1 b1.lt) ?_
    intro k hk
    obtain rfl : k = .mk z lz := by simpa using hk
    exact hok2.up (by omega)
  · refine inS_dir _ _ _ _ _ _ _ (fun _ a ha => by cases ha; exact .inr hgl) (fun _ a ha => by cases ha; right; show g10 < W0.heap.size + 1; omega) ?_
    intro k hk
    obtain rfl : k = .mk z lz := by simpa using hk
    exact h.ins
  · rw [count_mk, allL, allL, List.append_nil]; have := h.cn; unfold TreeMath.count at this; omega
  · intro k hk
    rw [all] at hk
    rcases List.mem_cons.1 hk with e | e
    · rw [e]; simp [T.hd, dirHd]
    · rw [allL, allL, List.append_nil] at e; exact h.few k e
end Go.Proofs.Ytlehgacbcacokaa
