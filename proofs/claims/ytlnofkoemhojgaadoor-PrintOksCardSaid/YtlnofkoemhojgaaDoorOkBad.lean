/- print.Ok and print.Test of a test whose first thread may not be, whatever lies behind it. -/
import Derived.Test.YtlnofkoemhojgaaDoorOkW
namespace Go.Proofs.YtlnofkoemhojgaaDoor
open Go.RowKit

/-- v is a test whose name and initial values may be and whose first thread may not. -/
structure BadRd (w : World) (v : Value) (nm : ByteArray) (I : List InitT) (x : List InsT) : Prop where
  ex : ∃ a1 c1 g off m c2 k s3 ax cx, v = .agg #[.string nm, .slice a1 I.length c1, .slice (some ⟨g, off, none⟩) m c2, .int .i64 k, s3] ∧ nm.size ≤ 9223372036854775807 ∧ Rd iniC 2 w (.slice a1 I.length c1) I ∧ 0 < m ∧ m ≤ 9223372036854775807 ∧ g < w.heap.size ∧ w.cell? ⟨g, off, none⟩ = some (.slice ax x.length cx) ∧ Rd insC 9 w (.slice ax x.length cx) x ∧ (∃ a3 m3 c3, s3 = .slice a3 m3 c3)
  nmOk : wordOk nm = true
  iniOk : I.all initOk = true
  bad : threadOk x = false
theorem BadRd.on {w w' : World} {v : Value} {nm : ByteArray} {I : List InitT} {x : List InsT} (h : BadRd w v nm I x) (o : On w w') : BadRd w' v nm I x := by
  obtain ⟨a1, c1, g, off, m, c2, k, s3, ax, cx, hv, hn, h1, h0, hm, hg, hc, h2, h3⟩ := h.ex
  exact ⟨⟨a1, c1, g, off, m, c2, k, s3, ax, cx, hv, hn, h1.on o, h0, hm, Nat.lt_of_lt_of_le hg o.size, (o.cell (p := ⟨g, off, none⟩) hg).trans hc, h2.on o, h3⟩, h.nmOk, h.iniOk, h.bad⟩
set_option maxHeartbeats 1000000 in
theorem idxBad_is (x : List InsT) (ax : Option Addr) (cx g off m c B : Nat) (w : World) (lw : Lw w) (h0 : 0 < m) (_hm : m ≤ 9223372036854775807) (hg : g < w.heap.size) (u0 : w.cell? ⟨g, off, none⟩ = some (.slice ax x.length cx)) (hr : Rd insC 9 w (.slice ax x.length cx) x) (hb : threadOk x = false) (hB : B < w.heap.size) (hc : w.cell? ⟨B, 0, none⟩ = some (.func (.func 21) #[] #[])) :
    Calls Tryd.prog 65 #[.slice (some ⟨g, off, none⟩) m c, .func (.func 40) #[] #[.pointer (some ⟨B, 0, none⟩)]] w fun e w' => e = .returned (.int .i64 0) ∧ On w w' := by
  have hcl := cloThr_is x ax cx B w lw hr hB hc
  rw [hb] at hcl
  clear hr hc
  go_enter Tryd.func65, Tryd.ntmps65
  go_wp2
  go_loopg [5, 8] 1 (fun gg _ s8 wr => gg = 1 ∧ s8 = .int .i64 0 ∧ wr = w)
  case atStart => exact ⟨rfl, rfl, rfl⟩
  case round =>
    obtain ⟨_, rfl, rfl⟩ := hrel
    go_wp2_with (go_at_call 40; refine hcl.mono ?_; rintro e w1 ⟨rfl, k1⟩)
    go_ret
    exact ⟨rfl, k1⟩
theorem allBad_is (x : List InsT) (ax : Option Addr) (cx g off m c : Nat) (w : World) (lw : Lw w) (h0 : 0 < m) (hm : m ≤ 9223372036854775807) (hg : g < w.heap.size) (u0 : w.cell? ⟨g, off, none⟩ = some (.slice ax x.length cx)) (hr : Rd insC 9 w (.slice ax x.length cx) x) (hb : threadOk x = false) :
    Calls Tryd.prog 20 #[.slice (some ⟨g, off, none⟩) m c, .func (.func 21) #[] #[]] w fun e w' => e = .returned (.bool false) ∧ On w w' := by
  have hc : ∀ (W : World) (B : Nat), On w W → B < W.heap.size → W.cell? ⟨B, 0, none⟩ = some (.func (.func 21) #[] #[]) → Calls Tryd.prog 39 #[.slice (some ⟨g, off, none⟩) m c, .func (.func 40) #[] #[.pointer (some ⟨B, 0, none⟩)]] W fun e w' => e = .returned (.bool true) ∧ On W w' := by
    intro W B k hB hcell
    have hI := idxBad_is x ax cx g off m c B W (lw.on k) h0 hm (Nat.lt_of_lt_of_le hg k.size) ((k.cell (p := ⟨g, off, none⟩) hg).trans u0) (hr.on k) hb hB hcell
    go_enter Tryd.func39, Tryd.ntmps39
    go_wp2_with (go_at_call 65; refine hI.mono ?_; rintro e w1 ⟨rfl, k1⟩)
    go_ret
    exact ⟨rfl, k1⟩
  have hI := fun T => hc (w.alloc (.cells #[.func (.func 21) #[] #[]] T)) w.heap.size ((On.refl w).alloc _) (by simp) (by simp)
  clear hc hr u0
  go_enter Tryd.func20, Tryd.ntmps20
  go_wp2_with (go_at_call 39; refine (hI _).mono ?_; rintro e w1 ⟨rfl, k1⟩)
  go_ret
  exact ⟨rfl, ((On.refl w).alloc _).trans k1⟩
set_option maxHeartbeats 2000000 in
set_option maxRecDepth 8000 in
theorem okBad_is {nm : ByteArray} {I : List InitT} {x : List InsT} (v : Value) (w : World) (lw : Lw w) (h : BadRd w v nm I x) :
    Calls Tryd.prog 9 #[v] w fun e w' => e = .returned (.bool false) ∧ On w w' := by
  obtain ⟨a1, c1, g, off, m, c2, kk, s3, ax, cx, rfl, hn, r1, h0, hm, hg, hc, h2, a3, m3, c3, rfl⟩ := h.ex
  have hW := fun W => isWord_is nm W hn
  have hI := fun W (k : On w W) => allIni_is I a1 c1 W (r1.on k)
  have hT := fun W (k : On w W) => allBad_is x ax cx g off m c2 W (lw.on k) h0 hm (Nat.lt_of_lt_of_le hg k.size) ((k.cell (p := ⟨g, off, none⟩) hg).trans hc) (h2.on k) h.bad
  rw [h.nmOk] at hW
  rw [h.iniOk] at hI
  have k0 : ∀ T, On w (w.alloc T) := fun T => (On.refl w).alloc T
  have bk : ∀ cs T, Bk (w.alloc (.cells cs T)) w.heap.size cs := fun cs T => Bk.new w cs T
  clear h r1 h2 hc lw hn
  generalize I.length = mi at *
  go_enter Tryd.func9, Tryd.ntmps9
  go_wp2_with fail
  refine (hW _).mono ?_
  rintro e w1 ⟨rfl, k1⟩
  have B1 := (bk _ _).on k1
  have K1 : Hid (On w w1) := (k0 _).trans k1
  have x1 := B1.at (i := 1) rfl
  have s1 := B1.lt
  clear hW k1 bk k0
  go_wp2_with fail
  refine (hI _ K1.out).mono ?_
  rintro e w2 ⟨rfl, k2⟩
  have B2 := B1.on k2
  have K2 : Hid (On w w2) := K1.out.trans k2
  have x2 := B2.at (i := 2) rfl
  have s2 := B2.lt
  clear hI k2 K1 B1 x1 s1
  go_wp2_with (go_at_call 20; refine (hT _ K2.out).mono ?_; rintro e w3 ⟨rfl, k3⟩)
  go_ret
  exact ⟨rfl, K2.out.trans k3⟩
set_option maxHeartbeats 1000000 in
theorem testBad_is {nm : ByteArray} {I : List InitT} {x : List InsT} (v : Value) (w : World) (lw : Lw w) (h : BadRd w v nm I x) :
    Calls Tryd.prog 11 #[v] w fun e w' => e = .returned (.string ⟨#[]⟩) ∧ On w w' := by
  have hO := fun T => okBad_is v (w.alloc T) (lw.on ((On.refl w).alloc T)) (h.on ((On.refl w).alloc T))
  obtain ⟨a1, c1, g, off, m, c2, kk, s3, ax, cx, rfl, hn, r1, h0, hm, hg, hc, h2, a3, m3, c3, rfl⟩ := h.ex
  clear h r1 h2 hc lw hn
  generalize I.length = mi at *
  go_enter Tryd.func11, Tryd.ntmps11
  go_wp2_with (go_at_call 9; refine (hO _).mono ?_; rintro e w1 ⟨rfl, k1⟩)
  go_ret
  exact ⟨rfl, ((On.refl w).alloc _).trans k1⟩
end Go.Proofs.YtlnofkoemhojgaaDoor
