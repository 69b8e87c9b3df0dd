/- print.Test: a test's text. -/
import Derived.Test.YtlfeihgemdicfaaDoorTokT
import Derived.Test.YtlfeihgemdicfaaDoorBldW
import Derived.Test.YtlfeihgemdicfaaDoorOkW
namespace Go.Proofs.YtlfeihgemdicfaaDoor
open Go.RowKit

theorem On.below {w x y : World} {B : Nat} (h : On w x) (k : Below B x y) (hB : w.heap.size ≤ B) : On w y := Below.trans h (Below.mono k hB)
theorem Sr.oth {w w' : World} {base B : Nat} {v : Value} {L : List ByteArray} (h : Sr w base v L) (k : Oth B w w') (hB : B < base) : Sr w' base v L := by
  refine ⟨h.1, ?_⟩
  rcases h.2 with h2 | ⟨g, cap, cur, hv, hb, hh, r⟩
  · exact Or.inl h2
  · refine Or.inr ⟨g, cap, cur, hv, hb, k g _ hh (fun e => by have := Option.some.inj e; omega) (fun c fz e => ?_), r⟩
    simp only [Obj.cells.injEq] at e
    exact absurd e.2.1 (by decide)
theorem text_pre (L : List ByteArray) (i : Nat) (x : ByteArray) (hx : L[i]? = some x) : (L.take (i + 1)).flatMap chunk = (L.take i).flatMap chunk ++ chunk x := take_next chunk hx
theorem pre_le (L : List ByteArray) (i : Nat) : ((L.take i).flatMap chunk).length ≤ (L.flatMap chunk).length := by
  have : L.flatMap chunk = (L.take i).flatMap chunk ++ (L.drop i).flatMap chunk := by rw [← List.flatMap_append, List.take_append_drop]
  rw [this, List.length_append]
  omega
set_option maxHeartbeats 4000000 in
set_option maxRecDepth 8000 in
theorem ptest_is (t : TestT) (v : Value) (w : World) (lw : Lw w) (h : TestRd w v t) (hok : testOk t = true) (hB : TestB t) (hlen : (textL t).length ≤ 140737488355328) :
    Calls Tryd.prog 7 #[v] w fun e w' => e = .returned (.string ⟨(textL t).toArray⟩) ∧ On w w' := by
  have hOk := fun W (k : On w W) => ok_is t v W (lw.on k) (h.on k)
  obtain ⟨a1, c1, a2, c2, a3, c3, rfl, hn, r1, r2, r3⟩ := h.ex
  have hT := fun W (k : On w W) => testTokens_is t a1 a2 a3 c1 c2 c3 W (lw.on k) (r1.on k) (r2.on k) (r3.on k) hok hB
  rw [hok] at hOk
  have HL : Hid (∀ i, ((testTk t).take i).flatMap chunk = ((testTk t).take i).flatMap chunk) := fun _ => rfl
  have HPL : Hid (∀ i, (((testTk t).take i).flatMap chunk).length ≤ 140737488355328) := fun i => Nat.le_trans (pre_le _ i) hlen
  have hll : (testTk t).length ≤ 9223372036854775807 := by
    have h1 : ∀ L : List ByteArray, L.length ≤ (L.flatMap chunk).length := fun L => by
      induction L with
      | nil => simp
      | cons x L ih =>
        rw [List.flatMap_cons, List.length_append, List.length_cons]
        have : 1 ≤ (chunk x).length := by unfold chunk; simp
        omega
    have h2 := h1 (testTk t)
    unfold textL at hlen
    omega
  obtain ⟨RES, hRES⟩ : ∃ RES, RES = textL t := ⟨_, rfl⟩
  rw [← hRES]
  have HRES : Hid (RES = (testTk t).flatMap chunk) := hRES
  clear hRES h r1 r2 r3 hok hB lw hlen hn HL
  generalize testTk t = L at *
  generalize t.cond.any.length = m3 at *
  generalize t.cond.k = kk at *
  generalize t.thr.length = m2 at *
  generalize t.ini.length = m1 at *
  generalize t.name = nm at *
  have B0 := Bk.new w #[.string nm, .slice a1 m1 c1, .slice a2 m2 c2, .int .i64 kk, .slice a3 m3 c3] 29
  have k0 := (On.refl w).alloc (.cells #[.string nm, .slice a1 m1 c1, .slice a2 m2 c2, .int .i64 kk, .slice a3 m3 c3] 29)
  go_enter Tryd.func7, Tryd.ntmps7
  go_wp2_with fail
  refine (hOk _ k0).mono ?_
  rintro _ w1 ⟨rfl, k1⟩
  have K1 := k0.trans k1
  have B1 := B0.on k1
  have hs1 := B1.lt
  obtain ⟨W2, hW2⟩ : ∃ W2, W2 = w1.alloc (.cells #[.pointer none, .slice none 0 0] 59) := ⟨_, rfl⟩
  have hb2 : W2.heap[w1.heap.size]? = some (.cells #[.pointer none, .slice none 0 0] 59 (0, 0)) := by rw [hW2]; exact heap_alloc_new w1 _
  have B2 : Bk W2 w.heap.size #[.string nm, .slice a1 m1 c1, .slice a2 m2 c2, .int .i64 kk, .slice a3 m3 c3] := by rw [hW2]; exact B1.alloc _
  have K2 : On w W2 := by rw [hW2]; exact K1.alloc _
  have hz2 : W2.heap.size = w1.heap.size + 1 := by rw [hW2, World.size_alloc]
  have HW2 : Hid (W2 = w1.alloc (.cells #[.pointer none, .slice none 0 0] 59)) := hW2
  have x0 := B1.at (i := 0) rfl
  have x1 := B1.at (i := 1) rfl
  have x2 := B1.at (i := 2) rfl
  have x3 := B1.at (i := 3) rfl
  have x4 := B1.at (i := 4) rfl
  clear hW2 B0 k0 k1 hOk
  go_wp2_with fail
  rw [← HW2.out]
  clear HW2 x0 x1 x2 x3 x4 B1 B2
  refine (hT _ K2).mono ?_
  rintro _ w3 ⟨v3, rfl, r3, k3⟩
  obtain ⟨la, lc, rfl⟩ := own_slice r3
  have hb3 : w3.heap[w1.heap.size]? = some (.cells #[.pointer none, .slice none 0 0] 59 (0, 0)) := (k3.block _ (by omega)).trans hb2
  have HB3 : Hid (Bld w1.heap.size ([] : List UInt8) w3) := bld_new hb3
  have HR3 : Hid (Sr w3 W2.heap.size (.slice la L.length lc) L) := r3
  have HO3 : Hid (On w w3) := K2.trans k3
  have hz3 : w1.heap.size ≤ w3.heap.size := by have := k3.size; omega
  have hsw := K1.size
  clear hb2 hb3 r3 k3 hT K2 K1
  go_wp2
  go_loopg [12] L.length (fun gg s12 wr => ∃ i : Nat, i ≤ L.length ∧ gg = L.length - i ∧ s12 = .int .i64 i ∧ Hid (On w wr) ∧ Hid (Bld w1.heap.size ((L.take i).flatMap chunk) wr) ∧ Hid (Sr wr W2.heap.size (.slice la L.length lc) L) ∧ w1.heap.size ≤ wr.heap.size)
  case atStart => exact ⟨0, Nat.zero_le _, rfl, rfl, HO3, HB3, HR3, hz3⟩
  case round =>
    clear HO3 HB3 HR3 hz3
    obtain ⟨i, hi, hk, rfl, HO, HBL, HR, hz⟩ := hrel
    rcases Nat.lt_or_ge i L.length with hlt | hge
    · obtain ⟨x, hx⟩ : ∃ x, L[i]? = some x := ⟨_, List.getElem?_eq_getElem hlt⟩
      obtain ⟨g, cap, hv, _, _, hg, hc⟩ := own_cells HR.out (by omega)
      simp only [Value.slice.injEq] at hv
      obtain ⟨rfl, _, rfl⟩ := hv
      have hcx := hc i (.string x) (by rw [List.getElem?_map, hx]; rfl)
      have hpl := HPL.out (i + 1)
      rw [text_pre L i x hx, List.length_append] at hpl
      have hch : (chunk x).length = x.data.toList.length + 1 := by unfold chunk; rw [List.length_append]; rfl
      rw [hch] at hpl
      have hws := ws_is w1.heap.size _ x wr HBL.out (by omega) hz
      have HTP : Hid ((L.take (i + 1)).flatMap chunk = ((L.take i).flatMap chunk ++ x.data.toList) ++ [gapB x]) := by
        show _ = _
        rw [text_pre L i x hx]
        unfold chunk
        rw [List.append_assoc]
      have hgp := fun W => gap_is x W
      clear hc hx HBL
      go_wp2_with fail
      refine hws.mono ?_
      rintro _ w4 ⟨v4, rfl, hb4, kb4, ko4⟩
      have HO4 : On w w4 := HO.out.below kb4 hsw
      have HR4 : Sr w4 W2.heap.size _ L := HR.out.oth ko4 (by omega)
      have hz4 : w1.heap.size ≤ w4.heap.size := Nat.le_trans hz kb4.size
      have hwb := wb_is w1.heap.size _ (gapB x) w4 hb4 (by rw [List.length_append]; omega) hz4
      clear hws hcx kb4 ko4 HR HO hb4
      go_wp2_with fail
      refine (hgp _).mono ?_
      rintro _ w5 ⟨rfl, hw5⟩
      subst w5
      go_wp2_with fail
      refine hwb.mono ?_
      rintro _ w6 ⟨v6, rfl, hb6, kb6, ko6⟩
      have HO6 : Hid (On w w6) := HO4.below kb6 hsw
      have HR6 : Hid (Sr w6 W2.heap.size _ L) := HR4.oth ko6 (by omega)
      have hz6 : w1.heap.size ≤ w6.heap.size := Nat.le_trans hz4 kb6.size
      have HB6 : Hid (Bld w1.heap.size ((L.take (i + 1)).flatMap chunk) w6) := by rw [HTP.out]; exact hb6
      clear hwb hb6 kb6 ko6 HR4 HO4 HTP
      go_wp2
      go_roundg (L.length - (i + 1))
      case measure => omega
      case rel => exact ⟨i + 1, hlt, rfl, by congr 1, HO6, HB6, HR6, hz6⟩
    · obtain rfl : L.length = i := by omega
      have hb := HBL.out
      rw [List.take_of_length_le (Nat.le_refl _), ← HRES.out] at hb
      have hst := bstr_is w1.heap.size RES wr hb hz
      clear hb HBL HR
      go_wp2_with fail
      refine hst.mono ?_
      rintro _ w4 ⟨rfl, kb4⟩
      have HO4 : On w w4 := HO.out.below kb4 hsw
      go_wp2
      go_ret
      exact ⟨rfl, HO4⟩
end Go.Proofs.YtlfeihgemdicfaaDoor
