/- The walk of the law ProgSets. -/
import Derived.Test.YtjjmkacfkjkhgaaDoorSetsP
import Derived.Test.YtjjmkacfkjkhgaaDoorAwake6
import Derived.Test.YtjjmkacfkjkhgaaDoorEqs
import Derived.Test.YtjjmkacfkjkhgaaDoorProgSkips
namespace Go.Proofs.YtjjmkacfkjkhgaaDoor
open Go.RowKit

def set0 (a : Int) : InsT := ⟨5, 0, 0, ⟨-1, a⟩, 0, ⟨-1, 0⟩, 0⟩
def set1 (b : Int) : InsT := ⟨5, 1, 0, ⟨-1, b⟩, 0, ⟨-1, 0⟩, 0⟩
theorem own_two (w : World) (x y : InsT) (e : TypeId) (base : Nat) (hb : base ≤ w.heap.size) : (w.alloc (.cells (insC x ++ insC y).toArray e)).ownsRow base e 9 (.slice (some ⟨w.heap.size, 0, none⟩) 2 2) 2 ([x, y].flatMap insC) := by
  refine ⟨rfl, Or.inr ⟨w.heap.size, 2, _, rfl, hb, heap_alloc_new w _, Nat.le_refl _, by decide, rfl, ?_⟩⟩
  rfl
set_option maxHeartbeats 16000000 in
set_option maxRecDepth 8000 in
theorem progSets_walk (ao : Option Addr) (zs : List Int) (cap : Nat) (a b : Int) (w : World) (_ : zs.length ≤ 9223372036854775807) (hr : Rd intC 1 w (.slice ao zs.length cap) zs) (hw : Lw w ∧ Db w) :
    Calls Tryd.prog 5 #[.slice ao zs.length cap, .int .i64 a, .int .i64 b] w fun e w' => e = .returned (.bool true) ∧ On w w' := by
  obtain ⟨lw, hd⟩ := hw
  obtain ⟨i0, hi, hz0, hz1, hz2⟩ := info_parts infoIns
  have hA := fun W (k : On w W) => awake6_is W (lw.on k) (hd.on k)
  have HZ : Hid (Rd intC 1 w (.slice ao zs.length cap) zs) := hr
  have ok0 : setOk (set0 a) := ⟨rfl, rfl, by show (0 : Int) ≤ 0; decide, by show (0 : Int) ≤ 11; decide⟩
  have ok1 : setOk (set1 b) := ⟨rfl, rfl, by show (0 : Int) ≤ 0; decide, by show (0 : Int) ≤ 11; decide⟩
  obtain ⟨V, hV⟩ : ∃ V, V = ((w.alloc (.cells #[.slice none 0 0] 33)).alloc (.cells #[.slice none 0 0, .slice none 0 0, .slice (some ⟨w.heap.size, 0, none⟩) 1 1] 50)).alloc (.cells #[.int .i64 0, .int .i64 0, .int .i64 0, .int .i64 0] 51) := ⟨_, rfl⟩
  have hVs : V.heap.size = w.heap.size + 1 + 1 + 1 := by rw [hV]; simp
  have KV : Hid (On w V) := by show On w V; rw [hV]; exact (((On.refl w).alloc _).alloc _).alloc _
  have N0 : Bk V w.heap.size #[.slice none 0 0] := by rw [hV]; exact ((Bk.new w _ _).alloc _).alloc _
  have N1 : Bk V (w.heap.size + 1) #[.slice none 0 0, .slice none 0 0, .slice (some ⟨w.heap.size, 0, none⟩) 1 1] := by
    rw [hV]
    have := (Bk.new (w.alloc (.cells #[.slice none 0 0] 33)) #[.slice none 0 0, .slice none 0 0, .slice (some ⟨w.heap.size, 0, none⟩) 1 1] 50).alloc (.cells #[.int .i64 0, .int .i64 0, .int .i64 0, .int .i64 0] 51)
    rwa [World.size_alloc] at this
  have N2 : Bk V (w.heap.size + 1 + 1) #[.int .i64 0, .int .i64 0, .int .i64 0, .int .i64 0] := by
    rw [hV]
    have := Bk.new ((w.alloc (.cells #[.slice none 0 0] 33)).alloc (.cells #[.slice none 0 0, .slice none 0 0, .slice (some ⟨w.heap.size, 0, none⟩) 1 1] 50)) #[.int .i64 0, .int .i64 0, .int .i64 0, .int .i64 0] 51
    rwa [World.size_alloc, World.size_alloc] at this
  have ow : (V.alloc (.cells #[.int .i64 5, .int .i64 0, .int .i64 0, .int .i64 (-1), .int .i64 a, .int .i64 0, .int .i64 (-1), .int .i64 0, .int .i64 0, .int .i64 5, .int .i64 1, .int .i64 0, .int .i64 (-1), .int .i64 b, .int .i64 0, .int .i64 (-1), .int .i64 0, .int .i64 0] 37)).ownsRow (w.heap.size + 1 + 1 + 1) 37 9 (.slice (some ⟨V.heap.size, 0, none⟩) 2 2) 2 ([set0 a, set1 b].flatMap insC) := own_two V (set0 a) (set1 b) _ _ (by omega)
  rw [hVs] at ow
  clear lw hd hr
  go_enter Tryd.func5, Tryd.ntmps5
  go_wp2
  rw [← hV]
  go_loopg [9, 10] 8 (fun gg s9 s10 wq => ∃ (i : Nat) (S : List InsT), i ≤ 8 ∧ gg = 8 - i ∧ s10 = .int .i64 i ∧ S.length = i + 2 ∧ Hid (∀ x ∈ S, setOk x) ∧ Hid (On w wq) ∧ Hid (Bk wq w.heap.size #[.slice none 0 0]) ∧ Hid (Bk wq (w.heap.size + 1) #[.slice none 0 0, .slice none 0 0, .slice (some ⟨w.heap.size, 0, none⟩) 1 1]) ∧ Hid (Bk wq (w.heap.size + 1 + 1) #[.int .i64 0, .int .i64 0, .int .i64 0, .int .i64 0]) ∧ wq.ownsRow (w.heap.size + 1 + 1 + 1) 37 9 s9 (i + 2) (S.flatMap insC))
  case atStart =>
    refine ⟨0, [set0 a, set1 b], by omega, rfl, rfl, rfl, ?_, KV.out.alloc _, N0.alloc _, N1.alloc _, N2.alloc _, ow⟩
    intro x hx
    simp only [List.mem_cons, List.not_mem_nil, or_false] at hx
    rcases hx with rfl | rfl
    · exact ok0
    · exact ok1
  case round =>
    clear ow N0 N1 N2 KV hVs ok0 ok1
    obtain ⟨i, S, hi8, hg, rfl, hS, HK, HO, M0, M1, M2, hown⟩ := hrel
    have hsz := HO.out.size
    have hlt : ∀ g, u9.ownBlock = some g → w.heap.size + 1 + 1 + 1 ≤ g := fun g hg => (hown.lt g hg).1
    have hlt' : ∀ g, u9.ownBlock = some g → w.heap.size ≤ g := fun g hg => by have := hlt g hg; omega
    by_cases hgo : i < zs.length ∧ i < 8
    · obtain ⟨hil, hi7⟩ := hgo
      obtain ⟨x, hx⟩ : ∃ x, zs[i]? = some x := ⟨_, List.getElem?_eq_getElem hil⟩
      obtain ⟨gz, oz, rfl, hgz, hcell⟩ := (HZ.out.on HO.out).at hx
      have q0 : wr.cell? ⟨gz, oz + i, none⟩ = some (.int .i64 x) := by have := hcell 0 _ rfl; rwa [Nat.mul_one, Nat.add_zero] at this
      obtain ⟨m1, b1, e1⟩ := low2 x
      obtain ⟨m2, b2, e2⟩ := low2 (x / 4)
      obtain ⟨k3, b3, e3⟩ := low8 (x / 16)
      obtain ⟨m3, e3', b3'⟩ : ∃ m : Nat, (k3 : Int) % 12 = (m : Int) ∧ m < 12 := ⟨k3 % 12, by omega, by omega⟩
      obtain ⟨m4, b4, e4⟩ := low2 (x / 4096)
      have hrow : wr.heap.size ≥ w.heap.size + 1 + 1 + 1 := M2.out.lt
      clear hcell hx b3 hA
      have OKX : ∀ p q : Int, Hid (setOk ⟨5, (m1 : Int), 0, ⟨(m2 : Int), 0⟩, (m3 : Int), ⟨p, q⟩, 0⟩) := fun p q => ⟨rfl, by show regOk (m1 : Int) = true; unfold regOk; simp; omega, by show (0 : Int) ≤ (m3 : Int); omega, by show (m3 : Int) ≤ 11; omega⟩
      go_wp2_with (at_builtin; refine wpList_append_own _ rfl _ _ 33 rfl (w.heap.size + 1 + 1 + 1) 37 i0 zIns 9 72 Tryd.underlying33 hi hz0 hz1 hz2 rfl (by decide) _ _ _ rfl (hown.alloc _) ⟨wr.heap.size, 0, none⟩ 1 1 (insC ⟨5, (m1 : Int), 0, ⟨(m2 : Int), 0⟩, (m3 : Int), ⟨(m4 : Int), 0⟩, 0⟩) rfl rfl ?c1 ?c2 ?c3 ?c4 ?c5 ?_)
      case c1 => exact news_at wr _ _
      case c2 => exact one_ins _
      case c3 => unfold maxLen; omega
      case c4 => omega
      case c5 => simp only [World.size_alloc]; omega
      intro v' w4 hown4 hg4 _
      have O4 : Hid (On w w4) := (HO.out.alloc _).grown hg4 hlt'
      have P0 : Hid (Bk w4 w.heap.size #[.slice none 0 0]) := (M0.out.alloc _).grown hg4 (by omega) hlt
      have P1 : Hid (Bk w4 (w.heap.size + 1) _) := (M1.out.alloc _).grown hg4 (by omega) hlt
      have P2 : Hid (Bk w4 (w.heap.size + 1 + 1) _) := (M2.out.alloc _).grown hg4 (by omega) hlt
      obtain ⟨gr, cr, rfl, hcr, hbr, hlr, hrc⟩ := own_cells hown4 (by omega)
      have hfl : (S.flatMap insC).length = S.length * 9 := flat_len (C := insC) (k := 9) (fun _ => rfl) S
      have z5 : w4.cell? ⟨gr, (i + 2) * 9 + 5, none⟩ = some (.int .i64 (m3 : Int)) := hrc _ _ (by rw [List.getElem?_append_right (by omega), hfl, hS, Nat.add_sub_cancel_left]; rfl)
      have z6 : w4.cell? ⟨gr, (i + 2) * 9 + 6, none⟩ = some (.int .i64 (m4 : Int)) := hrc _ _ (by rw [List.getElem?_append_right (by omega), hfl, hS, Nat.add_sub_cancel_left]; rfl)
      have z7 : w4.cell? ⟨gr, (i + 2) * 9 + 7, none⟩ = some (.int .i64 0) := hrc _ _ (by rw [List.getElem?_append_right (by omega), hfl, hS, Nat.add_sub_cancel_left]; rfl)
      have fz := fun j => hown4.frozenAt j
      have HW : Hid (w4.ownsRow (w.heap.size + 1 + 1 + 1) 37 9 (.slice (some ⟨gr, 0, none⟩) (i + 2 + 1) cr) (i + 2 + 1) ((S ++ [(⟨5, (m1 : Int), 0, ⟨(m2 : Int), 0⟩, (m3 : Int), ⟨(m4 : Int), 0⟩, 0⟩ : InsT)]).flatMap insC)) := by
        show World.ownsRow _ _ _ _ _ _ _
        rw [List.flatMap_append]
        exact hown4
      clear hown4 hg4 hrc hown M0 M1 M2 HO
      by_cases h3 : m3 = 0
      · subst h3
        go_wp2
        have W1 := (((HW.out.stored ((i + 2) * 9 + 6) (.int .i64 (-1))).1).stored ((i + 2) * 9 + 7) (.int .i64 0)).1
        rw [← hS, last_b] at W1
        rw [hS] at W1
        go_roundg (8 - (i + 1))
        case measure => omega
        case rel =>
          refine ⟨i + 1, S ++ [(⟨5, (m1 : Int), 0, ⟨(m2 : Int), 0⟩, ((0 : Nat) : Int), ⟨-1, 0⟩, 0⟩ : InsT)], by omega, rfl, by go_num, by simp [hS], ?_, (O4.out.setNew (by omega) _).setNew (by omega) _, (P0.out.far (by omega) _ _).far (by omega) _ _, (P1.out.far (by omega) _ _).far (by omega) _ _, (P2.out.far (by omega) _ _).far (by omega) _ _, W1⟩
          intro y hy
          rcases List.mem_append.1 hy with hy | hy
          · exact HK.out y hy
          · rw [List.mem_singleton] at hy
            subst hy
            exact (OKX (-1) 0).out
      · have h3' : ((m3 : Int) == 0) = false := by simp; omega
        go_wp2
        go_roundg (8 - (i + 1))
        case measure => omega
        case rel =>
          refine ⟨i + 1, S ++ [(⟨5, (m1 : Int), 0, ⟨(m2 : Int), 0⟩, (m3 : Int), ⟨(m4 : Int), 0⟩, 0⟩ : InsT)], by omega, rfl, by go_num, by simp [hS], ?_, O4, P0, P1, P2, HW.out⟩
          intro y hy
          rcases List.mem_append.1 hy with hy | hy
          · exact HK.out y hy
          · rw [List.mem_singleton] at hy
            subst hy
            exact (OKX (m4 : Int) 0).out
    · have hst : ¬ i < zs.length ∨ (i < zs.length ∧ ¬ i < 8) := by omega
      have HW : Hid (wr.ownsRow (w.heap.size + 1 + 1 + 1) 37 9 u9 (i + 2) (S.flatMap insC)) := hown
      obtain ⟨ar, cr, rfl⟩ := own_slice hown
      have hrow : wr.heap.size ≥ w.heap.size + 1 + 1 + 1 := M2.out.lt
      have hmx : i + 2 ≤ 10 := by omega
      clear hown hlt hlt' hsz hgo hi8
      rcases hst with hs1 | ⟨hs1, hs2⟩
      · go_wp2
        obtain ⟨R0, hR0⟩ : ∃ R0, R0 = startP S := ⟨_, rfl⟩
        have HR0 : Hid (R0 = settleP S ⟨((0 : Nat) : Int), 0, 0, 0, 0⟩) := hR0
        go_loopg [13] (i + 2) (fun gg s13 wq => ∃ (n : Nat) (r0 r1 r2 r3 : Int), n ≤ i + 2 ∧ gg = i + 2 - n ∧ s13 = .int .i64 n ∧ w.heap.size + 1 + 1 < wq.heap.size ∧ Hid (On w wq) ∧ Hid (Bk wq w.heap.size #[.slice none 0 0]) ∧ Hid (Bk wq (w.heap.size + 1) #[.slice none 0 0, .slice none 0 0, .slice (some ⟨w.heap.size, 0, none⟩) 1 1]) ∧ Bk wq (w.heap.size + 1 + 1) #[.int .i64 r0, .int .i64 r1, .int .i64 r2, .int .i64 r3] ∧ Hid (wq.ownsRow (w.heap.size + 1 + 1 + 1) 37 9 (.slice ar (i + 2) cr) (i + 2) (S.flatMap insC)) ∧ Hid (R0 = settleP S ⟨(n : Int), r0, r1, r2, r3⟩))
        case atStart => exact ⟨0, 0, 0, 0, 0, by omega, rfl, rfl, hrow, HO, M0, M1, M2.out, HW, HR0⟩
        case round =>
          clear HW HR0 HO M0 M1 M2 hrow
          obtain ⟨n, r0, r1, r2, r3, hn, hk, rfl, hsz, HO, M0, M1, M2, HW, HR0⟩ := hrel
          have v0 := M2.at (i := 0) rfl
          have v1 := M2.at (i := 1) rfl
          have v2 := M2.at (i := 2) rfl
          have v3 := M2.at (i := 3) rfl
          rcases Nat.lt_or_ge n (i + 2) with hlt | hge
          · obtain ⟨x, hx⟩ : ∃ x, S[n]? = some x := ⟨_, List.getElem?_eq_getElem (by omega)⟩
            obtain ⟨kx, rx, ox0, ox1⟩ := HK.out x (List.mem_of_getElem? hx)
            have hset := settle_set (r0 := r0) (r1 := r1) (r2 := r2) (r3 := r3) hx kx
            obtain ⟨gr, cr', hv, _, hbr, hlr, hrc⟩ := own_cells HW.out (by omega)
            simp only [Value.slice.injEq, true_and] at hv
            obtain ⟨rfl, rfl⟩ := hv
            have hcl : ∀ W, On wr W → ∀ j u, (insC x)[j]? = some u → W.cell? ⟨gr, n * 9 + j, none⟩ = some u := fun W k j u hu => (k.cell (p := ⟨gr, n * 9 + j, none⟩) hlr).trans (hrc _ _ (by rw [flat_at insC 9 (fun _ => rfl) S n j x hx (List.getElem?_eq_some_iff.1 hu).1]; exact hu))
            have bn0 : (0 : Int) ≤ (n : Int) := by omega
            have bn1 : (n : Int) < ((i + 2 : Nat) : Int) := by omega
            have bn2 : (n : Int) < (i : Int) + 2 := by omega
            have hVa := fun W => rvalue_is x.a ⟨0, r0, r1, r2, r3⟩ W
            have hVb := fun W => rvalue_is x.b ⟨0, r0, r1, r2, r3⟩ W
            have eva : valOf x.a ⟨(n : Int), r0, r1, r2, r3⟩ = valOf x.a ⟨0, r0, r1, r2, r3⟩ := rfl
            have evb : valOf x.b ⟨(n : Int), r0, r1, r2, r3⟩ = valOf x.b ⟨0, r0, r1, r2, r3⟩ := rfl
            unfold resOf at hset
            rw [eva, evb] at hset
            have hDo := fun W => rdo_any x.o (valOf x.a ⟨0, r0, r1, r2, r3⟩) (valOf x.b ⟨0, r0, r1, r2, r3⟩) W
            have HS1 : Hid (R0 = _) := HR0.out.trans hset
            clear hset HR0 hrc hx eva evb
            unfold locV at hVa hVb
            generalize valOf x.a ⟨0, r0, r1, r2, r3⟩ = va at *
            generalize valOf x.b ⟨0, r0, r1, r2, r3⟩ = vb at *
            have bl : ∀ cs T, Bk (wr.alloc (.cells cs T)) wr.heap.size cs := fun cs T => Bk.new wr cs T
            go_wp2
            obtain ⟨W1, hW1⟩ : ∃ W1, W1 = wr.alloc (.cells #[.int .i64 0, .int .i64 r0, .int .i64 r1, .int .i64 r2, .int .i64 r3] 54) := ⟨_, rfl⟩
            rw [← hW1]
            have k1 : On wr W1.drew := by rw [hW1]; exact ((On.refl wr).alloc _).drew
            have L1 : Bk W1.drew wr.heap.size #[.int .i64 0, .int .i64 r0, .int .i64 r1, .int .i64 r2, .int .i64 r3] := by rw [hW1]; exact bl _ _
            have hkA : ∀ W, On W1.drew W → W.cell? ⟨gr, n * 9 + 3, none⟩ = some (.int .i64 x.a.r) ∧ W.cell? ⟨gr, n * 9 + 4, none⟩ = some (.int .i64 x.a.v) ∧ W.cell? ⟨wr.heap.size, 0, none⟩ = some (.int .i64 0) ∧ W.cell? ⟨wr.heap.size, 1, none⟩ = some (.int .i64 r0) ∧ W.cell? ⟨wr.heap.size, 2, none⟩ = some (.int .i64 r1) ∧ W.cell? ⟨wr.heap.size, 3, none⟩ = some (.int .i64 r2) ∧ W.cell? ⟨wr.heap.size, 4, none⟩ = some (.int .i64 r3) := fun W k => ⟨hcl _ (k1.trans k) 3 _ rfl, hcl _ (k1.trans k) 4 _ rfl, (L1.on k).at (i := 0) rfl, (L1.on k).at (i := 1) rfl, (L1.on k).at (i := 2) rfl, (L1.on k).at (i := 3) rfl, (L1.on k).at (i := 4) rfl⟩
            have hkB : ∀ W, On W1.drew W → W.cell? ⟨gr, n * 9 + 5, none⟩ = some (.int .i64 x.o) ∧ W.cell? ⟨gr, n * 9 + 6, none⟩ = some (.int .i64 x.b.r) ∧ W.cell? ⟨gr, n * 9 + 7, none⟩ = some (.int .i64 x.b.v) ∧ W.cell? ⟨wr.heap.size, 0, none⟩ = some (.int .i64 0) ∧ W.cell? ⟨wr.heap.size, 1, none⟩ = some (.int .i64 r0) ∧ W.cell? ⟨wr.heap.size, 2, none⟩ = some (.int .i64 r1) ∧ W.cell? ⟨wr.heap.size, 3, none⟩ = some (.int .i64 r2) ∧ W.cell? ⟨wr.heap.size, 4, none⟩ = some (.int .i64 r3) := fun W k => ⟨hcl _ (k1.trans k) 5 _ rfl, hcl _ (k1.trans k) 6 _ rfl, hcl _ (k1.trans k) 7 _ rfl, (L1.on k).at (i := 0) rfl, (L1.on k).at (i := 1) rfl, (L1.on k).at (i := 2) rfl, (L1.on k).at (i := 3) rfl, (L1.on k).at (i := 4) rfl⟩
            have hk0 : ∀ W, W = W1 → W.cell? ⟨gr, n * 9 + 3, none⟩ = some (.int .i64 x.a.r) ∧ W.cell? ⟨gr, n * 9 + 4, none⟩ = some (.int .i64 x.a.v) ∧ W.cell? ⟨wr.heap.size, 0, none⟩ = some (.int .i64 0) ∧ W.cell? ⟨wr.heap.size, 1, none⟩ = some (.int .i64 r0) ∧ W.cell? ⟨wr.heap.size, 2, none⟩ = some (.int .i64 r1) ∧ W.cell? ⟨wr.heap.size, 3, none⟩ = some (.int .i64 r2) ∧ W.cell? ⟨wr.heap.size, 4, none⟩ = some (.int .i64 r3) := by rintro W rfl; exact hkA W.drew (On.refl _)
            obtain ⟨g1, g2, g3, g4, g5, g6, g7⟩ := hk0 W1 rfl
            clear hk0 bl hW1 v0 v1 v2 v3
            go_region_held3 (fun W => W.cell? ⟨gr, n * 9 + 3, none⟩ = some (.int .i64 x.a.r) ∧ W.cell? ⟨gr, n * 9 + 4, none⟩ = some (.int .i64 x.a.v) ∧ W.cell? ⟨wr.heap.size, 0, none⟩ = some (.int .i64 0) ∧ W.cell? ⟨wr.heap.size, 1, none⟩ = some (.int .i64 r0) ∧ W.cell? ⟨wr.heap.size, 2, none⟩ = some (.int .i64 r1) ∧ W.cell? ⟨wr.heap.size, 3, none⟩ = some (.int .i64 r2) ∧ W.cell? ⟨wr.heap.size, 4, none⟩ = some (.int .i64 r3)) (go_keep) (first | (go_at_call 11; refine (hVa _).mono ?_; rintro e w2 ⟨rfl, k2⟩; have S2 := hkA _ k2))
            obtain ⟨o5, o6, o7, l0, l1, l2, l3, l4⟩ := hkB _ k2
            clear g1 g2 g3 g4 g5 g6 g7
            by_cases ho : x.o = 0
            · have hob : (x.o == 0) = true := by simp [ho]
              rw [hob] at HS1
              have HS2 : Hid (R0 = settleP S (pcTo (withR ⟨(n : Int), r0, r1, r2, r3⟩ x.r va) ((n : Int) + 1))) := HS1
              obtain ⟨w3, hw3⟩ : ∃ w3, w3 = w2 := ⟨_, rfl⟩
              subst hw3
              have k3 : On wr w3 := k1.trans k2
              clear HS1 hob
              have HS3 : Hid (R0 = settleP S (pcTo (withR ⟨(n : Int), r0, r1, r2, r3⟩ x.r va) ((n : Int) + 1))) := HS2
              clear HS2
              have c1 : w3.cell? ⟨gr, n * 9 + 1, none⟩ = some (.int .i64 x.r) := hcl _ k3 1 _ rfl
              have P0 : Hid _ := M0.out.on k3
              have P1 : Hid _ := M1.out.on k3
              have P2 := M2.on k3
              have PW : Hid _ := own_on HW.out k3
              have O3 : Hid (On w w3) := HO.out.trans k3
              have s3 := k3.size
              have y0 := P2.at (i := 0) rfl
              have y1 := P2.at (i := 1) rfl
              have y2 := P2.at (i := 2) rfl
              have y3 := P2.at (i := 3) rfl
              have fy := fun i => P2.fr i
              rcases regOk_four rx with hr4 | hr4 | hr4 | hr4
              · have HN : Hid (R0 = settleP S ⟨((n + 1 : Nat) : Int), va, r1, r2, r3⟩) := by
                  show R0 = _
                  rw [HS3.out, hr4]
                  rfl
                rw [hr4] at c1
                clear HS3
                go_wp2
                go_roundg (i + 2 - (n + 1))
                case measure => omega
                case rel => exact ⟨n + 1, va, r1, r2, r3, by omega, rfl, by go_num, (by rw [size_set]; omega), O3.out.setNew (by omega) _, Bk.far P0.out (by omega) _ _, Bk.far P1.out (by omega) _ _, Bk.puts [.int .i64 va] _ [.int .i64 r0, .int .i64 r1, .int .i64 r2, .int .i64 r3] 0 P2, own_set PW.out (by omega) _ _, HN.out⟩
              · have HN : Hid (R0 = settleP S ⟨((n + 1 : Nat) : Int), r0, va, r2, r3⟩) := by
                  show R0 = _
                  rw [HS3.out, hr4]
                  rfl
                rw [hr4] at c1
                clear HS3
                go_wp2
                go_roundg (i + 2 - (n + 1))
                case measure => omega
                case rel => exact ⟨n + 1, r0, va, r2, r3, by omega, rfl, by go_num, (by rw [size_set]; omega), O3.out.setNew (by omega) _, Bk.far P0.out (by omega) _ _, Bk.far P1.out (by omega) _ _, Bk.puts [.int .i64 va] _ [.int .i64 r0, .int .i64 r1, .int .i64 r2, .int .i64 r3] 1 P2, own_set PW.out (by omega) _ _, HN.out⟩
              · have HN : Hid (R0 = settleP S ⟨((n + 1 : Nat) : Int), r0, r1, va, r3⟩) := by
                  show R0 = _
                  rw [HS3.out, hr4]
                  rfl
                rw [hr4] at c1
                clear HS3
                go_wp2
                go_roundg (i + 2 - (n + 1))
                case measure => omega
                case rel => exact ⟨n + 1, r0, r1, va, r3, by omega, rfl, by go_num, (by rw [size_set]; omega), O3.out.setNew (by omega) _, Bk.far P0.out (by omega) _ _, Bk.far P1.out (by omega) _ _, Bk.puts [.int .i64 va] _ [.int .i64 r0, .int .i64 r1, .int .i64 r2, .int .i64 r3] 2 P2, own_set PW.out (by omega) _ _, HN.out⟩
              · have HN : Hid (R0 = settleP S ⟨((n + 1 : Nat) : Int), r0, r1, r2, va⟩) := by
                  show R0 = _
                  rw [HS3.out, hr4]
                  rfl
                rw [hr4] at c1
                clear HS3
                go_wp2
                go_roundg (i + 2 - (n + 1))
                case measure => omega
                case rel => exact ⟨n + 1, r0, r1, r2, va, by omega, rfl, by go_num, (by rw [size_set]; omega), O3.out.setNew (by omega) _, Bk.far P0.out (by omega) _ _, Bk.far P1.out (by omega) _ _, Bk.puts [.int .i64 va] _ [.int .i64 r0, .int .i64 r1, .int .i64 r2, .int .i64 r3] 3 P2, own_set PW.out (by omega) _ _, HN.out⟩
            · have hob : (x.o == 0) = false := by simpa using ho
              have hop : 0 < x.o := by omega
              rw [hob] at HS1
              have HS2' : Hid (R0 = settleP S (pcTo (withR ⟨(n : Int), r0, r1, r2, r3⟩ x.r (doV x.o va vb)) ((n : Int) + 1))) := HS1
              clear HS1 hob
              generalize doV x.o va vb = vd at *
              generalize doB x.o = bd at *
              have HS2 : Hid (R0 = settleP S (pcTo (withR ⟨(n : Int), r0, r1, r2, r3⟩ x.r vd) ((n : Int) + 1))) := HS2'
              clear HS2'
              go_wp2
              have hkC : ∀ W, On w2.drew W → W.cell? ⟨gr, n * 9 + 5, none⟩ = some (.int .i64 x.o) ∧ W.cell? ⟨gr, n * 9 + 6, none⟩ = some (.int .i64 x.b.r) ∧ W.cell? ⟨gr, n * 9 + 7, none⟩ = some (.int .i64 x.b.v) ∧ W.cell? ⟨wr.heap.size, 0, none⟩ = some (.int .i64 0) ∧ W.cell? ⟨wr.heap.size, 1, none⟩ = some (.int .i64 r0) ∧ W.cell? ⟨wr.heap.size, 2, none⟩ = some (.int .i64 r1) ∧ W.cell? ⟨wr.heap.size, 3, none⟩ = some (.int .i64 r2) ∧ W.cell? ⟨wr.heap.size, 4, none⟩ = some (.int .i64 r3) := fun W k => hkB W (k2.trans ((On.refl w2).drew.trans k))
              have kd : On wr w2.drew := (k1.trans k2).drew
              go_region_held3 (fun W => W.cell? ⟨gr, n * 9 + 5, none⟩ = some (.int .i64 x.o) ∧ W.cell? ⟨gr, n * 9 + 6, none⟩ = some (.int .i64 x.b.r) ∧ W.cell? ⟨gr, n * 9 + 7, none⟩ = some (.int .i64 x.b.v) ∧ W.cell? ⟨wr.heap.size, 0, none⟩ = some (.int .i64 0) ∧ W.cell? ⟨wr.heap.size, 1, none⟩ = some (.int .i64 r0) ∧ W.cell? ⟨wr.heap.size, 2, none⟩ = some (.int .i64 r1) ∧ W.cell? ⟨wr.heap.size, 3, none⟩ = some (.int .i64 r2) ∧ W.cell? ⟨wr.heap.size, 4, none⟩ = some (.int .i64 r3)) (go_keep) (first | (go_at_call 11; refine (hVb _).mono ?_; rintro e w3 ⟨rfl, kx⟩; have S3 := hkC _ kx) | (go_at_call 12; refine (hDo _).mono ?_; rintro e w4 ⟨rfl, rfl⟩))
              obtain ⟨w3, hw3⟩ : ∃ w3, w3 = w4 := ⟨_, rfl⟩
              subst hw3
              have k3 : On wr w3 := kd.trans kx
              have HS3 : Hid (R0 = settleP S (pcTo (withR ⟨(n : Int), r0, r1, r2, r3⟩ x.r vd) ((n : Int) + 1))) := HS2
              clear HS2
              have c1 : w3.cell? ⟨gr, n * 9 + 1, none⟩ = some (.int .i64 x.r) := hcl _ k3 1 _ rfl
              have P0 : Hid _ := M0.out.on k3
              have P1 : Hid _ := M1.out.on k3
              have P2 := M2.on k3
              have PW : Hid _ := own_on HW.out k3
              have O3 : Hid (On w w3) := HO.out.trans k3
              have s3 := k3.size
              have y0 := P2.at (i := 0) rfl
              have y1 := P2.at (i := 1) rfl
              have y2 := P2.at (i := 2) rfl
              have y3 := P2.at (i := 3) rfl
              have fy := fun i => P2.fr i
              rcases regOk_four rx with hr4 | hr4 | hr4 | hr4
              · have HN : Hid (R0 = settleP S ⟨((n + 1 : Nat) : Int), vd, r1, r2, r3⟩) := by
                  show R0 = _
                  rw [HS3.out, hr4]
                  rfl
                rw [hr4] at c1
                clear HS3
                go_wp2
                go_roundg (i + 2 - (n + 1))
                case measure => omega
                case rel => exact ⟨n + 1, vd, r1, r2, r3, by omega, rfl, by go_num, (by rw [size_set]; omega), O3.out.setNew (by omega) _, Bk.far P0.out (by omega) _ _, Bk.far P1.out (by omega) _ _, Bk.puts [.int .i64 vd] _ [.int .i64 r0, .int .i64 r1, .int .i64 r2, .int .i64 r3] 0 P2, own_set PW.out (by omega) _ _, HN.out⟩
              · have HN : Hid (R0 = settleP S ⟨((n + 1 : Nat) : Int), r0, vd, r2, r3⟩) := by
                  show R0 = _
                  rw [HS3.out, hr4]
                  rfl
                rw [hr4] at c1
                clear HS3
                go_wp2
                go_roundg (i + 2 - (n + 1))
                case measure => omega
                case rel => exact ⟨n + 1, r0, vd, r2, r3, by omega, rfl, by go_num, (by rw [size_set]; omega), O3.out.setNew (by omega) _, Bk.far P0.out (by omega) _ _, Bk.far P1.out (by omega) _ _, Bk.puts [.int .i64 vd] _ [.int .i64 r0, .int .i64 r1, .int .i64 r2, .int .i64 r3] 1 P2, own_set PW.out (by omega) _ _, HN.out⟩
              · have HN : Hid (R0 = settleP S ⟨((n + 1 : Nat) : Int), r0, r1, vd, r3⟩) := by
                  show R0 = _
                  rw [HS3.out, hr4]
                  rfl
                rw [hr4] at c1
                clear HS3
                go_wp2
                go_roundg (i + 2 - (n + 1))
                case measure => omega
                case rel => exact ⟨n + 1, r0, r1, vd, r3, by omega, rfl, by go_num, (by rw [size_set]; omega), O3.out.setNew (by omega) _, Bk.far P0.out (by omega) _ _, Bk.far P1.out (by omega) _ _, Bk.puts [.int .i64 vd] _ [.int .i64 r0, .int .i64 r1, .int .i64 r2, .int .i64 r3] 2 P2, own_set PW.out (by omega) _ _, HN.out⟩
              · have HN : Hid (R0 = settleP S ⟨((n + 1 : Nat) : Int), r0, r1, r2, vd⟩) := by
                  show R0 = _
                  rw [HS3.out, hr4]
                  rfl
                rw [hr4] at c1
                clear HS3
                go_wp2
                go_roundg (i + 2 - (n + 1))
                case measure => omega
                case rel => exact ⟨n + 1, r0, r1, r2, vd, by omega, rfl, by go_num, (by rw [size_set]; omega), O3.out.setNew (by omega) _, Bk.far P0.out (by omega) _ _, Bk.far P1.out (by omega) _ _, Bk.puts [.int .i64 vd] _ [.int .i64 r0, .int .i64 r1, .int .i64 r2, .int .i64 r3] 3 P2, own_set PW.out (by omega) _ _, HN.out⟩
          · obtain rfl : n = i + 2 := by omega
            have e : settleP S ⟨((i + 2 : Nat) : Int), r0, r1, r2, r3⟩ = ⟨((i + 2 : Nat) : Int), r0, r1, r2, r3⟩ := settle_end (by simp only [Int.toNat_natCast]; omega)
            rw [e] at HR0
            have HR : Hid (R0 = ⟨((i + 2 : Nat) : Int), r0, r1, r2, r3⟩) := HR0
            have z0 := M0.out.at (i := 0) rfl
            have f0 := fun i => M0.out.fr i
            have b0 := M0.out.lt
            have p0 := M1.out.at (i := 0) rfl
            have p1 := M1.out.at (i := 1) rfl
            have p2 := M1.out.at (i := 2) rfl
            have b1 := M1.out.lt
            have HQ : Hid (Bk (wr.setCell ⟨w.heap.size, 0, none⟩ (.slice ar (i + 2) cr)) w.heap.size #[.slice ar (i + 2) cr]) := Bk.puts [.slice ar (i + 2) cr] wr [.slice none 0 0] 0 M0.out
            have HRD : Hid (Rd insC 9 (wr.setCell ⟨w.heap.size, 0, none⟩ (.slice ar (i + 2) cr)) (.slice ar S.length cr) S) := by
              refine Rd.own (C := insC) (k := 9) (fun _ => rfl) (base := w.heap.size + 1 + 1 + 1) (e := 37) ?_
              rw [hS]
              exact own_set HW.out (by omega) _ _
            have hSt := start_is [S] 0 _ _ (prog_one (N := w.heap.size) (n := i + 2) (a := ar) (c := cr) hS HQ.out HRD.out)
            rw [show threadP [S] 0 = S from rfl, ← hR0, HR.out] at hSt
            unfold locV at hSt
            have k0 : On w (wr.setCell ⟨w.heap.size, 0, none⟩ (.slice ar (i + 2) cr)) := HO.out.setNew (Nat.le_refl _) _
            have MB := M2.far (N := w.heap.size) (by omega) 0 (.slice ar (i + 2) cr)
            have hq := fun W (x0 x1 x2 x3 : Int) => eq4_is W x0 x1 x2 x3 x0 x1 x2 x3
            clear HQ HRD HW HR M0 M1 M2 hR0
            go_wp2_with fail
            refine hSt.mono ?_
            rintro e w2 ⟨rfl, k2⟩
            have M3 := MB.on k2
            have y0 := M3.at (i := 0) rfl
            have y1 := M3.at (i := 1) rfl
            have y2 := M3.at (i := 2) rfl
            have y3 := M3.at (i := 3) rfl
            have yl := M3.lt
            have kA2 : ∀ T, On w (w2.alloc T) := fun T => (k0.trans k2).alloc T
            clear hSt MB k2 k0 z0 f0 b0 p0 p1 p2 b1
            go_wp2_with (go_at_call 14; refine (hA _ (kA2 _)).mono ?_; rintro e w3 ⟨rfl, k3⟩)
            go_ret
            exact ⟨rfl, (kA2 _).trans k3⟩
      · go_wp2
        obtain ⟨R0, hR0⟩ : ∃ R0, R0 = startP S := ⟨_, rfl⟩
        have HR0 : Hid (R0 = settleP S ⟨((0 : Nat) : Int), 0, 0, 0, 0⟩) := hR0
        go_loopg [13] (i + 2) (fun gg s13 wq => ∃ (n : Nat) (r0 r1 r2 r3 : Int), n ≤ i + 2 ∧ gg = i + 2 - n ∧ s13 = .int .i64 n ∧ w.heap.size + 1 + 1 < wq.heap.size ∧ Hid (On w wq) ∧ Hid (Bk wq w.heap.size #[.slice none 0 0]) ∧ Hid (Bk wq (w.heap.size + 1) #[.slice none 0 0, .slice none 0 0, .slice (some ⟨w.heap.size, 0, none⟩) 1 1]) ∧ Bk wq (w.heap.size + 1 + 1) #[.int .i64 r0, .int .i64 r1, .int .i64 r2, .int .i64 r3] ∧ Hid (wq.ownsRow (w.heap.size + 1 + 1 + 1) 37 9 (.slice ar (i + 2) cr) (i + 2) (S.flatMap insC)) ∧ Hid (R0 = settleP S ⟨(n : Int), r0, r1, r2, r3⟩))
        case atStart => exact ⟨0, 0, 0, 0, 0, by omega, rfl, rfl, hrow, HO, M0, M1, M2.out, HW, HR0⟩
        case round =>
          clear HW HR0 HO M0 M1 M2 hrow
          obtain ⟨n, r0, r1, r2, r3, hn, hk, rfl, hsz, HO, M0, M1, M2, HW, HR0⟩ := hrel
          have v0 := M2.at (i := 0) rfl
          have v1 := M2.at (i := 1) rfl
          have v2 := M2.at (i := 2) rfl
          have v3 := M2.at (i := 3) rfl
          rcases Nat.lt_or_ge n (i + 2) with hlt | hge
          · obtain ⟨x, hx⟩ : ∃ x, S[n]? = some x := ⟨_, List.getElem?_eq_getElem (by omega)⟩
            obtain ⟨kx, rx, ox0, ox1⟩ := HK.out x (List.mem_of_getElem? hx)
            have hset := settle_set (r0 := r0) (r1 := r1) (r2 := r2) (r3 := r3) hx kx
            obtain ⟨gr, cr', hv, _, hbr, hlr, hrc⟩ := own_cells HW.out (by omega)
            simp only [Value.slice.injEq, true_and] at hv
            obtain ⟨rfl, rfl⟩ := hv
            have hcl : ∀ W, On wr W → ∀ j u, (insC x)[j]? = some u → W.cell? ⟨gr, n * 9 + j, none⟩ = some u := fun W k j u hu => (k.cell (p := ⟨gr, n * 9 + j, none⟩) hlr).trans (hrc _ _ (by rw [flat_at insC 9 (fun _ => rfl) S n j x hx (List.getElem?_eq_some_iff.1 hu).1]; exact hu))
            have bn0 : (0 : Int) ≤ (n : Int) := by omega
            have bn1 : (n : Int) < ((i + 2 : Nat) : Int) := by omega
            have bn2 : (n : Int) < (i : Int) + 2 := by omega
            have hVa := fun W => rvalue_is x.a ⟨0, r0, r1, r2, r3⟩ W
            have hVb := fun W => rvalue_is x.b ⟨0, r0, r1, r2, r3⟩ W
            have eva : valOf x.a ⟨(n : Int), r0, r1, r2, r3⟩ = valOf x.a ⟨0, r0, r1, r2, r3⟩ := rfl
            have evb : valOf x.b ⟨(n : Int), r0, r1, r2, r3⟩ = valOf x.b ⟨0, r0, r1, r2, r3⟩ := rfl
            unfold resOf at hset
            rw [eva, evb] at hset
            have hDo := fun W => rdo_any x.o (valOf x.a ⟨0, r0, r1, r2, r3⟩) (valOf x.b ⟨0, r0, r1, r2, r3⟩) W
            have HS1 : Hid (R0 = _) := HR0.out.trans hset
            clear hset HR0 hrc hx eva evb
            unfold locV at hVa hVb
            generalize valOf x.a ⟨0, r0, r1, r2, r3⟩ = va at *
            generalize valOf x.b ⟨0, r0, r1, r2, r3⟩ = vb at *
            have bl : ∀ cs T, Bk (wr.alloc (.cells cs T)) wr.heap.size cs := fun cs T => Bk.new wr cs T
            go_wp2
            obtain ⟨W1, hW1⟩ : ∃ W1, W1 = wr.alloc (.cells #[.int .i64 0, .int .i64 r0, .int .i64 r1, .int .i64 r2, .int .i64 r3] 54) := ⟨_, rfl⟩
            rw [← hW1]
            have k1 : On wr W1.drew := by rw [hW1]; exact ((On.refl wr).alloc _).drew
            have L1 : Bk W1.drew wr.heap.size #[.int .i64 0, .int .i64 r0, .int .i64 r1, .int .i64 r2, .int .i64 r3] := by rw [hW1]; exact bl _ _
            have hkA : ∀ W, On W1.drew W → W.cell? ⟨gr, n * 9 + 3, none⟩ = some (.int .i64 x.a.r) ∧ W.cell? ⟨gr, n * 9 + 4, none⟩ = some (.int .i64 x.a.v) ∧ W.cell? ⟨wr.heap.size, 0, none⟩ = some (.int .i64 0) ∧ W.cell? ⟨wr.heap.size, 1, none⟩ = some (.int .i64 r0) ∧ W.cell? ⟨wr.heap.size, 2, none⟩ = some (.int .i64 r1) ∧ W.cell? ⟨wr.heap.size, 3, none⟩ = some (.int .i64 r2) ∧ W.cell? ⟨wr.heap.size, 4, none⟩ = some (.int .i64 r3) := fun W k => ⟨hcl _ (k1.trans k) 3 _ rfl, hcl _ (k1.trans k) 4 _ rfl, (L1.on k).at (i := 0) rfl, (L1.on k).at (i := 1) rfl, (L1.on k).at (i := 2) rfl, (L1.on k).at (i := 3) rfl, (L1.on k).at (i := 4) rfl⟩
            have hkB : ∀ W, On W1.drew W → W.cell? ⟨gr, n * 9 + 5, none⟩ = some (.int .i64 x.o) ∧ W.cell? ⟨gr, n * 9 + 6, none⟩ = some (.int .i64 x.b.r) ∧ W.cell? ⟨gr, n * 9 + 7, none⟩ = some (.int .i64 x.b.v) ∧ W.cell? ⟨wr.heap.size, 0, none⟩ = some (.int .i64 0) ∧ W.cell? ⟨wr.heap.size, 1, none⟩ = some (.int .i64 r0) ∧ W.cell? ⟨wr.heap.size, 2, none⟩ = some (.int .i64 r1) ∧ W.cell? ⟨wr.heap.size, 3, none⟩ = some (.int .i64 r2) ∧ W.cell? ⟨wr.heap.size, 4, none⟩ = some (.int .i64 r3) := fun W k => ⟨hcl _ (k1.trans k) 5 _ rfl, hcl _ (k1.trans k) 6 _ rfl, hcl _ (k1.trans k) 7 _ rfl, (L1.on k).at (i := 0) rfl, (L1.on k).at (i := 1) rfl, (L1.on k).at (i := 2) rfl, (L1.on k).at (i := 3) rfl, (L1.on k).at (i := 4) rfl⟩
            have hk0 : ∀ W, W = W1 → W.cell? ⟨gr, n * 9 + 3, none⟩ = some (.int .i64 x.a.r) ∧ W.cell? ⟨gr, n * 9 + 4, none⟩ = some (.int .i64 x.a.v) ∧ W.cell? ⟨wr.heap.size, 0, none⟩ = some (.int .i64 0) ∧ W.cell? ⟨wr.heap.size, 1, none⟩ = some (.int .i64 r0) ∧ W.cell? ⟨wr.heap.size, 2, none⟩ = some (.int .i64 r1) ∧ W.cell? ⟨wr.heap.size, 3, none⟩ = some (.int .i64 r2) ∧ W.cell? ⟨wr.heap.size, 4, none⟩ = some (.int .i64 r3) := by rintro W rfl; exact hkA W.drew (On.refl _)
            obtain ⟨g1, g2, g3, g4, g5, g6, g7⟩ := hk0 W1 rfl
            clear hk0 bl hW1 v0 v1 v2 v3
            go_region_held3 (fun W => W.cell? ⟨gr, n * 9 + 3, none⟩ = some (.int .i64 x.a.r) ∧ W.cell? ⟨gr, n * 9 + 4, none⟩ = some (.int .i64 x.a.v) ∧ W.cell? ⟨wr.heap.size, 0, none⟩ = some (.int .i64 0) ∧ W.cell? ⟨wr.heap.size, 1, none⟩ = some (.int .i64 r0) ∧ W.cell? ⟨wr.heap.size, 2, none⟩ = some (.int .i64 r1) ∧ W.cell? ⟨wr.heap.size, 3, none⟩ = some (.int .i64 r2) ∧ W.cell? ⟨wr.heap.size, 4, none⟩ = some (.int .i64 r3)) (go_keep) (first | (go_at_call 11; refine (hVa _).mono ?_; rintro e w2 ⟨rfl, k2⟩; have S2 := hkA _ k2))
            obtain ⟨o5, o6, o7, l0, l1, l2, l3, l4⟩ := hkB _ k2
            clear g1 g2 g3 g4 g5 g6 g7
            by_cases ho : x.o = 0
            · have hob : (x.o == 0) = true := by simp [ho]
              rw [hob] at HS1
              have HS2 : Hid (R0 = settleP S (pcTo (withR ⟨(n : Int), r0, r1, r2, r3⟩ x.r va) ((n : Int) + 1))) := HS1
              obtain ⟨w3, hw3⟩ : ∃ w3, w3 = w2 := ⟨_, rfl⟩
              subst hw3
              have k3 : On wr w3 := k1.trans k2
              clear HS1 hob
              have HS3 : Hid (R0 = settleP S (pcTo (withR ⟨(n : Int), r0, r1, r2, r3⟩ x.r va) ((n : Int) + 1))) := HS2
              clear HS2
              have c1 : w3.cell? ⟨gr, n * 9 + 1, none⟩ = some (.int .i64 x.r) := hcl _ k3 1 _ rfl
              have P0 : Hid _ := M0.out.on k3
              have P1 : Hid _ := M1.out.on k3
              have P2 := M2.on k3
              have PW : Hid _ := own_on HW.out k3
              have O3 : Hid (On w w3) := HO.out.trans k3
              have s3 := k3.size
              have y0 := P2.at (i := 0) rfl
              have y1 := P2.at (i := 1) rfl
              have y2 := P2.at (i := 2) rfl
              have y3 := P2.at (i := 3) rfl
              have fy := fun i => P2.fr i
              rcases regOk_four rx with hr4 | hr4 | hr4 | hr4
              · have HN : Hid (R0 = settleP S ⟨((n + 1 : Nat) : Int), va, r1, r2, r3⟩) := by
                  show R0 = _
                  rw [HS3.out, hr4]
                  rfl
                rw [hr4] at c1
                clear HS3
                go_wp2
                go_roundg (i + 2 - (n + 1))
                case measure => omega
                case rel => exact ⟨n + 1, va, r1, r2, r3, by omega, rfl, by go_num, (by rw [size_set]; omega), O3.out.setNew (by omega) _, Bk.far P0.out (by omega) _ _, Bk.far P1.out (by omega) _ _, Bk.puts [.int .i64 va] _ [.int .i64 r0, .int .i64 r1, .int .i64 r2, .int .i64 r3] 0 P2, own_set PW.out (by omega) _ _, HN.out⟩
              · have HN : Hid (R0 = settleP S ⟨((n + 1 : Nat) : Int), r0, va, r2, r3⟩) := by
                  show R0 = _
                  rw [HS3.out, hr4]
                  rfl
                rw [hr4] at c1
                clear HS3
                go_wp2
                go_roundg (i + 2 - (n + 1))
                case measure => omega
                case rel => exact ⟨n + 1, r0, va, r2, r3, by omega, rfl, by go_num, (by rw [size_set]; omega), O3.out.setNew (by omega) _, Bk.far P0.out (by omega) _ _, Bk.far P1.out (by omega) _ _, Bk.puts [.int .i64 va] _ [.int .i64 r0, .int .i64 r1, .int .i64 r2, .int .i64 r3] 1 P2, own_set PW.out (by omega) _ _, HN.out⟩
              · have HN : Hid (R0 = settleP S ⟨((n + 1 : Nat) : Int), r0, r1, va, r3⟩) := by
                  show R0 = _
                  rw [HS3.out, hr4]
                  rfl
                rw [hr4] at c1
                clear HS3
                go_wp2
                go_roundg (i + 2 - (n + 1))
                case measure => omega
                case rel => exact ⟨n + 1, r0, r1, va, r3, by omega, rfl, by go_num, (by rw [size_set]; omega), O3.out.setNew (by omega) _, Bk.far P0.out (by omega) _ _, Bk.far P1.out (by omega) _ _, Bk.puts [.int .i64 va] _ [.int .i64 r0, .int .i64 r1, .int .i64 r2, .int .i64 r3] 2 P2, own_set PW.out (by omega) _ _, HN.out⟩
              · have HN : Hid (R0 = settleP S ⟨((n + 1 : Nat) : Int), r0, r1, r2, va⟩) := by
                  show R0 = _
                  rw [HS3.out, hr4]
                  rfl
                rw [hr4] at c1
                clear HS3
                go_wp2
                go_roundg (i + 2 - (n + 1))
                case measure => omega
                case rel => exact ⟨n + 1, r0, r1, r2, va, by omega, rfl, by go_num, (by rw [size_set]; omega), O3.out.setNew (by omega) _, Bk.far P0.out (by omega) _ _, Bk.far P1.out (by omega) _ _, Bk.puts [.int .i64 va] _ [.int .i64 r0, .int .i64 r1, .int .i64 r2, .int .i64 r3] 3 P2, own_set PW.out (by omega) _ _, HN.out⟩
            · have hob : (x.o == 0) = false := by simpa using ho
              have hop : 0 < x.o := by omega
              rw [hob] at HS1
              have HS2' : Hid (R0 = settleP S (pcTo (withR ⟨(n : Int), r0, r1, r2, r3⟩ x.r (doV x.o va vb)) ((n : Int) + 1))) := HS1
              clear HS1 hob
              generalize doV x.o va vb = vd at *
              generalize doB x.o = bd at *
              have HS2 : Hid (R0 = settleP S (pcTo (withR ⟨(n : Int), r0, r1, r2, r3⟩ x.r vd) ((n : Int) + 1))) := HS2'
              clear HS2'
              go_wp2
              have hkC : ∀ W, On w2.drew W → W.cell? ⟨gr, n * 9 + 5, none⟩ = some (.int .i64 x.o) ∧ W.cell? ⟨gr, n * 9 + 6, none⟩ = some (.int .i64 x.b.r) ∧ W.cell? ⟨gr, n * 9 + 7, none⟩ = some (.int .i64 x.b.v) ∧ W.cell? ⟨wr.heap.size, 0, none⟩ = some (.int .i64 0) ∧ W.cell? ⟨wr.heap.size, 1, none⟩ = some (.int .i64 r0) ∧ W.cell? ⟨wr.heap.size, 2, none⟩ = some (.int .i64 r1) ∧ W.cell? ⟨wr.heap.size, 3, none⟩ = some (.int .i64 r2) ∧ W.cell? ⟨wr.heap.size, 4, none⟩ = some (.int .i64 r3) := fun W k => hkB W (k2.trans ((On.refl w2).drew.trans k))
              have kd : On wr w2.drew := (k1.trans k2).drew
              go_region_held3 (fun W => W.cell? ⟨gr, n * 9 + 5, none⟩ = some (.int .i64 x.o) ∧ W.cell? ⟨gr, n * 9 + 6, none⟩ = some (.int .i64 x.b.r) ∧ W.cell? ⟨gr, n * 9 + 7, none⟩ = some (.int .i64 x.b.v) ∧ W.cell? ⟨wr.heap.size, 0, none⟩ = some (.int .i64 0) ∧ W.cell? ⟨wr.heap.size, 1, none⟩ = some (.int .i64 r0) ∧ W.cell? ⟨wr.heap.size, 2, none⟩ = some (.int .i64 r1) ∧ W.cell? ⟨wr.heap.size, 3, none⟩ = some (.int .i64 r2) ∧ W.cell? ⟨wr.heap.size, 4, none⟩ = some (.int .i64 r3)) (go_keep) (first | (go_at_call 11; refine (hVb _).mono ?_; rintro e w3 ⟨rfl, kx⟩; have S3 := hkC _ kx) | (go_at_call 12; refine (hDo _).mono ?_; rintro e w4 ⟨rfl, rfl⟩))
              obtain ⟨w3, hw3⟩ : ∃ w3, w3 = w4 := ⟨_, rfl⟩
              subst hw3
              have k3 : On wr w3 := kd.trans kx
              have HS3 : Hid (R0 = settleP S (pcTo (withR ⟨(n : Int), r0, r1, r2, r3⟩ x.r vd) ((n : Int) + 1))) := HS2
              clear HS2
              have c1 : w3.cell? ⟨gr, n * 9 + 1, none⟩ = some (.int .i64 x.r) := hcl _ k3 1 _ rfl
              have P0 : Hid _ := M0.out.on k3
              have P1 : Hid _ := M1.out.on k3
              have P2 := M2.on k3
              have PW : Hid _ := own_on HW.out k3
              have O3 : Hid (On w w3) := HO.out.trans k3
              have s3 := k3.size
              have y0 := P2.at (i := 0) rfl
              have y1 := P2.at (i := 1) rfl
              have y2 := P2.at (i := 2) rfl
              have y3 := P2.at (i := 3) rfl
              have fy := fun i => P2.fr i
              rcases regOk_four rx with hr4 | hr4 | hr4 | hr4
              · have HN : Hid (R0 = settleP S ⟨((n + 1 : Nat) : Int), vd, r1, r2, r3⟩) := by
                  show R0 = _
                  rw [HS3.out, hr4]
                  rfl
                rw [hr4] at c1
                clear HS3
                go_wp2
                go_roundg (i + 2 - (n + 1))
                case measure => omega
                case rel => exact ⟨n + 1, vd, r1, r2, r3, by omega, rfl, by go_num, (by rw [size_set]; omega), O3.out.setNew (by omega) _, Bk.far P0.out (by omega) _ _, Bk.far P1.out (by omega) _ _, Bk.puts [.int .i64 vd] _ [.int .i64 r0, .int .i64 r1, .int .i64 r2, .int .i64 r3] 0 P2, own_set PW.out (by omega) _ _, HN.out⟩
              · have HN : Hid (R0 = settleP S ⟨((n + 1 : Nat) : Int), r0, vd, r2, r3⟩) := by
                  show R0 = _
                  rw [HS3.out, hr4]
                  rfl
                rw [hr4] at c1
                clear HS3
                go_wp2
                go_roundg (i + 2 - (n + 1))
                case measure => omega
                case rel => exact ⟨n + 1, r0, vd, r2, r3, by omega, rfl, by go_num, (by rw [size_set]; omega), O3.out.setNew (by omega) _, Bk.far P0.out (by omega) _ _, Bk.far P1.out (by omega) _ _, Bk.puts [.int .i64 vd] _ [.int .i64 r0, .int .i64 r1, .int .i64 r2, .int .i64 r3] 1 P2, own_set PW.out (by omega) _ _, HN.out⟩
              · have HN : Hid (R0 = settleP S ⟨((n + 1 : Nat) : Int), r0, r1, vd, r3⟩) := by
                  show R0 = _
                  rw [HS3.out, hr4]
                  rfl
                rw [hr4] at c1
                clear HS3
                go_wp2
                go_roundg (i + 2 - (n + 1))
                case measure => omega
                case rel => exact ⟨n + 1, r0, r1, vd, r3, by omega, rfl, by go_num, (by rw [size_set]; omega), O3.out.setNew (by omega) _, Bk.far P0.out (by omega) _ _, Bk.far P1.out (by omega) _ _, Bk.puts [.int .i64 vd] _ [.int .i64 r0, .int .i64 r1, .int .i64 r2, .int .i64 r3] 2 P2, own_set PW.out (by omega) _ _, HN.out⟩
              · have HN : Hid (R0 = settleP S ⟨((n + 1 : Nat) : Int), r0, r1, r2, vd⟩) := by
                  show R0 = _
                  rw [HS3.out, hr4]
                  rfl
                rw [hr4] at c1
                clear HS3
                go_wp2
                go_roundg (i + 2 - (n + 1))
                case measure => omega
                case rel => exact ⟨n + 1, r0, r1, r2, vd, by omega, rfl, by go_num, (by rw [size_set]; omega), O3.out.setNew (by omega) _, Bk.far P0.out (by omega) _ _, Bk.far P1.out (by omega) _ _, Bk.puts [.int .i64 vd] _ [.int .i64 r0, .int .i64 r1, .int .i64 r2, .int .i64 r3] 3 P2, own_set PW.out (by omega) _ _, HN.out⟩
          · obtain rfl : n = i + 2 := by omega
            have e : settleP S ⟨((i + 2 : Nat) : Int), r0, r1, r2, r3⟩ = ⟨((i + 2 : Nat) : Int), r0, r1, r2, r3⟩ := settle_end (by simp only [Int.toNat_natCast]; omega)
            rw [e] at HR0
            have HR : Hid (R0 = ⟨((i + 2 : Nat) : Int), r0, r1, r2, r3⟩) := HR0
            have z0 := M0.out.at (i := 0) rfl
            have f0 := fun i => M0.out.fr i
            have b0 := M0.out.lt
            have p0 := M1.out.at (i := 0) rfl
            have p1 := M1.out.at (i := 1) rfl
            have p2 := M1.out.at (i := 2) rfl
            have b1 := M1.out.lt
            have HQ : Hid (Bk (wr.setCell ⟨w.heap.size, 0, none⟩ (.slice ar (i + 2) cr)) w.heap.size #[.slice ar (i + 2) cr]) := Bk.puts [.slice ar (i + 2) cr] wr [.slice none 0 0] 0 M0.out
            have HRD : Hid (Rd insC 9 (wr.setCell ⟨w.heap.size, 0, none⟩ (.slice ar (i + 2) cr)) (.slice ar S.length cr) S) := by
              refine Rd.own (C := insC) (k := 9) (fun _ => rfl) (base := w.heap.size + 1 + 1 + 1) (e := 37) ?_
              rw [hS]
              exact own_set HW.out (by omega) _ _
            have hSt := start_is [S] 0 _ _ (prog_one (N := w.heap.size) (n := i + 2) (a := ar) (c := cr) hS HQ.out HRD.out)
            rw [show threadP [S] 0 = S from rfl, ← hR0, HR.out] at hSt
            unfold locV at hSt
            have k0 : On w (wr.setCell ⟨w.heap.size, 0, none⟩ (.slice ar (i + 2) cr)) := HO.out.setNew (Nat.le_refl _) _
            have MB := M2.far (N := w.heap.size) (by omega) 0 (.slice ar (i + 2) cr)
            have hq := fun W (x0 x1 x2 x3 : Int) => eq4_is W x0 x1 x2 x3 x0 x1 x2 x3
            clear HQ HRD HW HR M0 M1 M2 hR0
            go_wp2_with fail
            refine hSt.mono ?_
            rintro e w2 ⟨rfl, k2⟩
            have M3 := MB.on k2
            have y0 := M3.at (i := 0) rfl
            have y1 := M3.at (i := 1) rfl
            have y2 := M3.at (i := 2) rfl
            have y3 := M3.at (i := 3) rfl
            have yl := M3.lt
            have kA2 : ∀ T, On w (w2.alloc T) := fun T => (k0.trans k2).alloc T
            clear hSt MB k2 k0 z0 f0 b0 p0 p1 p2 b1
            go_wp2_with (go_at_call 14; refine (hA _ (kA2 _)).mono ?_; rintro e w3 ⟨rfl, k3⟩)
            go_ret
            exact ⟨rfl, (kA2 _).trans k3⟩
end Go.Proofs.YtjjmkacfkjkhgaaDoor
