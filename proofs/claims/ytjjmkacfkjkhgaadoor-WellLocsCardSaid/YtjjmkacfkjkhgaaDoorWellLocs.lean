/- The walk of the law WellLocs. -/
import Derived.Test.YtjjmkacfkjkhgaaDoorLocsP
import Derived.Test.YtjjmkacfkjkhgaaDoorRegFin2
import Derived.Test.YtjjmkacfkjkhgaaDoorRLocs
import Derived.Test.YtjjmkacfkjkhgaaDoorStepH
import Derived.Test.YtjjmkacfkjkhgaaDoorAwake5
import Derived.Deep.CutBlock
import Derived.Lib.BufferRead
import Derived.Laws.IdiomStrings
import Derived.Deep.DeepCutAuto
namespace Go.Proofs.YtjjmkacfkjkhgaaDoor
open Go.RowKit

def bL (f : Nat → Bool) : List Value := (List.range 26).map (fun i => Value.bool (f i))
def bA (f : Nat → Bool) : Array Value := (bL f).toArray
theorem bA_at (f : Nat → Bool) {i : Nat} (h : i < 26) : (bA f)[i]? = some (.bool (f i)) := by
  unfold bA bL
  rw [List.getElem?_toArray, List.getElem?_map, List.getElem?_range h]
  rfl
theorem bA_set (A : List Nat) (i : Nat) : ((bL (hasW A)).set i (.bool true)).toArray = bA (hasW (A ++ [i])) := by
  unfold bA bL
  congr 1
  apply List.ext_getElem?
  intro j
  rw [List.getElem?_set, List.getElem?_map, List.getElem?_map]
  have hh : hasW (A ++ [i]) j = (hasW A j || (j == i)) := by unfold hasW; rw [Bool.eq_iff_iff]; simp
  by_cases hij : i = j
  · subst hij
    rw [if_pos rfl]
    by_cases hj : i < 26
    · rw [if_pos (by simpa using hj), List.getElem?_range hj]
      simp [hh]
    · rw [if_neg (by simpa using hj), List.getElem?_eq_none (by simpa using hj)]
      rfl
  · rw [if_neg hij]
    by_cases hj : j < 26
    · rw [List.getElem?_range hj]
      have h2 : (j == i) = false := by rw [beq_eq_false_iff_ne]; exact fun h => hij h.symm
      simp [hh, h2]
    · rw [List.getElem?_eq_none (by simpa using hj)]
      rfl
theorem Bk.mark26 {w : World} {N : Nat} {A : List Nat} (h : Bk w N (bA (hasW A))) (i : Nat) : Bk (w.setCell ⟨N, i, none⟩ (.bool true)) N (bA (hasW (A ++ [i]))) := by
  rw [← bA_set]
  exact Bk.put h i _
theorem iniW_step (A : List Nat) (m : Nat) : iniW A ++ [⟨97 + (m : Int), 0⟩] = iniW (A ++ [m]) := by unfold iniW; rw [List.map_append]; rfl
theorem iniW_len (A : List Nat) : (iniW A).length = A.length := by unfold iniW; simp
theorem rowW_step (A : List Nat) (m : Nat) : rowW A ++ [insW m] = rowW (A ++ [m]) := by unfold rowW; rw [List.map_append]; rfl
theorem rowW_len (A : List Nat) : (rowW A).length = A.length := by unfold rowW; simp
theorem anyW_step (A : List Nat) (m : Nat) : anyW A ++ [[atmW m]] = anyW (A ++ [m]) := by unfold anyW; rw [List.map_append]; rfl
theorem anyW_len (A : List Nat) : (anyW A).length = A.length := by unfold anyW; simp
theorem hasW_app (A B : List Nat) (i : Nat) : hasW (A ++ B) i = (hasW A i || hasW B i) := by unfold hasW; rw [Bool.eq_iff_iff]; simp
theorem neA : (37 : TypeId) ≠ 32 := by decide
theorem neB : (40 : TypeId) ≠ 37 := by decide
theorem neC : (40 : TypeId) ≠ 32 := by decide
theorem neD : (40 : TypeId) ≠ 39 := by decide
theorem infoRowE : (Tryd.prog.info? 40).map (fun i => (i.zero, i.size, i.bytes)) = some (some (.slice none 0 0), 1, 24) := by kernel_rfl
theorem conv_own {w : World} {base : Nat} {e : TypeId} {a : Option Addr} {c : Nat} {l : List UInt8} (h : w.ownsRow base e 1 (.slice a l.length c) l.length (l.map byteV)) :
    (convert 22 9 (.slice a l.length c)).run Tryd.prog w = .ok (.string ⟨l.toArray⟩) w := by
  rcases h.2 with ⟨hv, h0⟩ | ⟨g, cap, cur, hv, _⟩
  · have hl : l = [] := List.eq_nil_of_length_eq_zero h0
    subst hl
    simp only [Value.slice.injEq] at hv
    obtain ⟨rfl, _, rfl⟩ := hv
    exact Lib.run_convert_nil_bytes w _ _ 5 0 Tryd.underlying22 Tryd.underlying5 Tryd.underlying9
  · simp only [Value.slice.injEq] at hv
    obtain ⟨rfl, _, rfl⟩ := hv
    refine run_convert_bytes_back (P := Tryd.prog) w _ _ 5 _ c l Tryd.underlying22 Tryd.underlying5 Tryd.underlying9 (fun j hj => ?_)
    obtain ⟨ad, had, hcell⟩ := byte_cells h (by omega)
    obtain rfl := Option.some.inj had
    exact hcell j hj
theorem low26 (b : UInt8) : ∃ m : Nat, m < 26 ∧ (b.toNat : Int) % 26 = (m : Int) ∧ Int.tmod (b.toNat : Int) 26 = (m : Int) := ⟨b.toNat % 26, by omega, by omega, by rw [Int.tmod_eq_emod_of_nonneg (by omega)]; omega⟩
set_option maxHeartbeats 16000000 in
set_option maxRecDepth 8000 in
theorem wellLocs_walk (aa : Option Addr) (za : List UInt8) (ca : Nat) (ab : Option Addr) (zb : List UInt8) (cb : Nat) (ac : Option Addr) (zc : List UInt8) (cc : Nat) (w : World) (_ : za.length ≤ 9223372036854775807) (ra : Rd byteC 1 w (.slice aa za.length ca) za) (_ : zb.length ≤ 9223372036854775807) (rb : Rd byteC 1 w (.slice ab zb.length cb) zb) (_ : zc.length ≤ 9223372036854775807) (rc : Rd byteC 1 w (.slice ac zc.length cc) zc) (hw : Lw w ∧ Db w) :
    Calls Tryd.prog 3 #[.slice aa za.length ca, .slice ab zb.length cb, .slice ac zc.length cc] w fun e w' => e = .returned (.bool true) ∧ On w w' := by
  obtain ⟨lw, hd⟩ := hw
  have RA : Hid (Rd byteC 1 w (.slice aa za.length ca) za) := ra
  have RB : Hid (Rd byteC 1 w (.slice ab zb.length cb) zb) := rb
  have RC : Hid (Rd byteC 1 w (.slice ac zc.length cc) zc) := rc
  obtain ⟨i2, hi2, x0, x1, x2⟩ := info_parts infoInit
  obtain ⟨i1, hi1, y0, y1, y2⟩ := info_parts infoIns
  obtain ⟨i3, hi3, u0, u1, u2⟩ := info_parts infoRowE
  obtain ⟨i4, hi4, v0, v1, v2⟩ := info_parts infoByte
  have hA := fun W (k : On w W) => awake5_is W (lw.on k) (hd.on k)
  clear ra rb rc
  go_enter Tryd.func3, Tryd.ntmps3
  have b26 : (#[.bool false, .bool false, .bool false, .bool false, .bool false, .bool false, .bool false, .bool false, .bool false, .bool false, .bool false, .bool false, .bool false, .bool false, .bool false, .bool false, .bool false, .bool false, .bool false, .bool false, .bool false, .bool false, .bool false, .bool false, .bool false, .bool false] : Array Value) = bA (hasW []) := by rfl
  have bN0 : ∀ cs T B C, Bk (((w.alloc (.cells cs T)).alloc B).alloc C) w.heap.size cs := fun cs T B C => ((Bk.new w cs T).alloc B).alloc C
  have bN1 : ∀ A cs T C, Bk (((w.alloc A).alloc (.cells cs T)).alloc C) (w.heap.size + 1) cs := fun A cs T C => by have := (Bk.new (w.alloc A) cs T).alloc C; rwa [World.size_alloc] at this
  have bN2 : ∀ A B T, Bk (((w.alloc A).alloc B).alloc (.cells #[.bool false, .bool false, .bool false, .bool false, .bool false, .bool false, .bool false, .bool false, .bool false, .bool false, .bool false, .bool false, .bool false, .bool false, .bool false, .bool false, .bool false, .bool false, .bool false, .bool false, .bool false, .bool false, .bool false, .bool false, .bool false, .bool false] T)) (w.heap.size + 1 + 1) (bA (hasW [])) := fun A B T => by have := Bk.new ((w.alloc A).alloc B) #[.bool false, .bool false, .bool false, .bool false, .bool false, .bool false, .bool false, .bool false, .bool false, .bool false, .bool false, .bool false, .bool false, .bool false, .bool false, .bool false, .bool false, .bool false, .bool false, .bool false, .bool false, .bool false, .bool false, .bool false, .bool false, .bool false] T; rw [World.size_alloc, World.size_alloc, b26] at this; rw [b26]; exact this
  have kN : ∀ A B C, On w (((w.alloc A).alloc B).alloc C) := fun A B C => (((On.refl w).alloc A).alloc B).alloc C
  clear b26
  go_upto_block 0 with fail
  go_cut [9] from 17 to 45 (fun u9 wc => ∃ (A : List Nat) (a : Option Addr) (c : Nat), Hid (∀ m ∈ A, m < 26) ∧ A.length ≤ 10 ∧ Hid (On w wc) ∧ Hid (Bk wc w.heap.size #[.slice none 0 0]) ∧ Bk wc (w.heap.size + 1) #[.string ⟨#[110]⟩, .slice a A.length c, .slice (some ⟨w.heap.size, 0, none⟩) 1 1, .int .i64 0, .slice none 0 0] ∧ Bk wc (w.heap.size + 1 + 1) (bA (hasW A)) ∧ Hid (wc.ownsRow (w.heap.size + 1 + 1 + 1) 32 2 (.slice a A.length c) A.length ((iniW A).flatMap iniC)))
  case first =>
    go_wp2_with fail
    go_loopg [9] 10 (fun gg s9 wq => ∃ (A : List Nat) (a : Option Addr) (c : Nat), gg = 10 - A.length ∧ s9 = .int .i64 (A.length : Int) ∧ Hid (∀ m ∈ A, m < 26) ∧ A.length ≤ 10 ∧ Hid (On w wq) ∧ Hid (Bk wq w.heap.size #[.slice none 0 0]) ∧ Bk wq (w.heap.size + 1) #[.string ⟨#[110]⟩, .slice a A.length c, .slice (some ⟨w.heap.size, 0, none⟩) 1 1, .int .i64 0, .slice none 0 0] ∧ Bk wq (w.heap.size + 1 + 1) (bA (hasW A)) ∧ Hid (wq.ownsRow (w.heap.size + 1 + 1 + 1) 32 2 (.slice a A.length c) A.length ((iniW A).flatMap iniC)))
    case atStart => exact ⟨[], none, 0, rfl, rfl, (fun m hm => (by cases hm) : ∀ m ∈ ([] : List Nat), m < 26), by decide, kN _ _ _, bN0 _ _ _ _, bN1 _ _ _ _, bN2 _ _ _, World.ownsRow_nil _ _ _ _⟩
    case round =>
      clear bN0 bN1 bN2 kN
      obtain ⟨A, a, c, hgg, rfl, HA, hA10, HO, B0, B1, B2, HI⟩ := hrel
      have l2 := B2.lt
      by_cases hgo : A.length < za.length ∧ A.length < 10
      · obtain ⟨hil, hi10⟩ := hgo
        obtain ⟨b, hb⟩ : ∃ b, za[A.length]? = some b := ⟨_, List.getElem?_eq_getElem hil⟩
        obtain ⟨gz, oz, rfl, hgz, hcell⟩ := RA.out.at hb
        have qz : ∀ W, On w W → W.cell? ⟨gz, oz + A.length, none⟩ = some (.int .u8 (b.toNat : Int)) := fun W k => (k.cell (p := ⟨gz, oz + A.length, none⟩) hgz).trans (by have := hcell 0 _ rfl; rwa [Nat.mul_one, Nat.add_zero] at this)
        have qz0 := qz wr HO.out
        obtain ⟨m, hm26, em, et⟩ := low26 b
        have ew1 : IntKind.u8.wrap (m : Int) = (m : Int) := by rw [IntKind.wrap_u8]; omega
        have ew2 : IntKind.i64.wrap (m : Int) = (m : Int) := by rw [IntKind.wrap_i64]; omega
        obtain ⟨lm, elm, ew3⟩ : ∃ lm : Int, 97 + (m : Int) = lm ∧ IntKind.i64.wrap lm = lm := ⟨_, rfl, by rw [IntKind.wrap_i64]; omega⟩
        have bi0 : (0 : Int) ≤ (A.length : Int) := by omega
        have bi1 : (A.length : Int) < (za.length : Int) := by omega
        have hS : ∀ W, On wr W → W.cell? ⟨w.heap.size + 1, 1, none⟩ = some (.slice a A.length c) ∧ W.cell? ⟨gz, oz + A.length, none⟩ = some (.int .u8 (b.toNat : Int)) := fun W k => ⟨(B1.on k).at (i := 1) rfl, qz W (HO.out.trans k)⟩
        have hS0 := B1.at (i := 1) rfl
        have kB : On wr (wr.drew.alloc (.cells #[.int .i64 lm, .int .i64 0] 32)) := (On.refl wr).drew.alloc _
        clear hcell hb
        go_wp2
        refine region_fin (fun W => W.cell? ⟨w.heap.size + 1, 1, none⟩ = some (.slice a A.length c) ∧ W.cell? ⟨gz, oz + A.length, none⟩ = some (.int .u8 (b.toNat : Int))) 13 14 (by kernel_rfl) rfl ?_
        refine fin_take 0 (v := ?_) rfl (by kernel_rfl) (by kernel_rfl) (by kernel_rfl) (by kernel_rfl) (fun _ _ _ h => h) rfl ?_ (hS _ (On.refl wr).drew) ?_
        rotate_left
        · intro W hW
          go_simp
          (try with_reducible rfl)
        simp only [Act.put, List.setIfInBounds_toArray, List.set_cons_zero, List.set_cons_succ]
        refine fin_take 1 (v := ?_) rfl (by kernel_rfl) (by kernel_rfl) (by kernel_rfl) (by kernel_rfl) (fun _ _ _ h => h) rfl ?_ (hS _ (On.refl wr).drew) ?_
        rotate_left
        · intro W hW
          go_simp
          (try with_reducible rfl)
        simp only [Act.put, List.setIfInBounds_toArray, List.set_cons_zero, List.set_cons_succ]
        refine fin_take 2 (v := ?_) rfl (by kernel_rfl) (by kernel_rfl) (by kernel_rfl) (by kernel_rfl) (fun _ _ _ h => h) rfl ?_ (hS _ (On.refl wr).drew) ?_
        rotate_left
        · intro W hW
          go_simp
          (try with_reducible rfl)
        simp only [Act.put, List.setIfInBounds_toArray, List.set_cons_zero, List.set_cons_succ]
        refine fin_take 3 (v := ?_) rfl (by kernel_rfl) (by kernel_rfl) (by kernel_rfl) (by kernel_rfl) (fun _ _ _ h => h) rfl ?_ (hS _ (On.refl wr).drew) ?_
        rotate_left
        · intro W hW
          go_simp
          (try with_reducible rfl)
        simp only [Act.put, List.setIfInBounds_toArray, List.set_cons_zero, List.set_cons_succ]
        refine fin_take 4 (v := ?_) rfl (by kernel_rfl) (by kernel_rfl) (by kernel_rfl) (by kernel_rfl) (fun _ _ _ h => h) rfl ?_ (hS _ (On.refl wr).drew) ?_
        rotate_left
        · intro W hW
          go_simp
          (try with_reducible rfl)
        simp only [Act.put, List.setIfInBounds_toArray, List.set_cons_zero, List.set_cons_succ]
        refine fin_take 5 (v := ?_) rfl (by kernel_rfl) (by kernel_rfl) (by kernel_rfl) (by kernel_rfl) (fun _ _ _ h => h) rfl ?_ (hS _ (On.refl wr).drew) ?_
        rotate_left
        · intro W hW
          go_simp
          (try with_reducible rfl)
        simp only [Act.put, List.setIfInBounds_toArray, List.set_cons_zero, List.set_cons_succ]
        refine fin_take 6 (v := ?_) rfl (by kernel_rfl) (by kernel_rfl) (by kernel_rfl) (by kernel_rfl) (fun _ _ _ h => h) rfl ?_ (hS _ (On.refl wr).drew) ?_
        rotate_left
        · intro W hW
          go_simp
          (try with_reducible rfl)
        simp only [Act.put, List.setIfInBounds_toArray, List.set_cons_zero, List.set_cons_succ]
        refine fin_take 7 (v := ?_) rfl (by kernel_rfl) (by kernel_rfl) (by kernel_rfl) (by kernel_rfl) (fun _ _ _ h => h) rfl ?_ (hS _ (On.refl wr).drew) ?_
        rotate_left
        · intro W hW
          go_simp
          (try with_reducible rfl)
        simp only [Act.put, List.setIfInBounds_toArray, List.set_cons_zero, List.set_cons_succ]
        refine fin_take 8 (v := ?_) rfl (by kernel_rfl) (by kernel_rfl) (by kernel_rfl) (by kernel_rfl) (fun _ _ _ h => h) rfl ?_ (hS _ (On.refl wr).drew) ?_
        rotate_left
        · intro W hW
          go_simp
          (try with_reducible rfl)
        simp only [Act.put, List.setIfInBounds_toArray, List.set_cons_zero, List.set_cons_succ]
        refine fin_take 9 (v := ?_) rfl (by kernel_rfl) (by kernel_rfl) (by kernel_rfl) (by kernel_rfl) (fun _ _ _ h => h) rfl ?_ (hS _ (On.refl wr).drew) ?_
        rotate_left
        · intro W hW
          go_simp
          (try with_reducible rfl)
        simp only [Act.put, List.setIfInBounds_toArray, List.set_cons_zero, List.set_cons_succ]
        refine fin_one 10 rfl rfl (by kernel_rfl) (fun K hK => ?_)
        go_simp
        refine hK.out _ _ (fun _ => hS _ kB) ?_
        clear hK
        have own4 := own_on HI.out kB
        refine fin_one 11 rfl rfl (by kernel_rfl) (fun K hK => ?_)
        refine wp_append_own _ (.tmp 28) (.tmp 37) 24 rfl (w.heap.size + 1 + 1 + 1) 32 i2 (.agg #[.int .i64 0, .int .i64 0]) 2 16 Tryd.underlying24 hi2 x0 x1 x2 rfl (by decide) (.slice a A.length c) A.length ((iniW A).flatMap iniC) rfl own4 ⟨wr.heap.size, 0, none⟩ 1 1 (iniC ⟨lm, 0⟩) rfl rfl (news_at wr.drew _ _) (one_ini _ _) (by unfold maxLen; omega) (by omega) (Nat.le_trans (show _ ≤ wr.heap.size by omega) kB.size) ?_
        intro v' w5 hown5 hg5 _
        obtain ⟨a5, c5, rfl⟩ := own_slice hown5
        have blk : ∀ g, (Value.slice a A.length c).ownBlock = some g → w.heap.size + 1 + 1 + 1 ≤ g := fun g hg => (HI.out.lt g hg).1
        have P1 : Bk w5 (w.heap.size + 1) _ := (B1.on kB).grown hg5 (by omega) blk
        have P0 : Hid (Bk w5 w.heap.size _) := (B0.out.on kB).grown hg5 (by omega) blk
        have P2 : Bk w5 (w.heap.size + 1 + 1) _ := (B2.on kB).grown hg5 (by omega) blk
        have O5 : Hid (On w w5) := (HO.out.trans kB).grown hg5 (fun g hg => by have := blk g hg; omega)
        have W5 : Hid (w5.ownsRow (w.heap.size + 1 + 1 + 1) 32 2 (.slice a5 (A.length + 1) c5) (A.length + 1) ((iniW (A ++ [m])).flatMap iniC)) := by
          show World.ownsRow _ _ _ _ _ _ _
          rw [← iniW_step, List.flatMap_append, elm]
          exact hown5
        have qz5 := qz w5 O5.out
        have qz6 := qz _ (O5.out.setNew (N := w.heap.size + 1) (i := 1) (by omega) (.slice a5 (A.length + 1) c5))
        have s5 := P1.at (i := 1) rfl
        have f5 := fun j => P1.fr j
        have t5 := P2.at (bA_at (hasW A) hm26)
        have g5 := P2.fr m
        refine hK.out _ _ (fun _ => ⟨s5, qz5⟩) ?_
        simp only [Act.put, List.setIfInBounds_toArray, List.set_cons_zero, List.set_cons_succ]
        clear hK own4 hown5 hg5
        refine fin_take 12 (v := ?_) rfl (by kernel_rfl) (by kernel_rfl) (by kernel_rfl) (by kernel_rfl) (fun _ _ _ h => h) rfl ?_ ⟨s5, qz5⟩ ?_
        rotate_left
        · intro W hW
          go_simp
          (try with_reducible rfl)
        simp only [Act.put, List.setIfInBounds_toArray, List.set_cons_zero, List.set_cons_succ]
        refine fin_one 13 rfl rfl (by kernel_rfl) (fun K hK => ?_)
        go_simp
        refine hK.out _ _ (fun h => absurd rfl h) ?_
        refine fin_done (by kernel_rfl) (NoPanic.normal ?_)
        go_wp2
        have eL : (A ++ [m]).length = A.length + 1 := by simp
        go_roundg (10 - (A.length + 1))
        case measure => omega
        case rel =>
          refine ⟨A ++ [m], a5, c5, by rw [eL], by rw [eL]; go_num, ?_, by omega, (O5.out.setNew (by omega) _).setNew (by omega) _, Bk.far (Bk.far P0.out (by omega) _ _) (by omega) _ _, ?_, (P2.far (by omega) _ _).mark26 m, ?_⟩
          · intro x hx
            rcases List.mem_append.1 hx with hx | hx
            · exact HA.out x hx
            · rw [List.mem_singleton] at hx; omega
          · rw [eL]
            exact (Bk.puts [.slice a5 (A.length + 1) c5] w5 [.string ⟨#[110]⟩, .slice a A.length c, .slice (some ⟨w.heap.size, 0, none⟩) 1 1, .int .i64 0, .slice none 0 0] 1 P1).far (by omega) _ _
          · show World.ownsRow _ _ _ _ _ _ _
            rw [eL]
            exact own_set (own_set W5.out (by omega) _ _) (by omega) _ _
      · have hst : ¬ A.length < za.length ∨ (A.length < za.length ∧ ¬ A.length < 10) := by omega
        rcases hst with h1 | ⟨h1, h2⟩
        · go_wp2
          go_meet
          case rel => exact ⟨A, a, c, HA, hA10, HO, B0, B1, B2, HI⟩
        · go_wp2
          go_meet
          case rel => exact ⟨A, a, c, HA, hA10, HO, B0, B1, B2, HI⟩
  case rest =>
    clear bN0 bN1 bN2 kN
    obtain ⟨A, a, c, HA, hA10, HO, B0, B1, B2, HI⟩ := hcut
    obtain ⟨V, hV⟩ : ∃ V, V = wc := ⟨_, rfl⟩
    subst hV
    have HAB : Hid (Bk V (w.heap.size + 1 + 1) (bA (hasW (A ++ [])))) := by show Bk _ _ _; rw [List.append_nil]; exact B2
    clear B2
    go_upto_block 2 with fail
    go_cut [10] from 46 to 78 (fun u10 wc => ∃ (B : List Nat) (ar : Option Addr) (cr : Nat), Hid (∀ m ∈ B, m < 26) ∧ B.length ≤ 10 ∧ Hid (On w wc) ∧ Hid (Bk wc w.heap.size #[.slice ar B.length cr]) ∧ Bk wc (w.heap.size + 1) #[.string ⟨#[110]⟩, .slice a A.length c, .slice (some ⟨w.heap.size, 0, none⟩) 1 1, .int .i64 0, .slice none 0 0] ∧ Hid (Bk wc (w.heap.size + 1 + 1) (bA (hasW (A ++ B)))) ∧ Hid (wc.ownsRow (w.heap.size + 1 + 1 + 1) 32 2 (.slice a A.length c) A.length ((iniW A).flatMap iniC)) ∧ Hid (wc.ownsRow (w.heap.size + 1 + 1 + 1) 37 9 (.slice ar B.length cr) B.length ((rowW B).flatMap insC)))
    case first =>
      go_wp2_with fail
      go_loopg [10] 10 (fun gg s10 wq => ∃ (B : List Nat) (ar : Option Addr) (cr : Nat), gg = 10 - B.length ∧ s10 = .int .i64 (B.length : Int) ∧ Hid (∀ m ∈ B, m < 26) ∧ B.length ≤ 10 ∧ Hid (On w wq) ∧ Hid (Bk wq w.heap.size #[.slice ar B.length cr]) ∧ Bk wq (w.heap.size + 1) #[.string ⟨#[110]⟩, .slice a A.length c, .slice (some ⟨w.heap.size, 0, none⟩) 1 1, .int .i64 0, .slice none 0 0] ∧ Hid (Bk wq (w.heap.size + 1 + 1) (bA (hasW (A ++ B)))) ∧ Hid (wq.ownsRow (w.heap.size + 1 + 1 + 1) 32 2 (.slice a A.length c) A.length ((iniW A).flatMap iniC)) ∧ Hid (wq.ownsRow (w.heap.size + 1 + 1 + 1) 37 9 (.slice ar B.length cr) B.length ((rowW B).flatMap insC)))
      case atStart => exact ⟨[], none, 0, rfl, rfl, (fun m hm => (by cases hm) : ∀ m ∈ ([] : List Nat), m < 26), by decide, HO, B0, B1, HAB, HI, World.ownsRow_nil _ _ _ _⟩
      case round =>
        clear HAB HO B0 B1 HI
        obtain ⟨B, ar, cr, hgg, rfl, HB, hB10, HO, B0, B1, B2, HI, HRow⟩ := hrel
        have l2 := B2.out.lt
        by_cases hgo : B.length < zb.length ∧ B.length < 10
        · obtain ⟨hil, hi10⟩ := hgo
          obtain ⟨b, hb⟩ : ∃ b, zb[B.length]? = some b := ⟨_, List.getElem?_eq_getElem hil⟩
          obtain ⟨gz, oz, rfl, hgz, hcell⟩ := RB.out.at hb
          have qz : ∀ W, On w W → W.cell? ⟨gz, oz + B.length, none⟩ = some (.int .u8 (b.toNat : Int)) := fun W k => (k.cell (p := ⟨gz, oz + B.length, none⟩) hgz).trans (by have := hcell 0 _ rfl; rwa [Nat.mul_one, Nat.add_zero] at this)
          have qz0 := qz wr HO.out
          obtain ⟨m, hm26, em, et⟩ := low26 b
          have ew1 : IntKind.u8.wrap (m : Int) = (m : Int) := by rw [IntKind.wrap_u8]; omega
          have ew2 : IntKind.i64.wrap (m : Int) = (m : Int) := by rw [IntKind.wrap_i64]; omega
          obtain ⟨lm, elm, ew3⟩ : ∃ lm : Int, 97 + (m : Int) = lm ∧ IntKind.i64.wrap lm = lm := ⟨_, rfl, by rw [IntKind.wrap_i64]; omega⟩
          have bi0 : (0 : Int) ≤ (B.length : Int) := by omega
          have bi1 : (B.length : Int) < (zb.length : Int) := by omega
          have hS : ∀ W, On wr W → W.cell? ⟨w.heap.size + 1, 2, none⟩ = some (.slice (some ⟨w.heap.size, 0, none⟩) 1 1) ∧ W.cell? ⟨w.heap.size, 0, none⟩ = some (.slice ar B.length cr) ∧ W.cell? ⟨gz, oz + B.length, none⟩ = some (.int .u8 (b.toNat : Int)) := fun W k => ⟨(B1.on k).at (i := 2) rfl, (B0.out.on k).at (i := 0) rfl, qz W (HO.out.trans k)⟩
          have hS1 := B1.at (i := 2) rfl
          have hS2 := B0.out.at (i := 0) rfl
          have kB : On wr (wr.drew.alloc (.cells #[.int .i64 2, .int .i64 0, .int .i64 lm, .int .i64 0, .int .i64 0, .int .i64 0, .int .i64 0, .int .i64 0, .int .i64 0] 37)) := (On.refl wr).drew.alloc _
          clear hcell hb
          go_wp2
          refine region_fin (fun W => W.cell? ⟨w.heap.size + 1, 2, none⟩ = some (.slice (some ⟨w.heap.size, 0, none⟩) 1 1) ∧ W.cell? ⟨w.heap.size, 0, none⟩ = some (.slice ar B.length cr) ∧ W.cell? ⟨gz, oz + B.length, none⟩ = some (.int .u8 (b.toNat : Int))) 17 18 (by kernel_rfl) rfl ?_
          refine fin_take 0 (v := ?_) rfl (by kernel_rfl) (by kernel_rfl) (by kernel_rfl) (by kernel_rfl) (fun _ _ _ h => h) rfl ?_ (hS _ (On.refl wr).drew) ?_
          rotate_left
          · intro W hW
            go_simp
            (try with_reducible rfl)
          simp only [Act.put, List.setIfInBounds_toArray, List.set_cons_zero, List.set_cons_succ]
          refine fin_take 1 (v := ?_) rfl (by kernel_rfl) (by kernel_rfl) (by kernel_rfl) (by kernel_rfl) (fun _ _ _ h => h) rfl ?_ (hS _ (On.refl wr).drew) ?_
          rotate_left
          · intro W hW
            go_simp
            (try with_reducible rfl)
          simp only [Act.put, List.setIfInBounds_toArray, List.set_cons_zero, List.set_cons_succ]
          refine fin_take 2 (v := ?_) rfl (by kernel_rfl) (by kernel_rfl) (by kernel_rfl) (by kernel_rfl) (fun _ _ _ h => h) rfl ?_ (hS _ (On.refl wr).drew) ?_
          rotate_left
          · intro W hW
            go_simp
            (try with_reducible rfl)
          simp only [Act.put, List.setIfInBounds_toArray, List.set_cons_zero, List.set_cons_succ]
          refine fin_take 3 (v := ?_) rfl (by kernel_rfl) (by kernel_rfl) (by kernel_rfl) (by kernel_rfl) (fun _ _ _ h => h) rfl ?_ (hS _ (On.refl wr).drew) ?_
          rotate_left
          · intro W hW
            go_simp
            (try with_reducible rfl)
          simp only [Act.put, List.setIfInBounds_toArray, List.set_cons_zero, List.set_cons_succ]
          refine fin_take 4 (v := ?_) rfl (by kernel_rfl) (by kernel_rfl) (by kernel_rfl) (by kernel_rfl) (fun _ _ _ h => h) rfl ?_ (hS _ (On.refl wr).drew) ?_
          rotate_left
          · intro W hW
            go_simp
            (try with_reducible rfl)
          simp only [Act.put, List.setIfInBounds_toArray, List.set_cons_zero, List.set_cons_succ]
          refine fin_take 5 (v := ?_) rfl (by kernel_rfl) (by kernel_rfl) (by kernel_rfl) (by kernel_rfl) (fun _ _ _ h => h) rfl ?_ (hS _ (On.refl wr).drew) ?_
          rotate_left
          · intro W hW
            go_simp
            (try with_reducible rfl)
          simp only [Act.put, List.setIfInBounds_toArray, List.set_cons_zero, List.set_cons_succ]
          refine fin_take 6 (v := ?_) rfl (by kernel_rfl) (by kernel_rfl) (by kernel_rfl) (by kernel_rfl) (fun _ _ _ h => h) rfl ?_ (hS _ (On.refl wr).drew) ?_
          rotate_left
          · intro W hW
            go_simp
            (try with_reducible rfl)
          simp only [Act.put, List.setIfInBounds_toArray, List.set_cons_zero, List.set_cons_succ]
          refine fin_take 7 (v := ?_) rfl (by kernel_rfl) (by kernel_rfl) (by kernel_rfl) (by kernel_rfl) (fun _ _ _ h => h) rfl ?_ (hS _ (On.refl wr).drew) ?_
          rotate_left
          · intro W hW
            go_simp
            (try with_reducible rfl)
          simp only [Act.put, List.setIfInBounds_toArray, List.set_cons_zero, List.set_cons_succ]
          refine fin_take 8 (v := ?_) rfl (by kernel_rfl) (by kernel_rfl) (by kernel_rfl) (by kernel_rfl) (fun _ _ _ h => h) rfl ?_ (hS _ (On.refl wr).drew) ?_
          rotate_left
          · intro W hW
            go_simp
            (try with_reducible rfl)
          simp only [Act.put, List.setIfInBounds_toArray, List.set_cons_zero, List.set_cons_succ]
          refine fin_take 9 (v := ?_) rfl (by kernel_rfl) (by kernel_rfl) (by kernel_rfl) (by kernel_rfl) (fun _ _ _ h => h) rfl ?_ (hS _ (On.refl wr).drew) ?_
          rotate_left
          · intro W hW
            go_simp
            (try with_reducible rfl)
          simp only [Act.put, List.setIfInBounds_toArray, List.set_cons_zero, List.set_cons_succ]
          refine fin_take 10 (v := ?_) rfl (by kernel_rfl) (by kernel_rfl) (by kernel_rfl) (by kernel_rfl) (fun _ _ _ h => h) rfl ?_ (hS _ (On.refl wr).drew) ?_
          rotate_left
          · intro W hW
            go_simp
            (try with_reducible rfl)
          simp only [Act.put, List.setIfInBounds_toArray, List.set_cons_zero, List.set_cons_succ]
          refine fin_take 11 (v := ?_) rfl (by kernel_rfl) (by kernel_rfl) (by kernel_rfl) (by kernel_rfl) (fun _ _ _ h => h) rfl ?_ (hS _ (On.refl wr).drew) ?_
          rotate_left
          · intro W hW
            go_simp
            (try with_reducible rfl)
          simp only [Act.put, List.setIfInBounds_toArray, List.set_cons_zero, List.set_cons_succ]
          refine fin_take 12 (v := ?_) rfl (by kernel_rfl) (by kernel_rfl) (by kernel_rfl) (by kernel_rfl) (fun _ _ _ h => h) rfl ?_ (hS _ (On.refl wr).drew) ?_
          rotate_left
          · intro W hW
            go_simp
            (try with_reducible rfl)
          simp only [Act.put, List.setIfInBounds_toArray, List.set_cons_zero, List.set_cons_succ]
          refine fin_take 13 (v := ?_) rfl (by kernel_rfl) (by kernel_rfl) (by kernel_rfl) (by kernel_rfl) (fun _ _ _ h => h) rfl ?_ (hS _ (On.refl wr).drew) ?_
          rotate_left
          · intro W hW
            go_simp
            (try with_reducible rfl)
          simp only [Act.put, List.setIfInBounds_toArray, List.set_cons_zero, List.set_cons_succ]
          refine fin_one 14 rfl rfl (by kernel_rfl) (fun K hK => ?_)
          go_simp
          refine hK.out _ _ (fun _ => hS _ kB) ?_
          clear hK
          have own4 := own_on HRow.out kB
          refine fin_one 15 rfl rfl (by kernel_rfl) (fun K hK => ?_)
          refine wp_append_own _ (.tmp 61) (.tmp 70) 33 rfl (w.heap.size + 1 + 1 + 1) 37 i1 zIns 9 72 Tryd.underlying33 hi1 y0 y1 y2 rfl (by decide) (.slice ar B.length cr) B.length ((rowW B).flatMap insC) rfl own4 ⟨wr.heap.size, 0, none⟩ 1 1 (insC ⟨2, 0, lm, ⟨0, 0⟩, 0, ⟨0, 0⟩, 0⟩) rfl rfl (news_at wr.drew _ _) (one_ins _) (by unfold maxLen; omega) (by omega) (Nat.le_trans (show _ ≤ wr.heap.size by omega) kB.size) ?_
          intro v' w5 hown5 hg5 _
          obtain ⟨a5, c5, rfl⟩ := own_slice hown5
          have blk : ∀ g, (Value.slice ar B.length cr).ownBlock = some g → w.heap.size + 1 + 1 + 1 ≤ g := fun g hg => (HRow.out.lt g hg).1
          have P1 : Bk w5 (w.heap.size + 1) _ := (B1.on kB).grown hg5 (by omega) blk
          have P0 : Bk w5 w.heap.size _ := (B0.out.on kB).grown hg5 (by omega) blk
          have P2 : Bk w5 (w.heap.size + 1 + 1) _ := (B2.out.on kB).grown hg5 (by omega) blk
          have O5 : Hid (On w w5) := (HO.out.trans kB).grown hg5 (fun g hg => by have := blk g hg; omega)
          have I5 : Hid _ := own_far (own_on HI.out kB) own4 neA hg5
          have W5 : Hid (w5.ownsRow (w.heap.size + 1 + 1 + 1) 37 9 (.slice a5 (B.length + 1) c5) (B.length + 1) ((rowW (B ++ [m])).flatMap insC)) := by
            show World.ownsRow _ _ _ _ _ _ _
            rw [← rowW_step, List.flatMap_append]
            unfold insW
            rw [elm]
            exact hown5
          have qz5 := qz w5 O5.out
          have qz6 := qz _ (O5.out.setNew (N := w.heap.size) (i := 0) (Nat.le_refl _) (.slice a5 (B.length + 1) c5))
          have s5 := P1.at (i := 2) rfl
          have s6 := P0.at (i := 0) rfl
          have f6 := fun j => P0.fr j
          have t5 := P2.at (bA_at (hasW (A ++ B)) hm26)
          have g5 := P2.fr m
          refine hK.out _ _ (fun _ => ⟨s5, s6, qz5⟩) ?_
          simp only [Act.put, List.setIfInBounds_toArray, List.set_cons_zero, List.set_cons_succ]
          clear hK own4 hown5 hg5
          refine fin_take 16 (v := ?_) rfl (by kernel_rfl) (by kernel_rfl) (by kernel_rfl) (by kernel_rfl) (fun _ _ _ h => h) rfl ?_ ⟨s5, s6, qz5⟩ ?_
          rotate_left
          · intro W hW
            go_simp
            (try with_reducible rfl)
          simp only [Act.put, List.setIfInBounds_toArray, List.set_cons_zero, List.set_cons_succ]
          refine fin_one 17 rfl rfl (by kernel_rfl) (fun K hK => ?_)
          go_simp
          refine hK.out _ _ (fun h => absurd rfl h) ?_
          refine fin_done (by kernel_rfl) (NoPanic.normal ?_)
          go_wp2
          have eL : (B ++ [m]).length = B.length + 1 := by simp
          have eA : A ++ (B ++ [m]) = (A ++ B) ++ [m] := (List.append_assoc _ _ _).symm
          go_roundg (10 - (B.length + 1))
          case measure => omega
          case rel =>
            refine ⟨B ++ [m], a5, c5, by rw [eL], by rw [eL]; go_num, ?_, by omega, (O5.out.setNew (by omega) _).setNew (by omega) _, ?_, (P1.far (by omega) _ _).far (by omega) _ _, ?_, own_set (own_set I5.out (by omega) _ _) (by omega) _ _, ?_⟩
            · intro x hx
              rcases List.mem_append.1 hx with hx | hx
              · exact HB.out x hx
              · rw [List.mem_singleton] at hx; omega
            · show Bk _ _ _
              rw [eL]
              exact (Bk.puts [.slice a5 (B.length + 1) c5] w5 [.slice ar B.length cr] 0 P0).far (by omega) _ _
            · show Bk _ _ _
              rw [eA]
              exact (P2.far (by omega) _ _).mark26 m
            · show World.ownsRow _ _ _ _ _ _ _
              rw [eL]
              exact own_set (own_set W5.out (by omega) _ _) (by omega) _ _
        · have hst : ¬ B.length < zb.length ∨ (B.length < zb.length ∧ ¬ B.length < 10) := by omega
          rcases hst with h1 | ⟨h1, h2⟩
          · go_wp2
            go_meet
            case rel => exact ⟨B, ar, cr, HB, hB10, HO, B0, B1, B2, HI, HRow⟩
          · go_wp2
            go_meet
            case rel => exact ⟨B, ar, cr, HB, hB10, HO, B0, B1, B2, HI, HRow⟩
    case rest =>
      clear HAB B0 B1 HO HI
      obtain ⟨B, ar, cr, HB, hB10, HO, B0, B1, B2, HI, HRow⟩ := hcut
      obtain ⟨V2, hV2⟩ : ∃ V, V = wc := ⟨_, rfl⟩
      subst hV2
      have HABC : Hid (Bk V2 (w.heap.size + 1 + 1) (bA (hasW (A ++ B ++ [])))) := by show Bk _ _ _; rw [List.append_nil]; exact B2.out
      clear B2
      go_upto_block 4 with fail
      go_cut [11] from 79 to 112 (fun u11 wc => ∃ (C : List Nat) (a3 : Option Addr) (c3 : Nat), Hid (∀ m ∈ C, m < 26) ∧ C.length ≤ 8 ∧ Hid (On w wc) ∧ Hid (Bk wc w.heap.size #[.slice ar B.length cr]) ∧ Bk wc (w.heap.size + 1) #[.string ⟨#[110]⟩, .slice a A.length c, .slice (some ⟨w.heap.size, 0, none⟩) 1 1, .int .i64 (condW C).k, .slice a3 C.length c3] ∧ Hid (Bk wc (w.heap.size + 1 + 1) (bA (hasW (A ++ B ++ C)))) ∧ Hid (wc.ownsRow (w.heap.size + 1 + 1 + 1) 32 2 (.slice a A.length c) A.length ((iniW A).flatMap iniC)) ∧ Hid (wc.ownsRow (w.heap.size + 1 + 1 + 1) 37 9 (.slice ar B.length cr) B.length ((rowW B).flatMap insC)) ∧ Hid (Own2 atomC 4 40 39 wc (w.heap.size + 1 + 1 + 1) (.slice a3 C.length c3) (anyW C)))
      case first =>
        go_wp2_with fail
        go_loopg [11] 8 (fun gg s11 wq => ∃ (C : List Nat) (a3 : Option Addr) (c3 : Nat), gg = 8 - C.length ∧ s11 = .int .i64 (C.length : Int) ∧ Hid (∀ m ∈ C, m < 26) ∧ C.length ≤ 8 ∧ Hid (On w wq) ∧ Hid (Bk wq w.heap.size #[.slice ar B.length cr]) ∧ Bk wq (w.heap.size + 1) #[.string ⟨#[110]⟩, .slice a A.length c, .slice (some ⟨w.heap.size, 0, none⟩) 1 1, .int .i64 (condW C).k, .slice a3 C.length c3] ∧ Hid (Bk wq (w.heap.size + 1 + 1) (bA (hasW (A ++ B ++ C)))) ∧ Hid (wq.ownsRow (w.heap.size + 1 + 1 + 1) 32 2 (.slice a A.length c) A.length ((iniW A).flatMap iniC)) ∧ Hid (wq.ownsRow (w.heap.size + 1 + 1 + 1) 37 9 (.slice ar B.length cr) B.length ((rowW B).flatMap insC)) ∧ Hid (Own2 atomC 4 40 39 wq (w.heap.size + 1 + 1 + 1) (.slice a3 C.length c3) (anyW C)))
        case atStart => exact ⟨[], none, 0, rfl, rfl, (fun m hm => (by cases hm) : ∀ m ∈ ([] : List Nat), m < 26), by decide, HO, B0, B1, HABC, HI, HRow, Own2.nil _ _ _ _ _ _⟩
        case round =>
          clear HABC HO B0 B1 HI HRow
          obtain ⟨C, a3, c3, hgg, rfl, HC, hC8, HO, B0, B1, B2, HI, HRow, HQ⟩ := hrel
          have l2 := B2.out.lt
          by_cases hgo : C.length < zc.length ∧ C.length < 8
          · obtain ⟨hil, hi10⟩ := hgo
            obtain ⟨b, hb⟩ : ∃ b, zc[C.length]? = some b := ⟨_, List.getElem?_eq_getElem hil⟩
            obtain ⟨gz, oz, rfl, hgz, hcell⟩ := RC.out.at hb
            have qz : ∀ W, On w W → W.cell? ⟨gz, oz + C.length, none⟩ = some (.int .u8 (b.toNat : Int)) := fun W k => (k.cell (p := ⟨gz, oz + C.length, none⟩) hgz).trans (by have := hcell 0 _ rfl; rwa [Nat.mul_one, Nat.add_zero] at this)
            obtain ⟨m, hm26, em, et⟩ := low26 b
            have ew1 : IntKind.u8.wrap (m : Int) = (m : Int) := by rw [IntKind.wrap_u8]; omega
            have ew2 : IntKind.i64.wrap (m : Int) = (m : Int) := by rw [IntKind.wrap_i64]; omega
            obtain ⟨lm, elm, ew3⟩ : ∃ lm : Int, 97 + (m : Int) = lm ∧ IntKind.i64.wrap lm = lm := ⟨_, rfl, by rw [IntKind.wrap_i64]; omega⟩
            have bi0 : (0 : Int) ≤ (C.length : Int) := by omega
            have bi1 : (C.length : Int) < (zc.length : Int) := by omega
            have k3c := B1.at (i := 3) rfl
            have k3f := fun j => B1.fr j
            obtain ⟨W3, hW3⟩ : ∃ W3, W3 = wr.setCell ⟨w.heap.size + 1, 3, none⟩ (.int .i64 1) := ⟨_, rfl⟩
            have Q1 : Bk W3 (w.heap.size + 1) #[.string ⟨#[110]⟩, .slice a A.length c, .slice (some ⟨w.heap.size, 0, none⟩) 1 1, .int .i64 1, .slice a3 C.length c3] := by rw [hW3]; exact Bk.puts [.int .i64 1] wr [.string ⟨#[110]⟩, .slice a A.length c, .slice (some ⟨w.heap.size, 0, none⟩) 1 1, .int .i64 (condW C).k, .slice a3 C.length c3] 3 B1
            have Q0 : Hid (Bk W3 w.heap.size #[.slice ar B.length cr]) := by show Bk _ _ _; rw [hW3]; exact Bk.far B0.out (by omega) _ _
            have Q2 : Hid (Bk W3 (w.heap.size + 1 + 1) (bA (hasW (A ++ B ++ C)))) := by show Bk _ _ _; rw [hW3]; exact Bk.far B2.out (by omega) _ _
            have QO : Hid (On w W3) := by show On w W3; rw [hW3]; exact HO.out.setNew (by omega) _
            have QI : Hid (W3.ownsRow (w.heap.size + 1 + 1 + 1) 32 2 (.slice a A.length c) A.length ((iniW A).flatMap iniC)) := by show World.ownsRow _ _ _ _ _ _ _; rw [hW3]; exact own_set HI.out (by omega) _ _
            have QR : Hid (W3.ownsRow (w.heap.size + 1 + 1 + 1) 37 9 (.slice ar B.length cr) B.length ((rowW B).flatMap insC)) := by show World.ownsRow _ _ _ _ _ _ _; rw [hW3]; exact own_set HRow.out (by omega) _ _
            have QQ : Hid (Own2 atomC 4 40 39 W3 (w.heap.size + 1 + 1 + 1) (.slice a3 C.length c3) (anyW C)) := by show Own2 _ _ _ _ _ _ _ _; rw [hW3]; exact Own2.set HQ.out (by omega) _ _
            have l3 : w.heap.size + 1 + 1 < W3.heap.size := by rw [hW3, size_set]; exact l2
            have hS : ∀ W, On W3 W → W.cell? ⟨w.heap.size + 1, 4, none⟩ = some (.slice a3 C.length c3) ∧ W.cell? ⟨gz, oz + C.length, none⟩ = some (.int .u8 (b.toNat : Int)) := fun W k => ⟨(Q1.on k).at (i := 4) rfl, qz W (QO.out.trans k)⟩
            obtain ⟨hS1, hS2⟩ := hS W3 (On.refl W3)
            have kA : On W3 (W3.drew.alloc (.cells #[.int .i64 (-1), .int .i64 0, .int .i64 lm, .int .i64 0] 39)) := (On.refl W3).drew.alloc _
            have kB : On W3 ((W3.drew.alloc (.cells #[.int .i64 (-1), .int .i64 0, .int .i64 lm, .int .i64 0] 39)).alloc (.cells #[.slice (some ⟨W3.heap.size, 0, none⟩) 1 1] 40)) := kA.alloc _
            clear hcell hb
            go_wp2
            rw [← hW3]
            clear hW3 k3c k3f B0 B1 B2 HI HRow HQ
            refine region_fin (fun W => W.cell? ⟨w.heap.size + 1, 4, none⟩ = some (.slice a3 C.length c3) ∧ W.cell? ⟨gz, oz + C.length, none⟩ = some (.int .u8 (b.toNat : Int))) 16 17 (by kernel_rfl) rfl ?_
            refine fin_take 0 (v := ?_) rfl (by kernel_rfl) (by kernel_rfl) (by kernel_rfl) (by kernel_rfl) (fun _ _ _ h => h) rfl ?_ (hS _ (On.refl W3).drew) ?_
            rotate_left
            · intro W hW
              go_simp
              (try with_reducible rfl)
            simp only [Act.put, List.setIfInBounds_toArray, List.set_cons_zero, List.set_cons_succ]
            refine fin_take 1 (v := ?_) rfl (by kernel_rfl) (by kernel_rfl) (by kernel_rfl) (by kernel_rfl) (fun _ _ _ h => h) rfl ?_ (hS _ (On.refl W3).drew) ?_
            rotate_left
            · intro W hW
              go_simp
              (try with_reducible rfl)
            simp only [Act.put, List.setIfInBounds_toArray, List.set_cons_zero, List.set_cons_succ]
            refine fin_take 2 (v := ?_) rfl (by kernel_rfl) (by kernel_rfl) (by kernel_rfl) (by kernel_rfl) (fun _ _ _ h => h) rfl ?_ (hS _ (On.refl W3).drew) ?_
            rotate_left
            · intro W hW
              go_simp
              (try with_reducible rfl)
            simp only [Act.put, List.setIfInBounds_toArray, List.set_cons_zero, List.set_cons_succ]
            refine fin_take 3 (v := ?_) rfl (by kernel_rfl) (by kernel_rfl) (by kernel_rfl) (by kernel_rfl) (fun _ _ _ h => h) rfl ?_ (hS _ (On.refl W3).drew) ?_
            rotate_left
            · intro W hW
              go_simp
              (try with_reducible rfl)
            simp only [Act.put, List.setIfInBounds_toArray, List.set_cons_zero, List.set_cons_succ]
            refine fin_take 4 (v := ?_) rfl (by kernel_rfl) (by kernel_rfl) (by kernel_rfl) (by kernel_rfl) (fun _ _ _ h => h) rfl ?_ (hS _ (On.refl W3).drew) ?_
            rotate_left
            · intro W hW
              go_simp
              (try with_reducible rfl)
            simp only [Act.put, List.setIfInBounds_toArray, List.set_cons_zero, List.set_cons_succ]
            refine fin_take 5 (v := ?_) rfl (by kernel_rfl) (by kernel_rfl) (by kernel_rfl) (by kernel_rfl) (fun _ _ _ h => h) rfl ?_ (hS _ (On.refl W3).drew) ?_
            rotate_left
            · intro W hW
              go_simp
              (try with_reducible rfl)
            simp only [Act.put, List.setIfInBounds_toArray, List.set_cons_zero, List.set_cons_succ]
            refine fin_take 6 (v := ?_) rfl (by kernel_rfl) (by kernel_rfl) (by kernel_rfl) (by kernel_rfl) (fun _ _ _ h => h) rfl ?_ (hS _ (On.refl W3).drew) ?_
            rotate_left
            · intro W hW
              go_simp
              (try with_reducible rfl)
            simp only [Act.put, List.setIfInBounds_toArray, List.set_cons_zero, List.set_cons_succ]
            refine fin_take 7 (v := ?_) rfl (by kernel_rfl) (by kernel_rfl) (by kernel_rfl) (by kernel_rfl) (fun _ _ _ h => h) rfl ?_ (hS _ (On.refl W3).drew) ?_
            rotate_left
            · intro W hW
              go_simp
              (try with_reducible rfl)
            simp only [Act.put, List.setIfInBounds_toArray, List.set_cons_zero, List.set_cons_succ]
            refine fin_take 8 (v := ?_) rfl (by kernel_rfl) (by kernel_rfl) (by kernel_rfl) (by kernel_rfl) (fun _ _ _ h => h) rfl ?_ (hS _ (On.refl W3).drew) ?_
            rotate_left
            · intro W hW
              go_simp
              (try with_reducible rfl)
            simp only [Act.put, List.setIfInBounds_toArray, List.set_cons_zero, List.set_cons_succ]
            refine fin_take 9 (v := ?_) rfl (by kernel_rfl) (by kernel_rfl) (by kernel_rfl) (by kernel_rfl) (fun _ _ _ h => h) rfl ?_ (hS _ (On.refl W3).drew) ?_
            rotate_left
            · intro W hW
              go_simp
              (try with_reducible rfl)
            simp only [Act.put, List.setIfInBounds_toArray, List.set_cons_zero, List.set_cons_succ]
            refine fin_take 10 (v := ?_) rfl (by kernel_rfl) (by kernel_rfl) (by kernel_rfl) (by kernel_rfl) (fun _ _ _ h => h) rfl ?_ (hS _ (On.refl W3).drew) ?_
            rotate_left
            · intro W hW
              go_simp
              (try with_reducible rfl)
            simp only [Act.put, List.setIfInBounds_toArray, List.set_cons_zero, List.set_cons_succ]
            refine fin_one 11 rfl rfl (by kernel_rfl) (fun K hK => ?_)
            go_simp
            refine hK.out _ _ (fun _ => hS _ kA) ?_
            clear hK
            refine fin_one 12 rfl rfl (by kernel_rfl) (fun K hK => ?_)
            go_simp
            refine hK.out _ _ (fun _ => hS _ kB) ?_
            clear hK
            obtain ⟨vs, hvl, hov, hin⟩ := QQ.out
            rw [anyW_len] at hov hvl
            have own4 := own_on hov kB
            have new4 : ((W3.drew.alloc (.cells #[.int .i64 (-1), .int .i64 0, .int .i64 lm, .int .i64 0] 39)).alloc (.cells #[.slice (some ⟨W3.heap.size, 0, none⟩) 1 1] 40)).ownsRow (w.heap.size + 1 + 1 + 1) 39 4 (.slice (some ⟨W3.heap.size, 0, none⟩) 1 1) [atmW m].length ([atmW m].flatMap atomC) := by
              have := own_one W3.drew #[.int .i64 (-1), .int .i64 0, .int .i64 lm, .int .i64 0] 39 4 (w.heap.size + 1 + 1 + 1) rfl (show _ ≤ W3.heap.size by omega)
              have h2 := own_on this ((On.refl _).alloc (.cells #[.slice (some ⟨W3.heap.size, 0, none⟩) 1 1] 40))
              have h3 : [atmW m].flatMap atomC = [.int .i64 (-1), .int .i64 0, .int .i64 lm, .int .i64 0] := by rw [← elm]; rfl
              rw [h3]
              exact h2
            refine fin_one 13 rfl rfl (by kernel_rfl) (fun K hK => ?_)
            refine wp_append_own _ (.tmp 93) (.tmp 103) 25 rfl (w.heap.size + 1 + 1 + 1) 40 i3 (.slice none 0 0) 1 24 Tryd.underlying25 hi3 u0 u1 u2 rfl (by decide) (.slice a3 C.length c3) C.length vs rfl own4 ⟨W3.heap.size + 1, 0, none⟩ 1 1 [.slice (some ⟨W3.heap.size, 0, none⟩) 1 1] rfl rfl (news_two W3.drew _ _ _) (one_slice _ _ _) (by unfold maxLen; omega) (by omega) (Nat.le_trans (show _ ≤ W3.heap.size by omega) kB.size) ?_
            intro v' w5 hown5 hg5 _
            obtain ⟨a5, c5, rfl⟩ := own_slice hown5
            have blk : ∀ g, (Value.slice a3 C.length c3).ownBlock = some g → w.heap.size + 1 + 1 + 1 ≤ g := fun g hg => (hov.lt g hg).1
            have P1 : Bk w5 (w.heap.size + 1) _ := (Q1.on kB).grown hg5 (by omega) blk
            have P0 : Hid (Bk w5 w.heap.size _) := (Q0.out.on kB).grown hg5 (by omega) blk
            have P2 : Bk w5 (w.heap.size + 1 + 1) _ := (Q2.out.on kB).grown hg5 (by omega) blk
            have O5 : Hid (On w w5) := (QO.out.trans kB).grown hg5 (fun g hg => by have := blk g hg; omega)
            have I5 : Hid _ := own_far (own_on QI.out kB) own4 neC hg5
            have R5 : Hid _ := own_far (own_on QR.out kB) own4 neB hg5
            have C5 := Own2.snoc (C := atomC) (k := 4) (LL := anyW C) (L := [atmW m]) (hvl.trans (anyW_len C).symm) (by rw [anyW_len]; exact own4) (fun j u L hu hL => own_on (hin j u L hu hL) kB) neD hg5 (by rw [anyW_len]; exact hown5) new4
            rw [anyW_step] at C5
            have HC5 : Hid _ := C5
            have qz5 := qz w5 O5.out
            have qz6 := qz _ (O5.out.setNew (N := w.heap.size + 1) (i := 4) (by omega) (.slice a5 (C.length + 1) c5))
            have s5 := P1.at (i := 4) rfl
            have f5 := fun j => P1.fr j
            have t5 := P2.at (bA_at (hasW (A ++ B ++ C)) hm26)
            have g5 := P2.fr m
            refine hK.out _ _ (fun _ => ⟨s5, qz5⟩) ?_
            simp only [Act.put, List.setIfInBounds_toArray, List.set_cons_zero, List.set_cons_succ]
            clear hK own4 hown5 hg5 C5 new4 hov hin
            refine fin_one 14 rfl rfl (by kernel_rfl) (fun K hK => ?_)
            go_simp
            refine hK.out _ _ (fun _ => ⟨s5, qz5⟩) ?_
            clear hK
            refine fin_take 15 (v := ?_) rfl (by kernel_rfl) (by kernel_rfl) (by kernel_rfl) (by kernel_rfl) (fun _ _ _ h => h) rfl ?_ ⟨s5, qz5⟩ ?_
            rotate_left
            · intro W hW
              go_simp
              (try with_reducible rfl)
            simp only [Act.put, List.setIfInBounds_toArray, List.set_cons_zero, List.set_cons_succ]
            refine fin_one 16 rfl rfl (by kernel_rfl) (fun K hK => ?_)
            go_simp
            refine hK.out _ _ (fun h => absurd rfl h) ?_
            refine fin_done (by kernel_rfl) (NoPanic.normal ?_)
            go_wp2
            have eL : (C ++ [m]).length = C.length + 1 := by simp
            have eA : A ++ B ++ (C ++ [m]) = (A ++ B ++ C) ++ [m] := (List.append_assoc _ _ _).symm
            have eK : (condW (C ++ [m])).k = 1 := by unfold condW; rw [if_neg (by simp)]
            go_roundg (8 - (C.length + 1))
            case measure => omega
            case rel =>
              refine ⟨C ++ [m], a5, c5, by rw [eL], by rw [eL]; go_num, ?_, by omega, (O5.out.setNew (by omega) _).setNew (by omega) _, Bk.far (Bk.far P0.out (by omega) _ _) (by omega) _ _, ?_, ?_, own_set (own_set I5.out (by omega) _ _) (by omega) _ _, own_set (own_set R5.out (by omega) _ _) (by omega) _ _, ?_⟩
              · intro x hx
                rcases List.mem_append.1 hx with hx | hx
                · exact HC.out x hx
                · rw [List.mem_singleton] at hx; omega
              · rw [eL, eK]
                exact (Bk.puts [.slice a5 (C.length + 1) c5] w5 [.string ⟨#[110]⟩, .slice a A.length c, .slice (some ⟨w.heap.size, 0, none⟩) 1 1, .int .i64 1, .slice a3 C.length c3] 4 P1).far (by omega) _ _
              · show Bk _ _ _
                rw [eA]
                exact (P2.far (by omega) _ _).mark26 m
              · show Own2 _ _ _ _ _ _ _ _
                rw [eL]
                exact Own2.set (Own2.set HC5.out (by omega) _ _) (by omega) _ _
          · have hst : ¬ C.length < zc.length ∨ (C.length < zc.length ∧ ¬ C.length < 8) := by omega
            rcases hst with h1 | ⟨h1, h2⟩
            · go_wp2
              go_meet
              case rel => exact ⟨C, a3, c3, HC, hC8, HO, B0, B1, B2, HI, HRow, HQ⟩
            · go_wp2
              go_meet
              case rel => exact ⟨C, a3, c3, HC, hC8, HO, B0, B1, B2, HI, HRow, HQ⟩
      case rest =>
        clear HABC B0 B1 HO HI HRow
        obtain ⟨C, a3, c3, HC, hC8, HO, B0, B1, B2, HI, HRow, HQ⟩ := hcut
        obtain ⟨V3, hV3⟩ : ∃ V, V = wc := ⟨_, rfl⟩
        subst hV3
        have l2 := B2.out.lt
        have RT : TestRd V3 (.agg #[.string ⟨#[110]⟩, .slice a A.length c, .slice (some ⟨w.heap.size, 0, none⟩) 1 1, .int .i64 (condW C).k, .slice a3 C.length c3]) (testW A B C) := by
          refine ⟨a, c, some ⟨w.heap.size, 0, none⟩, 1, a3, c3, ?_, by show (⟨#[110]⟩ : ByteArray).size ≤ _; decide, ?_, ?_, ?_⟩
          · show _ = Value.agg #[.string ⟨#[110]⟩, .slice a (iniW A).length c, .slice (some ⟨w.heap.size, 0, none⟩) 1 1, .int .i64 (condW C).k, .slice a3 (condW C).any.length c3]
            rw [iniW_len, cond_any, anyW_len]
          · show Rd iniC 2 V3 (.slice a (iniW A).length c) (iniW A)
            refine Rd.own (C := iniC) (k := 2) (fun _ => rfl) (base := w.heap.size + 1 + 1 + 1) (e := 32) ?_
            rw [iniW_len]
            exact HI.out
          · show Rd2 insC 9 V3 (.slice (some ⟨w.heap.size, 0, none⟩) 1 1) [rowW B]
            refine Rd2.one (rowW_len B) B0.out ?_
            refine Rd.own (C := insC) (k := 9) (fun _ => rfl) (base := w.heap.size + 1 + 1 + 1) (e := 37) ?_
            rw [rowW_len]
            exact HRow.out
          · show Rd2 atomC 4 V3 (.slice a3 (condW C).any.length c3) (condW C).any
            rw [cond_any, anyW_len]
            exact Own2.rd (fun _ => rfl) HQ.out
        obtain ⟨F, hF⟩ : ∃ F, F = hasW (A ++ B ++ C) := ⟨_, rfl⟩
        have eF : allW A B C = F := by
          funext i
          rw [hF, hasW_app, hasW_app]
          rfl
        have hLt := letters_w A B C HA.out HB.out HC.out
        have hBig := check_big A B C HA.out HB.out HC.out
        rw [eF] at hLt hBig
        have hLo := fun W (k : On V3 W) => locs_is (testW A B C) _ W (hd.on (HO.out.trans k)) (RT.on k)
        have hCk := fun W (k : On V3 W) => check_is (testW A B C) _ W (lw.on (HO.out.trans k)) (RT.on k)
        rw [hLt] at hLo
        have FB : Hid (Bk V3 (w.heap.size + 1 + 1) (bA F)) := by show Bk _ _ _; rw [hF]; exact B2.out
        generalize checkT (testW A B C) = E at *
        generalize (condW C).k = kC at *
        clear hLt eF hF HI HRow HQ B2 RT HA HB HC
        generalize A.length = nA at *
        generalize C.length = nC at *
        clear hA10 hB10 hC8 lw hd RA RB RC
        go_wp2
        go_loopg [12, 13] 26 (fun gg s12 s13 wq => ∃ i : Nat, i ≤ 26 ∧ gg = 26 - i ∧ s13 = .int .i64 i ∧ Hid (On V3 wq) ∧ wq.ownsRow V3.heap.size 5 1 s12 (wantTo F i).length ((wantTo F i).map byteV))
        case atStart => exact ⟨0, by omega, rfl, rfl, On.refl _, World.ownsRow_nil _ _ _ _⟩
        case round =>
          obtain ⟨i, hi26, hgi, rfl, HV, hown⟩ := hrel
          have hlen := wantTo_len F i
          have FBr := FB.out.on HV.out
          have fl := FBr.lt
          have hsz := HV.out.size
          rcases Nat.lt_or_ge i 26 with hli | hgi2
          · have hcc := FBr.at (bA_at F hli)
            have hst := wantTo_step F i
            cases hF : F i with
            | true =>
              rw [hF] at hcc hst
              simp only [if_true] at hst
              obtain ⟨bb, hb, hb2⟩ : ∃ b : UInt8, Hid (b = UInt8.ofNat (97 + i)) ∧ IntKind.u8.wrap (97 + (i : Int)) = (b.toNat : Int) := ⟨_, rfl, by rw [IntKind.wrap_u8, UInt8.toNat_ofNat']; omega⟩
              rw [← hb.out] at hst
              have HST : Hid (wantTo F (i + 1) = wantTo F i ++ [bb]) := hst
              have hlt' : ∀ g, u12.ownBlock = some g → V3.heap.size ≤ g := fun g hg => (hown.lt g hg).1
              clear hst
              go_wp2_with (at_builtin; refine wpList_append_own _ rfl _ _ 22 rfl V3.heap.size 5 i4 (.int .u8 0) 1 1 Tryd.underlying22 hi4 v0 v1 v2 rfl (by decide) _ _ _ rfl (hown.alloc _) ⟨wr.heap.size, 0, none⟩ 1 1 [byteV bb] rfl rfl ?c1 ?c2 ?c3 ?c4 ?c5 ?_)
              case c1 =>
                intro j u hu
                rw [new_cell]
                exact hu
              case c2 =>
                intro u hu
                simp only [List.mem_cons, List.not_mem_nil, or_false] at hu
                subst hu
                rfl
              case c3 => unfold maxLen; omega
              case c4 => omega
              case c5 => simp only [World.size_alloc]; omega
              intro v' w4 hown4 hg4 _
              have O4 : Hid (On V3 w4) := (HV.out.alloc _).grown hg4 hlt'
              have W4 : Hid (w4.ownsRow V3.heap.size 5 1 v' (wantTo F (i + 1)).length ((wantTo F (i + 1)).map byteV)) := by
                show World.ownsRow _ _ _ _ _ _ _
                rw [HST.out]
                simpa using hown4
              clear hown4 hg4
              go_wp2
              go_roundg (26 - (i + 1))
              case measure => omega
              case rel => exact ⟨i + 1, by omega, rfl, by go_num, O4, W4.out⟩
            | false =>
              rw [hF] at hcc hst
              simp only [Bool.false_eq_true, if_false] at hst
              have W4 : Hid (wr.ownsRow V3.heap.size 5 1 u12 (wantTo F (i + 1)).length ((wantTo F (i + 1)).map byteV)) := by
                show World.ownsRow _ _ _ _ _ _ _
                rw [hst]
                exact hown
              clear hst
              go_wp2
              go_roundg (26 - (i + 1))
              case measure => omega
              case rel => exact ⟨i + 1, by omega, rfl, by go_num, HV, W4.out⟩
          · obtain rfl : i = 26 := by omega
            obtain ⟨aw, cw, rfl⟩ := own_slice hown
            have HW : Hid _ := hown
            generalize wantTo F 26 = WT at *
            have T1 := B1.on HV.out
            have p0 := T1.at (i := 0) rfl
            have p1 := T1.at (i := 1) rfl
            have p2 := T1.at (i := 2) rfl
            have p3 := T1.at (i := 3) rfl
            have p4 := T1.at (i := 4) rfl
            have pl := T1.lt
            clear hown FB FBr
            go_wp2_with fail
            refine (hCk _ HV.out).mono ?_
            rintro e w5 ⟨rfl, k5⟩
            have O5 : Hid (On V3 w5) := HV.out.trans k5
            have T5 := B1.on O5.out
            have hS : ∀ W, On w5 W → W.cell? ⟨w.heap.size + 1, 0, none⟩ = some (.string ⟨#[110]⟩) ∧ W.cell? ⟨w.heap.size + 1, 1, none⟩ = some (.slice a nA c) ∧ W.cell? ⟨w.heap.size + 1, 2, none⟩ = some (.slice (some ⟨w.heap.size, 0, none⟩) 1 1) ∧ W.cell? ⟨w.heap.size + 1, 3, none⟩ = some (.int .i64 kC) ∧ W.cell? ⟨w.heap.size + 1, 4, none⟩ = some (.slice a3 nC c3) ∧ (convert 22 9 (.slice aw WT.length cw)).run Tryd.prog W = .ok (.string ⟨WT.toArray⟩) W := fun W k => ⟨(T5.on k).at (i := 0) rfl, (T5.on k).at (i := 1) rfl, (T5.on k).at (i := 2) rfl, (T5.on k).at (i := 3) rfl, (T5.on k).at (i := 4) rfl, conv_own (own_on HW.out (k5.trans k))⟩
            clear hCk p0 p1 p2 p3 p4 pl
            by_cases h4 : WT.length ≤ 4
            · have h4i : decide ((WT.length : Int) ≤ 4) = true := by simp; omega
              have h4n : decide (WT.length ≤ 4) = true := by simpa using h4
              cases hE : (E == 0) with
              | true =>
                have hE' : (E != 0) = false := by simp [bne, hE]
                go_wp2
                refine region_fin (fun W => W.cell? ⟨w.heap.size + 1, 0, none⟩ = some (.string ⟨#[110]⟩) ∧ W.cell? ⟨w.heap.size + 1, 1, none⟩ = some (.slice a nA c) ∧ W.cell? ⟨w.heap.size + 1, 2, none⟩ = some (.slice (some ⟨w.heap.size, 0, none⟩) 1 1) ∧ W.cell? ⟨w.heap.size + 1, 3, none⟩ = some (.int .i64 kC) ∧ W.cell? ⟨w.heap.size + 1, 4, none⟩ = some (.slice a3 nC c3) ∧ (convert 22 9 (.slice aw WT.length cw)).run Tryd.prog W = .ok (.string ⟨WT.toArray⟩) W) 27 28 (by kernel_rfl) rfl ?_
                refine fin_take 0 (v := ?_) rfl (by kernel_rfl) (by kernel_rfl) (by kernel_rfl) (by kernel_rfl) (fun _ _ _ h => h) rfl ?_ (hS _ (On.refl w5).drew) ?_
                rotate_left
                · intro W hW
                  go_simp
                  (try with_reducible rfl)
                simp only [Act.put, List.setIfInBounds_toArray, List.set_cons_zero, List.set_cons_succ]
                refine fin_take 3 (v := ?_) rfl (by kernel_rfl) (by kernel_rfl) (by kernel_rfl) (by kernel_rfl) (fun _ _ _ h => h) rfl ?_ (hS _ (On.refl w5).drew) ?_
                rotate_left
                · intro W hW
                  go_simp
                  (try with_reducible rfl)
                simp only [Act.put, List.setIfInBounds_toArray, List.set_cons_zero, List.set_cons_succ]
                refine fin_take 4 (v := ?_) rfl (by kernel_rfl) (by kernel_rfl) (by kernel_rfl) (by kernel_rfl) (fun _ _ _ h => h) rfl ?_ (hS _ (On.refl w5).drew) ?_
                rotate_left
                · intro W hW
                  go_simp
                  (try with_reducible rfl)
                simp only [Act.put, List.setIfInBounds_toArray, List.set_cons_zero, List.set_cons_succ]
                refine fin_one 1 rfl rfl (by kernel_rfl) (fun K hK => ?_)
                go_simp
                refine (hLo _ (O5.out.drew)).mono ?_
                rintro e w6 ⟨al, cl, rfl, ho, k6⟩
                have k56 : On w5 w6 := (On.refl w5).drew.trans k6
                have hcv := conv_own ho
                refine hK.out _ _ (fun _ => hS _ k56) ?_
                clear hK
                refine fin_one 2 rfl rfl (by kernel_rfl) (fun K hK => ?_)
                go_simp
                refine hK.out _ _ (fun _ => hS _ k56) ?_
                clear hK
                refine fin_take 5 (v := ?_) rfl (by kernel_rfl) (by kernel_rfl) (by kernel_rfl) (by kernel_rfl) (fun _ _ _ h => h) rfl ?_ (hS _ k56) ?_
                rotate_left
                · intro W hW
                  go_simp
                  (try with_reducible rfl)
                simp only [Act.put, List.setIfInBounds_toArray, List.set_cons_zero, List.set_cons_succ]
                refine fin_take 6 (v := ?_) rfl (by kernel_rfl) (by kernel_rfl) (by kernel_rfl) (by kernel_rfl) (fun _ _ _ h => h) rfl ?_ (hS _ k56) ?_
                rotate_left
                · intro W hW
                  go_simp
                  (try with_reducible rfl)
                simp only [Act.put, List.setIfInBounds_toArray, List.set_cons_zero, List.set_cons_succ]
                refine fin_takeG 7 (v := ?_) rfl (by kernel_rfl) (by kernel_rfl) (by kernel_rfl) (by kernel_rfl) (fun _ _ _ h => h) (by rfl) ?_ (hS _ k56) ?_
                rotate_left
                · intro W hW
                  go_simp
                  (try with_reducible rfl)
                simp only [Act.put, List.setIfInBounds_toArray, List.set_cons_zero, List.set_cons_succ]
                refine fin_takeG 8 (v := ?_) rfl (by kernel_rfl) (by kernel_rfl) (by kernel_rfl) (by kernel_rfl) (fun _ _ _ h => h) (by rfl) ?_ (hS _ k56) ?_
                rotate_left
                · intro W hW
                  go_simp
                  (try with_reducible rfl)
                simp only [Act.put, List.setIfInBounds_toArray, List.set_cons_zero, List.set_cons_succ]
                refine fin_takeG 9 (v := ?_) rfl (by kernel_rfl) (by kernel_rfl) (by kernel_rfl) (by kernel_rfl) (fun _ _ _ h => h) (by rfl) ?_ (hS _ k56) ?_
                rotate_left
                · intro W hW
                  go_simp
                  (try with_reducible rfl)
                simp only [Act.put, List.setIfInBounds_toArray, List.set_cons_zero, List.set_cons_succ]
                refine fin_takeG 10 (v := ?_) rfl (by kernel_rfl) (by kernel_rfl) (by kernel_rfl) (by kernel_rfl) (fun _ _ _ h => h) (by rfl) ?_ (hS _ k56) ?_
                rotate_left
                · intro W hW
                  go_simp
                  (try with_reducible rfl)
                simp only [Act.put, List.setIfInBounds_toArray, List.set_cons_zero, List.set_cons_succ]
                refine fin_takeN 11 rfl (by kernel_rfl) (by kernel_rfl) (by kernel_rfl) (by kernel_rfl) (fun _ _ _ h => h) (by rfl) (hS _ k56) ?_
                simp only [Act.put, List.setIfInBounds_toArray, List.set_cons_zero, List.set_cons_succ]
                refine fin_takeN 12 rfl (by kernel_rfl) (by kernel_rfl) (by kernel_rfl) (by kernel_rfl) (fun _ _ _ h => h) (by rfl) (hS _ k56) ?_
                simp only [Act.put, List.setIfInBounds_toArray, List.set_cons_zero, List.set_cons_succ]
                refine fin_takeG 13 (v := ?_) rfl (by kernel_rfl) (by kernel_rfl) (by kernel_rfl) (by kernel_rfl) (fun _ _ _ h => h) (by rfl) ?_ (hS _ k56) ?_
                rotate_left
                · intro W hW
                  go_simp
                  (try with_reducible rfl)
                simp only [Act.put, List.setIfInBounds_toArray, List.set_cons_zero, List.set_cons_succ]
                refine fin_take 14 (v := ?_) rfl (by kernel_rfl) (by kernel_rfl) (by kernel_rfl) (by kernel_rfl) (fun _ _ _ h => h) rfl ?_ (hS _ k56) ?_
                rotate_left
                · intro W hW
                  go_simp
                  (try with_reducible rfl)
                simp only [Act.put, List.setIfInBounds_toArray, List.set_cons_zero, List.set_cons_succ]
                refine fin_take 15 (v := ?_) rfl (by kernel_rfl) (by kernel_rfl) (by kernel_rfl) (by kernel_rfl) (fun _ _ _ h => h) rfl ?_ (hS _ k56) ?_
                rotate_left
                · intro W hW
                  go_simp
                  (try with_reducible rfl)
                simp only [Act.put, List.setIfInBounds_toArray, List.set_cons_zero, List.set_cons_succ]
                refine fin_takeG 16 (v := ?_) rfl (by kernel_rfl) (by kernel_rfl) (by kernel_rfl) (by kernel_rfl) (fun _ _ _ h => h) (by rfl) ?_ (hS _ k56) ?_
                rotate_left
                · intro W hW
                  go_simp
                  (try with_reducible rfl)
                simp only [Act.put, List.setIfInBounds_toArray, List.set_cons_zero, List.set_cons_succ]
                refine fin_takeG 17 (v := ?_) rfl (by kernel_rfl) (by kernel_rfl) (by kernel_rfl) (by kernel_rfl) (fun _ _ _ h => h) (by rfl) ?_ (hS _ k56) ?_
                rotate_left
                · intro W hW
                  go_simp
                  (try with_reducible rfl)
                simp only [Act.put, List.setIfInBounds_toArray, List.set_cons_zero, List.set_cons_succ]
                refine fin_takeG 18 (v := ?_) rfl (by kernel_rfl) (by kernel_rfl) (by kernel_rfl) (by kernel_rfl) (fun _ _ _ h => h) (by rfl) ?_ (hS _ k56) ?_
                rotate_left
                · intro W hW
                  go_simp
                  (try with_reducible rfl)
                simp only [Act.put, List.setIfInBounds_toArray, List.set_cons_zero, List.set_cons_succ]
                refine fin_takeG 19 (v := ?_) rfl (by kernel_rfl) (by kernel_rfl) (by kernel_rfl) (by kernel_rfl) (fun _ _ _ h => h) (by rfl) ?_ (hS _ k56) ?_
                rotate_left
                · intro W hW
                  go_simp
                  (try with_reducible rfl)
                simp only [Act.put, List.setIfInBounds_toArray, List.set_cons_zero, List.set_cons_succ]
                refine fin_takeG 20 (v := ?_) rfl (by kernel_rfl) (by kernel_rfl) (by kernel_rfl) (by kernel_rfl) (fun _ _ _ h => h) (by rfl) ?_ (hS _ k56) ?_
                rotate_left
                · intro W hW
                  go_simp
                  (try with_reducible rfl)
                simp only [Act.put, List.setIfInBounds_toArray, List.set_cons_zero, List.set_cons_succ]
                refine fin_takeG 21 (v := ?_) rfl (by kernel_rfl) (by kernel_rfl) (by kernel_rfl) (by kernel_rfl) (fun _ _ _ h => h) (by rfl) ?_ (hS _ k56) ?_
                rotate_left
                · intro W hW
                  go_simp
                  (try with_reducible rfl)
                simp only [Act.put, List.setIfInBounds_toArray, List.set_cons_zero, List.set_cons_succ]
                refine fin_takeG 22 (v := ?_) rfl (by kernel_rfl) (by kernel_rfl) (by kernel_rfl) (by kernel_rfl) (fun _ _ _ h => h) (by rfl) ?_ (hS _ k56) ?_
                rotate_left
                · intro W hW
                  go_simp
                  (try with_reducible rfl)
                simp only [Act.put, List.setIfInBounds_toArray, List.set_cons_zero, List.set_cons_succ]
                refine fin_take 23 (v := ?_) rfl (by kernel_rfl) (by kernel_rfl) (by kernel_rfl) (by kernel_rfl) (fun _ _ _ h => h) rfl ?_ (hS _ k56) ?_
                rotate_left
                · intro W hW
                  go_simp
                  (try with_reducible rfl)
                simp only [Act.put, List.setIfInBounds_toArray, List.set_cons_zero, List.set_cons_succ]
                refine fin_take 24 (v := ?_) rfl (by kernel_rfl) (by kernel_rfl) (by kernel_rfl) (by kernel_rfl) (fun _ _ _ h => h) rfl ?_ (hS _ k56) ?_
                rotate_left
                · intro W hW
                  go_simp
                  (try with_reducible rfl)
                simp only [Act.put, List.setIfInBounds_toArray, List.set_cons_zero, List.set_cons_succ]
                refine fin_oneG 25 rfl (by rfl) (by kernel_rfl) (fun K hK => ?_)
                go_simp
                refine (hA _ (HO.out.trans (O5.out.trans k56))).mono ?_
                rintro e w7 ⟨rfl, k7⟩
                refine hK.out _ _ (fun _ => hS _ (k56.trans k7)) ?_
                clear hK
                refine fin_take 26 (v := ?_) rfl (by kernel_rfl) (by kernel_rfl) (by kernel_rfl) (by kernel_rfl) (fun _ _ _ h => h) rfl ?_ (hS _ (k56.trans k7)) ?_
                rotate_left
                · intro W hW
                  go_simp
                  (try with_reducible rfl)
                simp only [Act.put, List.setIfInBounds_toArray, List.set_cons_zero, List.set_cons_succ]
                refine fin_one 27 rfl rfl (by kernel_rfl) (fun K hK => ?_)
                go_simp
                refine hK.out _ _ (fun h => absurd rfl h) ?_
                refine fin_done (by kernel_rfl) (NoPanic.normal ?_)
                go_wp2
                go_ret
                exact ⟨rfl, HO.out.trans (O5.out.trans (k56.trans k7))⟩
              | false =>
                have hE' : (E != 0) = true := by simp [bne, hE]
                go_wp2
                refine region_fin (fun W => W.cell? ⟨w.heap.size + 1, 0, none⟩ = some (.string ⟨#[110]⟩) ∧ W.cell? ⟨w.heap.size + 1, 1, none⟩ = some (.slice a nA c) ∧ W.cell? ⟨w.heap.size + 1, 2, none⟩ = some (.slice (some ⟨w.heap.size, 0, none⟩) 1 1) ∧ W.cell? ⟨w.heap.size + 1, 3, none⟩ = some (.int .i64 kC) ∧ W.cell? ⟨w.heap.size + 1, 4, none⟩ = some (.slice a3 nC c3) ∧ (convert 22 9 (.slice aw WT.length cw)).run Tryd.prog W = .ok (.string ⟨WT.toArray⟩) W) 27 28 (by kernel_rfl) rfl ?_
                refine fin_take 0 (v := ?_) rfl (by kernel_rfl) (by kernel_rfl) (by kernel_rfl) (by kernel_rfl) (fun _ _ _ h => h) rfl ?_ (hS _ (On.refl w5).drew) ?_
                rotate_left
                · intro W hW
                  go_simp
                  (try with_reducible rfl)
                simp only [Act.put, List.setIfInBounds_toArray, List.set_cons_zero, List.set_cons_succ]
                refine fin_take 3 (v := ?_) rfl (by kernel_rfl) (by kernel_rfl) (by kernel_rfl) (by kernel_rfl) (fun _ _ _ h => h) rfl ?_ (hS _ (On.refl w5).drew) ?_
                rotate_left
                · intro W hW
                  go_simp
                  (try with_reducible rfl)
                simp only [Act.put, List.setIfInBounds_toArray, List.set_cons_zero, List.set_cons_succ]
                refine fin_take 4 (v := ?_) rfl (by kernel_rfl) (by kernel_rfl) (by kernel_rfl) (by kernel_rfl) (fun _ _ _ h => h) rfl ?_ (hS _ (On.refl w5).drew) ?_
                rotate_left
                · intro W hW
                  go_simp
                  (try with_reducible rfl)
                simp only [Act.put, List.setIfInBounds_toArray, List.set_cons_zero, List.set_cons_succ]
                refine fin_one 1 rfl rfl (by kernel_rfl) (fun K hK => ?_)
                go_simp
                refine (hLo _ (O5.out.drew)).mono ?_
                rintro e w6 ⟨al, cl, rfl, ho, k6⟩
                have k56 : On w5 w6 := (On.refl w5).drew.trans k6
                have hcv := conv_own ho
                refine hK.out _ _ (fun _ => hS _ k56) ?_
                clear hK
                refine fin_one 2 rfl rfl (by kernel_rfl) (fun K hK => ?_)
                go_simp
                refine hK.out _ _ (fun _ => hS _ k56) ?_
                clear hK
                refine fin_take 5 (v := ?_) rfl (by kernel_rfl) (by kernel_rfl) (by kernel_rfl) (by kernel_rfl) (fun _ _ _ h => h) rfl ?_ (hS _ k56) ?_
                rotate_left
                · intro W hW
                  go_simp
                  (try with_reducible rfl)
                simp only [Act.put, List.setIfInBounds_toArray, List.set_cons_zero, List.set_cons_succ]
                refine fin_take 6 (v := ?_) rfl (by kernel_rfl) (by kernel_rfl) (by kernel_rfl) (by kernel_rfl) (fun _ _ _ h => h) rfl ?_ (hS _ k56) ?_
                rotate_left
                · intro W hW
                  go_simp
                  (try with_reducible rfl)
                simp only [Act.put, List.setIfInBounds_toArray, List.set_cons_zero, List.set_cons_succ]
                refine fin_takeG 7 (v := ?_) rfl (by kernel_rfl) (by kernel_rfl) (by kernel_rfl) (by kernel_rfl) (fun _ _ _ h => h) (by rfl) ?_ (hS _ k56) ?_
                rotate_left
                · intro W hW
                  go_simp
                  (try with_reducible rfl)
                simp only [Act.put, List.setIfInBounds_toArray, List.set_cons_zero, List.set_cons_succ]
                refine fin_takeG 8 (v := ?_) rfl (by kernel_rfl) (by kernel_rfl) (by kernel_rfl) (by kernel_rfl) (fun _ _ _ h => h) (by rfl) ?_ (hS _ k56) ?_
                rotate_left
                · intro W hW
                  go_simp
                  (try with_reducible rfl)
                simp only [Act.put, List.setIfInBounds_toArray, List.set_cons_zero, List.set_cons_succ]
                refine fin_takeG 9 (v := ?_) rfl (by kernel_rfl) (by kernel_rfl) (by kernel_rfl) (by kernel_rfl) (fun _ _ _ h => h) (by rfl) ?_ (hS _ k56) ?_
                rotate_left
                · intro W hW
                  go_simp
                  (try with_reducible rfl)
                simp only [Act.put, List.setIfInBounds_toArray, List.set_cons_zero, List.set_cons_succ]
                refine fin_takeG 10 (v := ?_) rfl (by kernel_rfl) (by kernel_rfl) (by kernel_rfl) (by kernel_rfl) (fun _ _ _ h => h) (by rfl) ?_ (hS _ k56) ?_
                rotate_left
                · intro W hW
                  go_simp
                  (try with_reducible rfl)
                simp only [Act.put, List.setIfInBounds_toArray, List.set_cons_zero, List.set_cons_succ]
                refine fin_takeN 11 rfl (by kernel_rfl) (by kernel_rfl) (by kernel_rfl) (by kernel_rfl) (fun _ _ _ h => h) (by rfl) (hS _ k56) ?_
                simp only [Act.put, List.setIfInBounds_toArray, List.set_cons_zero, List.set_cons_succ]
                refine fin_takeN 12 rfl (by kernel_rfl) (by kernel_rfl) (by kernel_rfl) (by kernel_rfl) (fun _ _ _ h => h) (by rfl) (hS _ k56) ?_
                simp only [Act.put, List.setIfInBounds_toArray, List.set_cons_zero, List.set_cons_succ]
                refine fin_takeG 13 (v := ?_) rfl (by kernel_rfl) (by kernel_rfl) (by kernel_rfl) (by kernel_rfl) (fun _ _ _ h => h) (by rfl) ?_ (hS _ k56) ?_
                rotate_left
                · intro W hW
                  go_simp
                  (try with_reducible rfl)
                simp only [Act.put, List.setIfInBounds_toArray, List.set_cons_zero, List.set_cons_succ]
                refine fin_take 14 (v := ?_) rfl (by kernel_rfl) (by kernel_rfl) (by kernel_rfl) (by kernel_rfl) (fun _ _ _ h => h) rfl ?_ (hS _ k56) ?_
                rotate_left
                · intro W hW
                  go_simp
                  (try with_reducible rfl)
                simp only [Act.put, List.setIfInBounds_toArray, List.set_cons_zero, List.set_cons_succ]
                refine fin_take 15 (v := ?_) rfl (by kernel_rfl) (by kernel_rfl) (by kernel_rfl) (by kernel_rfl) (fun _ _ _ h => h) rfl ?_ (hS _ k56) ?_
                rotate_left
                · intro W hW
                  go_simp
                  (try with_reducible rfl)
                simp only [Act.put, List.setIfInBounds_toArray, List.set_cons_zero, List.set_cons_succ]
                refine fin_takeG 16 (v := ?_) rfl (by kernel_rfl) (by kernel_rfl) (by kernel_rfl) (by kernel_rfl) (fun _ _ _ h => h) (by rfl) ?_ (hS _ k56) ?_
                rotate_left
                · intro W hW
                  go_simp
                  (try with_reducible rfl)
                simp only [Act.put, List.setIfInBounds_toArray, List.set_cons_zero, List.set_cons_succ]
                refine fin_takeG 17 (v := ?_) rfl (by kernel_rfl) (by kernel_rfl) (by kernel_rfl) (by kernel_rfl) (fun _ _ _ h => h) (by rfl) ?_ (hS _ k56) ?_
                rotate_left
                · intro W hW
                  go_simp
                  (try with_reducible rfl)
                simp only [Act.put, List.setIfInBounds_toArray, List.set_cons_zero, List.set_cons_succ]
                refine fin_takeG 18 (v := ?_) rfl (by kernel_rfl) (by kernel_rfl) (by kernel_rfl) (by kernel_rfl) (fun _ _ _ h => h) (by rfl) ?_ (hS _ k56) ?_
                rotate_left
                · intro W hW
                  go_simp
                  (try with_reducible rfl)
                simp only [Act.put, List.setIfInBounds_toArray, List.set_cons_zero, List.set_cons_succ]
                refine fin_takeN 19 rfl (by kernel_rfl) (by kernel_rfl) (by kernel_rfl) (by kernel_rfl) (fun _ _ _ h => h) (by rfl) (hS _ k56) ?_
                simp only [Act.put, List.setIfInBounds_toArray, List.set_cons_zero, List.set_cons_succ]
                refine fin_takeN 20 rfl (by kernel_rfl) (by kernel_rfl) (by kernel_rfl) (by kernel_rfl) (fun _ _ _ h => h) (by rfl) (hS _ k56) ?_
                simp only [Act.put, List.setIfInBounds_toArray, List.set_cons_zero, List.set_cons_succ]
                refine fin_takeN 21 rfl (by kernel_rfl) (by kernel_rfl) (by kernel_rfl) (by kernel_rfl) (fun _ _ _ h => h) (by rfl) (hS _ k56) ?_
                simp only [Act.put, List.setIfInBounds_toArray, List.set_cons_zero, List.set_cons_succ]
                refine fin_takeG 22 (v := ?_) rfl (by kernel_rfl) (by kernel_rfl) (by kernel_rfl) (by kernel_rfl) (fun _ _ _ h => h) (by rfl) ?_ (hS _ k56) ?_
                rotate_left
                · intro W hW
                  go_simp
                  (try with_reducible rfl)
                simp only [Act.put, List.setIfInBounds_toArray, List.set_cons_zero, List.set_cons_succ]
                refine fin_take 23 (v := ?_) rfl (by kernel_rfl) (by kernel_rfl) (by kernel_rfl) (by kernel_rfl) (fun _ _ _ h => h) rfl ?_ (hS _ k56) ?_
                rotate_left
                · intro W hW
                  go_simp
                  (try with_reducible rfl)
                simp only [Act.put, List.setIfInBounds_toArray, List.set_cons_zero, List.set_cons_succ]
                refine fin_take 24 (v := ?_) rfl (by kernel_rfl) (by kernel_rfl) (by kernel_rfl) (by kernel_rfl) (fun _ _ _ h => h) rfl ?_ (hS _ k56) ?_
                rotate_left
                · intro W hW
                  go_simp
                  (try with_reducible rfl)
                simp only [Act.put, List.setIfInBounds_toArray, List.set_cons_zero, List.set_cons_succ]
                refine fin_oneG 25 rfl (by rfl) (by kernel_rfl) (fun K hK => ?_)
                go_simp
                refine (hA _ (HO.out.trans (O5.out.trans k56))).mono ?_
                rintro e w7 ⟨rfl, k7⟩
                refine hK.out _ _ (fun _ => hS _ (k56.trans k7)) ?_
                clear hK
                refine fin_take 26 (v := ?_) rfl (by kernel_rfl) (by kernel_rfl) (by kernel_rfl) (by kernel_rfl) (fun _ _ _ h => h) rfl ?_ (hS _ (k56.trans k7)) ?_
                rotate_left
                · intro W hW
                  go_simp
                  (try with_reducible rfl)
                simp only [Act.put, List.setIfInBounds_toArray, List.set_cons_zero, List.set_cons_succ]
                refine fin_one 27 rfl rfl (by kernel_rfl) (fun K hK => ?_)
                go_simp
                refine hK.out _ _ (fun h => absurd rfl h) ?_
                refine fin_done (by kernel_rfl) (NoPanic.normal ?_)
                go_wp2
                go_ret
                exact ⟨rfl, HO.out.trans (O5.out.trans (k56.trans k7))⟩
            · obtain rfl : E = 8 := hBig (by omega)
              have h4i : decide ((WT.length : Int) ≤ 4) = false := by simp; omega
              have h4n : decide (WT.length ≤ 4) = false := by simpa using h4
              go_wp2
              refine region_fin (fun W => W.cell? ⟨w.heap.size + 1, 0, none⟩ = some (.string ⟨#[110]⟩) ∧ W.cell? ⟨w.heap.size + 1, 1, none⟩ = some (.slice a nA c) ∧ W.cell? ⟨w.heap.size + 1, 2, none⟩ = some (.slice (some ⟨w.heap.size, 0, none⟩) 1 1) ∧ W.cell? ⟨w.heap.size + 1, 3, none⟩ = some (.int .i64 kC) ∧ W.cell? ⟨w.heap.size + 1, 4, none⟩ = some (.slice a3 nC c3) ∧ (convert 22 9 (.slice aw WT.length cw)).run Tryd.prog W = .ok (.string ⟨WT.toArray⟩) W) 27 28 (by kernel_rfl) rfl ?_
              refine fin_take 0 (v := ?_) rfl (by kernel_rfl) (by kernel_rfl) (by kernel_rfl) (by kernel_rfl) (fun _ _ _ h => h) rfl ?_ (hS _ (On.refl w5).drew) ?_
              rotate_left
              · intro W hW
                go_simp
                (try with_reducible rfl)
              simp only [Act.put, List.setIfInBounds_toArray, List.set_cons_zero, List.set_cons_succ]
              refine fin_take 3 (v := ?_) rfl (by kernel_rfl) (by kernel_rfl) (by kernel_rfl) (by kernel_rfl) (fun _ _ _ h => h) rfl ?_ (hS _ (On.refl w5).drew) ?_
              rotate_left
              · intro W hW
                go_simp
                (try with_reducible rfl)
              simp only [Act.put, List.setIfInBounds_toArray, List.set_cons_zero, List.set_cons_succ]
              refine fin_take 4 (v := ?_) rfl (by kernel_rfl) (by kernel_rfl) (by kernel_rfl) (by kernel_rfl) (fun _ _ _ h => h) rfl ?_ (hS _ (On.refl w5).drew) ?_
              rotate_left
              · intro W hW
                go_simp
                (try with_reducible rfl)
              simp only [Act.put, List.setIfInBounds_toArray, List.set_cons_zero, List.set_cons_succ]
              refine fin_one 1 rfl rfl (by kernel_rfl) (fun K hK => ?_)
              go_simp
              refine (hLo _ (O5.out.drew)).mono ?_
              rintro e w6 ⟨al, cl, rfl, ho, k6⟩
              have k56 : On w5 w6 := (On.refl w5).drew.trans k6
              have hcv := conv_own ho
              refine hK.out _ _ (fun _ => hS _ k56) ?_
              clear hK
              refine fin_one 2 rfl rfl (by kernel_rfl) (fun K hK => ?_)
              go_simp
              refine hK.out _ _ (fun _ => hS _ k56) ?_
              clear hK
              refine fin_take 5 (v := ?_) rfl (by kernel_rfl) (by kernel_rfl) (by kernel_rfl) (by kernel_rfl) (fun _ _ _ h => h) rfl ?_ (hS _ k56) ?_
              rotate_left
              · intro W hW
                go_simp
                (try with_reducible rfl)
              simp only [Act.put, List.setIfInBounds_toArray, List.set_cons_zero, List.set_cons_succ]
              refine fin_take 6 (v := ?_) rfl (by kernel_rfl) (by kernel_rfl) (by kernel_rfl) (by kernel_rfl) (fun _ _ _ h => h) rfl ?_ (hS _ k56) ?_
              rotate_left
              · intro W hW
                go_simp
                (try with_reducible rfl)
              simp only [Act.put, List.setIfInBounds_toArray, List.set_cons_zero, List.set_cons_succ]
              refine fin_takeG 7 (v := ?_) rfl (by kernel_rfl) (by kernel_rfl) (by kernel_rfl) (by kernel_rfl) (fun _ _ _ h => h) (by rfl) ?_ (hS _ k56) ?_
              rotate_left
              · intro W hW
                go_simp
                (try with_reducible rfl)
              simp only [Act.put, List.setIfInBounds_toArray, List.set_cons_zero, List.set_cons_succ]
              refine fin_takeG 8 (v := ?_) rfl (by kernel_rfl) (by kernel_rfl) (by kernel_rfl) (by kernel_rfl) (fun _ _ _ h => h) (by rfl) ?_ (hS _ k56) ?_
              rotate_left
              · intro W hW
                go_simp
                (try with_reducible rfl)
              simp only [Act.put, List.setIfInBounds_toArray, List.set_cons_zero, List.set_cons_succ]
              refine fin_takeG 9 (v := ?_) rfl (by kernel_rfl) (by kernel_rfl) (by kernel_rfl) (by kernel_rfl) (fun _ _ _ h => h) (by rfl) ?_ (hS _ k56) ?_
              rotate_left
              · intro W hW
                go_simp
                (try with_reducible rfl)
              simp only [Act.put, List.setIfInBounds_toArray, List.set_cons_zero, List.set_cons_succ]
              refine fin_takeG 10 (v := ?_) rfl (by kernel_rfl) (by kernel_rfl) (by kernel_rfl) (by kernel_rfl) (fun _ _ _ h => h) (by rfl) ?_ (hS _ k56) ?_
              rotate_left
              · intro W hW
                go_simp
                (try with_reducible rfl)
              simp only [Act.put, List.setIfInBounds_toArray, List.set_cons_zero, List.set_cons_succ]
              refine fin_takeG 11 (v := ?_) rfl (by kernel_rfl) (by kernel_rfl) (by kernel_rfl) (by kernel_rfl) (fun _ _ _ h => h) (by rfl) ?_ (hS _ k56) ?_
              rotate_left
              · intro W hW
                go_simp
                (try with_reducible rfl)
              simp only [Act.put, List.setIfInBounds_toArray, List.set_cons_zero, List.set_cons_succ]
              refine fin_takeG 12 (v := ?_) rfl (by kernel_rfl) (by kernel_rfl) (by kernel_rfl) (by kernel_rfl) (fun _ _ _ h => h) (by rfl) ?_ (hS _ k56) ?_
              rotate_left
              · intro W hW
                go_simp
                (try with_reducible rfl)
              simp only [Act.put, List.setIfInBounds_toArray, List.set_cons_zero, List.set_cons_succ]
              refine fin_takeG 13 (v := ?_) rfl (by kernel_rfl) (by kernel_rfl) (by kernel_rfl) (by kernel_rfl) (fun _ _ _ h => h) (by rfl) ?_ (hS _ k56) ?_
              rotate_left
              · intro W hW
                go_simp
                (try with_reducible rfl)
              simp only [Act.put, List.setIfInBounds_toArray, List.set_cons_zero, List.set_cons_succ]
              refine fin_take 14 (v := ?_) rfl (by kernel_rfl) (by kernel_rfl) (by kernel_rfl) (by kernel_rfl) (fun _ _ _ h => h) rfl ?_ (hS _ k56) ?_
              rotate_left
              · intro W hW
                go_simp
                (try with_reducible rfl)
              simp only [Act.put, List.setIfInBounds_toArray, List.set_cons_zero, List.set_cons_succ]
              refine fin_take 15 (v := ?_) rfl (by kernel_rfl) (by kernel_rfl) (by kernel_rfl) (by kernel_rfl) (fun _ _ _ h => h) rfl ?_ (hS _ k56) ?_
              rotate_left
              · intro W hW
                go_simp
                (try with_reducible rfl)
              simp only [Act.put, List.setIfInBounds_toArray, List.set_cons_zero, List.set_cons_succ]
              refine fin_takeG 16 (v := ?_) rfl (by kernel_rfl) (by kernel_rfl) (by kernel_rfl) (by kernel_rfl) (fun _ _ _ h => h) (by rfl) ?_ (hS _ k56) ?_
              rotate_left
              · intro W hW
                go_simp
                (try with_reducible rfl)
              simp only [Act.put, List.setIfInBounds_toArray, List.set_cons_zero, List.set_cons_succ]
              refine fin_takeG 17 (v := ?_) rfl (by kernel_rfl) (by kernel_rfl) (by kernel_rfl) (by kernel_rfl) (fun _ _ _ h => h) (by rfl) ?_ (hS _ k56) ?_
              rotate_left
              · intro W hW
                go_simp
                (try with_reducible rfl)
              simp only [Act.put, List.setIfInBounds_toArray, List.set_cons_zero, List.set_cons_succ]
              refine fin_takeG 18 (v := ?_) rfl (by kernel_rfl) (by kernel_rfl) (by kernel_rfl) (by kernel_rfl) (fun _ _ _ h => h) (by rfl) ?_ (hS _ k56) ?_
              rotate_left
              · intro W hW
                go_simp
                (try with_reducible rfl)
              simp only [Act.put, List.setIfInBounds_toArray, List.set_cons_zero, List.set_cons_succ]
              refine fin_takeN 19 rfl (by kernel_rfl) (by kernel_rfl) (by kernel_rfl) (by kernel_rfl) (fun _ _ _ h => h) (by rfl) (hS _ k56) ?_
              simp only [Act.put, List.setIfInBounds_toArray, List.set_cons_zero, List.set_cons_succ]
              refine fin_takeN 20 rfl (by kernel_rfl) (by kernel_rfl) (by kernel_rfl) (by kernel_rfl) (fun _ _ _ h => h) (by rfl) (hS _ k56) ?_
              simp only [Act.put, List.setIfInBounds_toArray, List.set_cons_zero, List.set_cons_succ]
              refine fin_takeN 21 rfl (by kernel_rfl) (by kernel_rfl) (by kernel_rfl) (by kernel_rfl) (fun _ _ _ h => h) (by rfl) (hS _ k56) ?_
              simp only [Act.put, List.setIfInBounds_toArray, List.set_cons_zero, List.set_cons_succ]
              refine fin_takeG 22 (v := ?_) rfl (by kernel_rfl) (by kernel_rfl) (by kernel_rfl) (by kernel_rfl) (fun _ _ _ h => h) (by rfl) ?_ (hS _ k56) ?_
              rotate_left
              · intro W hW
                go_simp
                (try with_reducible rfl)
              simp only [Act.put, List.setIfInBounds_toArray, List.set_cons_zero, List.set_cons_succ]
              refine fin_take 23 (v := ?_) rfl (by kernel_rfl) (by kernel_rfl) (by kernel_rfl) (by kernel_rfl) (fun _ _ _ h => h) rfl ?_ (hS _ k56) ?_
              rotate_left
              · intro W hW
                go_simp
                (try with_reducible rfl)
              simp only [Act.put, List.setIfInBounds_toArray, List.set_cons_zero, List.set_cons_succ]
              refine fin_take 24 (v := ?_) rfl (by kernel_rfl) (by kernel_rfl) (by kernel_rfl) (by kernel_rfl) (fun _ _ _ h => h) rfl ?_ (hS _ k56) ?_
              rotate_left
              · intro W hW
                go_simp
                (try with_reducible rfl)
              simp only [Act.put, List.setIfInBounds_toArray, List.set_cons_zero, List.set_cons_succ]
              refine fin_oneG 25 rfl (by rfl) (by kernel_rfl) (fun K hK => ?_)
              go_simp
              refine (hA _ (HO.out.trans (O5.out.trans k56))).mono ?_
              rintro e w7 ⟨rfl, k7⟩
              refine hK.out _ _ (fun _ => hS _ (k56.trans k7)) ?_
              clear hK
              refine fin_take 26 (v := ?_) rfl (by kernel_rfl) (by kernel_rfl) (by kernel_rfl) (by kernel_rfl) (fun _ _ _ h => h) rfl ?_ (hS _ (k56.trans k7)) ?_
              rotate_left
              · intro W hW
                go_simp
                (try with_reducible rfl)
              simp only [Act.put, List.setIfInBounds_toArray, List.set_cons_zero, List.set_cons_succ]
              refine fin_one 27 rfl rfl (by kernel_rfl) (fun K hK => ?_)
              go_simp
              refine hK.out _ _ (fun h => absurd rfl h) ?_
              refine fin_done (by kernel_rfl) (NoPanic.normal ?_)
              go_wp2
              go_ret
              exact ⟨rfl, HO.out.trans (O5.out.trans (k56.trans k7))⟩
end Go.Proofs.YtjjmkacfkjkhgaaDoor
