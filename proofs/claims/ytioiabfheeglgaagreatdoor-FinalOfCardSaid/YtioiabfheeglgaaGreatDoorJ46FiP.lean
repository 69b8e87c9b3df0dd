/- final.readBy: what each of four threads reads, for any row of events. -/
import Derived.Test.YtioiabfheeglgaaGreatDoorJ45EndP
import Derived.Test.YtioiabfheeglgaaGreatDoorJ40RaX
import Derived.Maps.AppendAt
import Derived.Test.YtioiabfheeglgaaGreatDoorJ04FinS
import Derived.Test.YtioiabfheeglgaaGreatDoorJ26CopyK
namespace Go.Proofs.YtioiabfheeglgaaGreatDoor
open Go.RowKit

theorem wp_app1 {o : Oper} {a : Act} {w : World} {K : Act → World → Prop} {Q : Exit → Act → World → Prop} (s x : Operand)
  (ho : o.op = .call { callee := .builtin .append, args := #[s, x], argTypes := #[24, 24] }) {base g : Nat} {v : Value} {X : List Int} {y : Int} (hs : a.eval s = v) (hx : a.eval x = .slice (some ⟨g, 0, none⟩) 1 1)
  (hv : w.ownsRow base 2 1 v X.length (X.flatMap intC)) (hc : w.cell? ⟨g, 0, none⟩ = some (.int .i64 y)) (hl : X.length ≤ 1000000) (hb : base ≤ w.heap.size)
  (h : ∀ v' w', w'.ownsRow base 2 1 v' (X ++ [y]).length ((X ++ [y]).flatMap intC) → Fw v v' w w' → Kt 2 w w' → K (a.put o.dst v') w') : o.wp Tryz.prog a w K Q := by
 obtain ⟨i0, hi, hz0, hz1, hz2⟩ := info_parts infoI64
 obtain ⟨v', w', hr, h2, h3, _, h5⟩ := run_append_own_at (P := Tryz.prog) (w := w) base 24 o.type 2 i0 (.int .i64 0) 1 8 Tryz.underlying24 hi hz0 hz1 hz2 rfl (by decide) v X.length _ hv ⟨g, 0, none⟩ 1 1 [.int .i64 y] rfl (fun j u hj => by
  cases j with
  | zero => simp only [List.getElem?_cons_zero, Option.some.injEq] at hj; subst hj; exact hc
  | succ j => simp at hj) (by intro u hu; simp only [List.mem_cons, List.not_mem_nil, or_false] at hu; subst hu; rfl) (by unfold maxLen; omega) (by omega) hb
 unfold Oper.wp execOp
 simp only [ho, resolve, invoke, builtin, Sem.run_bind, Sem.run_pure, Result.andThen_ok, List.map_toArray, List.map_cons, List.map_nil, hs, hx, hr]
 refine h v' w' ?_ (Fw.append h3 h5) (Kt.grown hv h3)
 rw [List.length_append, List.flatMap_append]
 exact h2
theorem own_slice' {w : World} {base k n : Nat} {e : TypeId} {v : Value} {xs : List Value} (h : w.ownsRow base e k v n xs) : ∃ (a : Option Addr) (m c : Nat), v = .slice a m c := by
 obtain ⟨a, c, e⟩ := own_slice h
 exact ⟨a, _, c, e⟩
theorem Vs.congr {b : Nat} {w : World} {xs : List Value} {V V' : Nat → List Int} (h : Vs b w xs V) (hl : xs.length = 4) (e : ∀ l, l < 4 → V l = V' l) : Vs b w xs V' :=
 ⟨fun l x hx => by rw [← e l (by rw [← hl]; exact (List.getElem?_eq_some_iff.1 hx).1)]; exact h.own l x hx, h.apart⟩
def nil4 : Array Value := #[.slice none 0 0, .slice none 0 0, .slice none 0 0, .slice none 0 0]
/-- The rows as they grow. -/
structure RB (w0 w : World) (xs : List Value) (V : Nat → List Int) : Prop where
 on : On w0 w
 hr : w.heap[w0.heap.size]? = some (.cells nil4 T4 (0, 0))
 hv : w.heap[w0.heap.size + 1]? = some (.cells xs.toArray T4 (0, 0))
 lx : xs.length = 4
 vs : Vs w0.heap.size w xs V
section
variable {w0 w w' : World} {xs : List Value} {V : Nat → List Int}
theorem RB.go (h : RB w0 w xs V) (o : On w w') : RB w0 w' xs V := ⟨h.on.trans o, (o.block _ (lt_of_block h.hr)).trans h.hr, (o.block _ (lt_of_block h.hv)).trans h.hv, h.lx, h.vs.on o⟩
theorem RB.congr (h : RB w0 w xs V) {V' : Nat → List Int} (e : ∀ l, l < 4 → V l = V' l) : RB w0 w xs V' := ⟨h.on, h.hr, h.hv, h.lx, h.vs.congr h.lx e⟩
theorem RB.put (h : RB w0 w xs V) {l : Nat} {x x' : Value} {L : List Int} (hx : xs[l]? = some x) (f : Fw x x' w w') (kt : Kt 2 w w') (ho : w'.ownsRow w0.heap.size 2 1 x' L.length (L.flatMap intC)) :
  w'.heap[w0.heap.size + 1]? = some (.cells xs.toArray T4 (0, 0)) ∧ RB w0 (w'.setCell ⟨w0.heap.size + 1, l, none⟩ x') (xs.set l x') (updF V l L) := by
 have e1 : w'.heap[w0.heap.size]? = some (.cells nil4 T4 (0, 0)) := (kt.block _ _ _ _ h.hr (by decide)).trans h.hr
 have e2 : w'.heap[w0.heap.size + 1]? = some (.cells xs.toArray T4 (0, 0)) := (kt.block _ _ _ _ h.hv (by decide)).trans h.hv
 have hon : On w0 w' := h.on.fw f (fun g hg => ((h.vs.own l x hx).lt g hg).1)
 have hv2 : Vs w0.heap.size w' (xs.set l x') (updF V l L) := h.vs.upd (fun l' y hne hy => own_fw (h.vs.own l' y hy) f (fun g hg => h.vs.apart l' l y x g hne hy hx hg)) ho (fun l' y g hne hy hg => by
  have hlt := ((h.vs.own l' y hy).lt g hg).2
  rcases (f 0).next with e | e
  ·
   rw [e]
   exact h.vs.apart l' l y x g hne hy hx hg
  ·
   intro e'
   have := e g e'
   omega)
 exact ⟨e2, hon.setNew (by omega) _, (Below.heap_setCell _ _ _ _ (by show w0.heap.size ≠ w0.heap.size + 1; omega)).trans e1, heap_put e2 l x', by rw [List.length_set]; exact h.lx, hv2.set e2 tJ7 x'⟩
theorem RB.nil (w : World) : RB w ((w.alloc (.cells nil4 T4)).alloc (.cells nil4 T4)) [.slice none 0 0, .slice none 0 0, .slice none 0 0, .slice none 0 0] (fun l : Nat => rdsE [] (l : Int)) := by
 have h := A1.nil (w := w) nil4
 have e1 : (w.alloc (.cells nil4 T4)).heap[w.heap.size]? = some (.cells nil4 T4 (0, 0)) := heap_alloc_new w _
 have e2 := heap_alloc_new (w.alloc (.cells nil4 T4)) (.cells nil4 T4)
 rw [World.size_alloc] at e2
 have hall : ∀ (l : Nat) (x : Value), [Value.slice none 0 0, .slice none 0 0, .slice none 0 0, .slice none 0 0][l]? = some x → x = .slice none 0 0 := fun l x h => by
  have := List.mem_of_getElem? h
  simpa using this
 refine ⟨((On.refl w).alloc _).alloc _, (Below.heap_alloc _ _ _ (lt_of_block e1)).trans e1, e2, rfl, ⟨fun l x h => ?_, fun l l' x x' g _ h _ hg => ?_⟩⟩
 ·
  rw [hall l x h]
  exact World.ownsRow_nil _ _ _ _
 ·
  rw [hall l x h] at hg
  cases hg
end
set_option maxHeartbeats 4000000 in
set_option maxRecDepth 8000 in
theorem freadBy_is (E : List EvT) (a : Option Addr) (c : Nat) (w : World) (h : Rd evC 6 w (.slice a E.length c) E) (hE : E.length ≤ 1000) :
  Calls Tryz.prog 23 #[.slice a E.length c] w fun e w' => ∃ a0 c0 a1 c1 a2 c2 a3 c3, e = .returned (.agg #[.slice a0 (rdsE E 0).length c0, .slice a1 (rdsE E 1).length c1, .slice a2 (rdsE E 2).length c2, .slice a3 (rdsE E 3).length c3]) ∧
   RdT 2 intC 1 w' (.slice a0 (rdsE E 0).length c0) (rdsE E 0) ∧ RdT 2 intC 1 w' (.slice a1 (rdsE E 1).length c1) (rdsE E 1) ∧ RdT 2 intC 1 w' (.slice a2 (rdsE E 2).length c2) (rdsE E 2) ∧ RdT 2 intC 1 w' (.slice a3 (rdsE E 3).length c3) (rdsE E 3) ∧ On w w' := by
 have HEV : Hid (Rd evC 6 w (.slice a E.length c) E) := h
 have H0 : Hid (RB w ((w.alloc (.cells nil4 T4)).alloc (.cells nil4 T4)) [.slice none 0 0, .slice none 0 0, .slice none 0 0, .slice none 0 0] (fun l : Nat => rdsE (E.take 0) (l : Int))) := RB.nil w
 have HEL : Hid (E.length ≤ 1000) := hE
 clear h
 go_enter Tryz.func23, Tryz.ntmps23
 go_wp2
 go_loopg [8] E.length (fun gg s8 wq => ∃ (n : Nat) (xs : List Value), n ≤ E.length ∧ gg = E.length - n ∧ s8 = .int .i64 n ∧ Hid (RB w wq xs (fun l : Nat => rdsE (E.take n) (l : Int))))
 case atStart => exact ⟨0, _, Nat.zero_le _, rfl, rfl, H0⟩
 case round =>
  clear H0
  obtain ⟨n, xs, hn, hgk, rfl, HB⟩ := hrel
  rcases Nat.lt_or_ge n E.length with hlt | hge
  ·
   obtain ⟨e, he⟩ : ∃ e, E[n]? = some e := ⟨_, List.getElem?_eq_getElem hlt⟩
   obtain ⟨g1, o1, rfl, hg1, p0, p1, p2, p3, p4, p5⟩ := rd_ev (HEV.out.on HB.out.on) he
   have hW := fun W => ereads_is e W
   unfold evV at hW
   have hb0 : (0 : Int) ≤ (n : Int) := by omega
   have hb1 : (n : Int) < (E.length : Int) := by omega
   have HSU : Hid (∀ t : Int, rdsE (E.take (n + 1)) t = rdsE (E.take n) t ++ (if e.t == t && rdsB e.k then [e.r] else [])) := rdsE_succ he
   have kE : On wr (wr.alloc (.cells #[.int .i64 e.t, .int .i64 e.i, .int .i64 e.k, .int .i64 e.l, .int .i64 e.r, .int .i64 e.w] 58)) := (On.refl wr).alloc _
   have bE := Bk.new wr #[.int .i64 e.t, .int .i64 e.i, .int .i64 e.k, .int .i64 e.l, .int .i64 e.r, .int .i64 e.w] 58
   have tE : (wr.alloc (.cells #[.int .i64 e.t, .int .i64 e.i, .int .i64 e.k, .int .i64 e.l, .int .i64 e.r, .int .i64 e.w] 58)).heap[wr.heap.size]? = some (.cells #[.int .i64 e.t, .int .i64 e.i, .int .i64 e.k, .int .i64 e.l, .int .i64 e.r, .int .i64 e.w] 58 (0, 0)) := heap_alloc_new wr _
   have HTE : Hid ((wr.alloc (.cells #[.int .i64 e.t, .int .i64 e.i, .int .i64 e.k, .int .i64 e.l, .int .i64 e.r, .int .i64 e.w] 58)).heap[wr.heap.size]? = some (.cells #[.int .i64 e.t, .int .i64 e.i, .int .i64 e.k, .int .i64 e.l, .int .i64 e.r, .int .i64 e.w] 58 (0, 0))) := tE
   clear tE he
   by_cases h0 : e.t < 0
   ·
    have d0 : decide (0 ≤ e.t) = false := decide_eq_false (by omega)
    have HBN : Hid (RB w (wr.alloc (.cells #[.int .i64 e.t, .int .i64 e.i, .int .i64 e.k, .int .i64 e.l, .int .i64 e.r, .int .i64 e.w] 58)) xs (fun l : Nat => rdsE (E.take (n + 1)) (l : Int))) := (HB.out.go kE).congr (fun l _ => by
     have : (e.t == (l : Int)) = false := by simp; omega
     rw [HSU.out, this]
     simp)
    clear HB bE h0 kE
    go_wp2
    go_roundg (E.length - (n + 1))
    case measure => omega
    case rel => exact ⟨n + 1, xs, hlt, rfl, by go_num, HBN⟩
   ·
    have d0 : decide (0 ≤ e.t) = true := decide_eq_true (by omega)
    by_cases h4 : 4 ≤ e.t
    ·
     have d4 : decide (e.t < 4) = false := decide_eq_false (by omega)
     have HBN : Hid (RB w (wr.alloc (.cells #[.int .i64 e.t, .int .i64 e.i, .int .i64 e.k, .int .i64 e.l, .int .i64 e.r, .int .i64 e.w] 58)) xs (fun l : Nat => rdsE (E.take (n + 1)) (l : Int))) := (HB.out.go kE).congr (fun l hl => by
      have : (e.t == (l : Int)) = false := by simp; omega
      rw [HSU.out, this]
      simp)
     clear HB h0 h4 kE
     go_wp2
     go_roundg (E.length - (n + 1))
     case measure => omega
     case rel => exact ⟨n + 1, xs, hlt, rfl, by go_num, HBN⟩
    ·
     have d4 : decide (e.t < 4) = true := decide_eq_true (by omega)
     obtain ⟨tt, htt⟩ : ∃ tt : Nat, e.t = (tt : Int) := ⟨e.t.toNat, by omega⟩
     have htl : tt < 4 := by omega
     cases hk : rdsB e.k with
     | false =>
      rw [hk] at hW
      have HBN : Hid (∀ w5, On (wr.alloc (.cells #[.int .i64 e.t, .int .i64 e.i, .int .i64 e.k, .int .i64 e.l, .int .i64 e.r, .int .i64 e.w] 58)) w5 → RB w w5 xs (fun l : Nat => rdsE (E.take (n + 1)) (l : Int))) := fun w5 k5 => ((HB.out.go kE).go k5).congr (fun l hl => by
       rw [HSU.out, hk]
       simp)
      clear HB h0 h4 kE hk htt
      go_wp2_with fail
      refine (hW _).mono ?_
      rintro _ w5 ⟨rfl, k5⟩
      have HBM : Hid _ := HBN.out w5 k5
      clear HBN bE
      go_wp2
      go_roundg (E.length - (n + 1))
      case measure => omega
      case rel => exact ⟨n + 1, xs, hlt, rfl, by go_num, HBM⟩
     | true =>
      rw [hk] at hW
      have HVN : Hid (updF (fun l : Nat => rdsE (E.take n) (l : Int)) tt (rdsE (E.take n) (tt : Int) ++ [e.r]) = (fun l : Nat => rdsE (E.take (n + 1)) (l : Int))) := by
       show _ = _
       funext l
       rw [HSU.out, hk, htt, Bool.and_true]
       unfold updF
       by_cases hl : l = tt
       ·
        rw [if_pos hl, hl]
        simp
       ·
        have : ((tt : Int) == (l : Int)) = false := by simp; omega
        rw [if_neg hl, this]
        simp
      have HTT : Hid (e.t = (tt : Int)) := htt
      obtain ⟨x, hx⟩ : ∃ x, xs[tt]? = some x := ⟨_, List.getElem?_eq_getElem (by rw [HB.out.lx]; exact htl)⟩
      have HXX : Hid (xs[tt]? = some x) := hx
      have hown := HB.out.vs.own tt x hx
      obtain ⟨ax, mx, cx, rfl⟩ := own_slice' hown
      have hxl : (rdsE (E.take n) (tt : Int)).length ≤ 1000000 := by
       have := rdsE_len (E.take n) (tt : Int)
       rw [List.length_take] at this
       have := HEL.out
       omega
      have HXL : Hid ((rdsE (E.take n) (tt : Int)).length ≤ 1000000) := hxl
      clear h0 h4 hk htt hown hxl hx
      go_wp2_with fail
      refine (hW _).mono ?_
      rintro _ w5 ⟨rfl, k5⟩
      have HB5 : Hid (RB w w5 xs (fun l : Nat => rdsE (E.take n) (l : Int))) := (HB.out.go kE).go k5
      have HOX : Hid (w5.ownsRow w.heap.size 2 1 (.slice ax mx cx) (rdsE (E.take n) (tt : Int)).length ((rdsE (E.take n) (tt : Int)).flatMap intC)) := HB5.out.vs.own tt _ HXX.out
      have hev : w5.heap[wr.heap.size]? = some (.cells #[.int .i64 e.t, .int .i64 e.i, .int .i64 e.k, .int .i64 e.l, .int .i64 e.r, .int .i64 e.w] 58 (0, 0)) := (k5.block _ (lt_of_block HTE.out)).trans HTE.out
      have FE0 : Hid (∀ W, Kt 2 w5 W → W.cell? ⟨wr.heap.size, 0, none⟩ = some (.int .i64 (tt : Int))) := fun W kk => by
       rw [← HTT.out, World.cell?_of_block (kk.block _ _ _ _ hev (by decide))]
       simp [World.cell?, hev]
      have FE4 : Hid (∀ W, Kt 2 w5 W → W.cell? ⟨wr.heap.size, 4, none⟩ = some (.int .i64 e.r)) := fun W kk => by
       rw [World.cell?_of_block (kk.block _ _ _ _ hev (by decide))]
       simp [World.cell?, hev]
      have FNV : Hid (∀ W, Kt 2 w5 W → W.cell? ⟨w.heap.size + 1, tt, none⟩ = some (.slice ax mx cx)) := fun W kk => by
       rw [World.cell?_of_block (kk.block _ _ _ _ HB5.out.hv (by decide))]
       simp [World.cell?, HB5.out.hv, HXX.out]
      have bt0 : (0 : Int) ≤ (tt : Int) := by omega
      have bt1 : (tt : Int) < 4 := by omega
      have S0 : Kt 2 w5 w5.drew := Kt.on (On.refl w5).drew
      clear hW bE k5 kE HB hev HTE d0 d4
      go_wp2
      refine region_fin (fun W => Kt 2 w5 W) 11 12 (by kernel_rfl) rfl ?_
      refine fin_take 0 (v := ?_) rfl (by kernel_rfl) (by kernel_rfl) (by kernel_rfl) (by kernel_rfl) (fun _ _ _ h => h) rfl ?_ S0 ?_
      rotate_left
      ·
       intro W hW
       go_simp
       (try with_reducible rfl)
      simp only [zpu, zsa, zsz, zss]
      refine fin_take 1 (v := ?_) rfl (by kernel_rfl) (by kernel_rfl) (by kernel_rfl) (by kernel_rfl) (fun _ _ _ h => h) rfl ?_ S0 ?_
      rotate_left
      ·
       intro W hW
       have q0 := FE0.out W hW
       go_simp
       (try with_reducible rfl)
      simp only [zpu, zsa, zsz, zss]
      refine fin_take 2 (v := ?_) rfl (by kernel_rfl) (by kernel_rfl) (by kernel_rfl) (by kernel_rfl) (fun _ _ _ h => h) rfl ?_ S0 ?_
      rotate_left
      ·
       intro W hW
       go_simp
       (try with_reducible rfl)
      simp only [zpu, zsa, zsz, zss]
      refine fin_take 3 (v := ?_) rfl (by kernel_rfl) (by kernel_rfl) (by kernel_rfl) (by kernel_rfl) (fun _ _ _ h => h) rfl ?_ S0 ?_
      rotate_left
      ·
       intro W hW
       have q0 := FE0.out W hW
       go_simp
       (try with_reducible rfl)
      simp only [zpu, zsa, zsz, zss]
      refine fin_take 4 (v := ?_) rfl (by kernel_rfl) (by kernel_rfl) (by kernel_rfl) (by kernel_rfl) (fun _ _ _ h => h) rfl ?_ S0 ?_
      rotate_left
      ·
       intro W hW
       go_simp
       (try with_reducible rfl)
      simp only [zpu, zsa, zsz, zss]
      refine fin_take 5 (v := ?_) rfl (by kernel_rfl) (by kernel_rfl) (by kernel_rfl) (by kernel_rfl) (fun _ _ _ h => h) rfl ?_ S0 ?_
      rotate_left
      ·
       intro W hW
       have qv := FNV.out W hW
       go_simp
       (try with_reducible rfl)
      simp only [zpu, zsa, zsz, zss]
      refine fin_take 6 (v := ?_) rfl (by kernel_rfl) (by kernel_rfl) (by kernel_rfl) (by kernel_rfl) (fun _ _ _ h => h) rfl ?_ S0 ?_
      rotate_left
      ·
       intro W hW
       go_simp
       (try with_reducible rfl)
      simp only [zpu, zsa, zsz, zss]
      refine fin_take 7 (v := ?_) rfl (by kernel_rfl) (by kernel_rfl) (by kernel_rfl) (by kernel_rfl) (fun _ _ _ h => h) rfl ?_ S0 ?_
      rotate_left
      ·
       intro W hW
       have q4 := FE4.out W hW
       go_simp
       (try with_reducible rfl)
      simp only [zpu, zsa, zsz, zss]
      refine fin_one 8 rfl rfl (by kernel_rfl) (fun K hK => ?_)
      go_simp
      have kA : On w5 (w5.drew.alloc (.cells #[.int .i64 e.r] 2)) := (On.refl w5).drew.alloc _
      have cA : (w5.drew.alloc (.cells #[.int .i64 e.r] 2)).cell? ⟨w5.drew.heap.size, 0, none⟩ = some (.int .i64 e.r) := (Bk.new w5.drew #[.int .i64 e.r] 2).at rfl
      refine hK.out _ _ (fun _ => Kt.on kA) ?_
      clear hK
      refine fin_one 9 rfl rfl (by kernel_rfl) (fun K hK => ?_)
      refine wp_app1 _ _ rfl rfl rfl (own_on HOX.out kA) cA HXL.out (Nat.le_trans HB5.out.on.size kA.size) ?_
      intro v' w6 ho6 f6 kt6
      refine hK.out _ _ (fun _ => Kt.trans (Kt.on kA) kt6) ?_
      clear hK
      have HB6 := HB5.out.put HXX.out ((Fw.on _ kA).trans f6) (Kt.trans (Kt.on kA) kt6) ho6
      have hv6 := HB6.1
      have HB7 : Hid (RB w (w6.setCell ⟨w.heap.size + 1, tt, none⟩ v') (xs.set tt v') (fun l : Nat => rdsE (E.take (n + 1)) (l : Int))) := by
       have := HB6.2
       rw [HVN.out] at this
       exact this
      obtain ⟨ca, cb, cc, rfl⟩ := own_slice' ho6
      have B6 : Bk w6 (w.heap.size + 1) xs.toArray := ⟨_, hv6⟩
      have q1 := B6.at (i := tt) (v := .slice ax mx cx) (by simpa using HXX.out)
      have q2 := B6.fr tt
      have S6 : Kt 2 w5 w6 := Kt.trans (Kt.on kA) kt6
      refine fin_take 10 (v := ?_) rfl (by kernel_rfl) (by kernel_rfl) (by kernel_rfl) (by kernel_rfl) (fun _ _ _ h => h) rfl ?_ S6 ?_
      rotate_left
      ·
       intro W hW
       go_simp
       (try with_reducible rfl)
      simp only [zpu, zsa, zsz, zss]
      refine fin_one 11 rfl rfl (by kernel_rfl) (fun K hK => ?_)
      go_simp
      refine hK.out _ _ (fun e => absurd rfl e) ?_
      clear hK
      refine fin_done (by kernel_rfl) (NoPanic.normal ?_)
      go_wp2
      go_roundg (E.length - (n + 1))
      case measure => omega
      case rel => exact ⟨n + 1, _, hlt, rfl, by go_num, HB7⟩
  ·
   obtain rfl : n = E.length := by omega
   have hB := HB.out
   obtain ⟨on, hr, hv, lx, vs⟩ := hB
   match xs, lx with
   | [x0, x1, x2, x3], _ =>
    have o0 := vs.own 0 x0 rfl
    have o1 := vs.own 1 x1 rfl
    have o2 := vs.own 2 x2 rfl
    have o3 := vs.own 3 x3 rfl
    simp only [List.take_length] at o0 o1 o2 o3
    have e0 : ((0 : Nat) : Int) = 0 := rfl
    have e1 : ((1 : Nat) : Int) = 1 := rfl
    have e2 : ((2 : Nat) : Int) = 2 := rfl
    have e3 : ((3 : Nat) : Int) = 3 := rfl
    rw [e0] at o0
    rw [e1] at o1
    rw [e2] at o2
    rw [e3] at o3
    obtain ⟨a0, c0, rfl⟩ := own_slice o0
    obtain ⟨a1, c1, rfl⟩ := own_slice o1
    obtain ⟨a2, c2, rfl⟩ := own_slice o2
    obtain ⟨a3, c3, rfl⟩ := own_slice o3
    obtain ⟨ws, hws⟩ : ∃ ws, ws = [.slice a0 (rdsE E 0).length c0, .slice a1 (rdsE E 1).length c1, .slice a2 (rdsE E 2).length c2, Value.slice a3 (rdsE E 3).length c3] := ⟨_, rfl⟩
    have hrl : wr.heap[w.heap.size]? = some (.cells [.slice none 0 0, .slice none 0 0, .slice none 0 0, Value.slice none 0 0].toArray T4 (0, 0)) := hr
    have d0 := RdT.own (C := intC) (k := 1) (fun _ => rfl) (own_putsT tJ7 ws wr _ 0 o0 hrl)
    have d1 := RdT.own (C := intC) (k := 1) (fun _ => rfl) (own_putsT tJ7 ws wr _ 0 o1 hrl)
    have d2 := RdT.own (C := intC) (k := 1) (fun _ => rfl) (own_putsT tJ7 ws wr _ 0 o2 hrl)
    have d3 := RdT.own (C := intC) (k := 1) (fun _ => rfl) (own_putsT tJ7 ws wr _ 0 o3 hrl)
    have d4 := On.puts (x := w) (N := w.heap.size) (Nat.le_refl _) ws wr 0 on
    rw [hws] at d0 d1 d2 d3 d4
    have D : Hid (_ ∧ _ ∧ _ ∧ _ ∧ _) := ⟨d0, d1, d2, d3, d4⟩
    have b0 : Bk wr w.heap.size #[.slice none 0 0, .slice none 0 0, .slice none 0 0, .slice none 0 0] := ⟨_, hr⟩
    have b1 : Bk wr (w.heap.size + 1) #[.slice a0 (rdsE E 0).length c0, .slice a1 (rdsE E 1).length c1, .slice a2 (rdsE E 2).length c2, .slice a3 (rdsE E 3).length c3] := ⟨_, hv⟩
    have z0 := b0.at (i := 0) rfl
    have z1 := b0.at (i := 1) rfl
    have z2 := b0.at (i := 2) rfl
    have z3 := b0.at (i := 3) rfl
    have y0 := b1.at (i := 0) rfl
    have y1 := b1.at (i := 1) rfl
    have y2 := b1.at (i := 2) rfl
    have y3 := b1.at (i := 3) rfl
    have zf := fun i => b0.fr i
    clear o0 o1 o2 o3 d0 d1 d2 d3 d4 hws hrl on hr hv lx vs HB hgk hge hE
    go_wp2
    obtain ⟨d0, d1, d2, d3, d4⟩ := D.out
    refine bodyPost_ret (v := .agg #[.slice a0 (rdsE E 0).length c0, .slice a1 (rdsE E 1).length c1, .slice a2 (rdsE E 2).length c2, .slice a3 (rdsE E 3).length c3]) ?_ rfl ⟨a0, c0, a1, c1, a2, c2, a3, c3, rfl, d0, d1, d2, d3, d4⟩
    rw [results_cell rfl]
    clear D d0 d1 d2 d3 d4
    go_simp
end Go.Proofs.YtioiabfheeglgaaGreatDoor

namespace Go.Proofs.YtioiabfheeglgaaGreatDoor
open Go.RowKit

theorem finC_mk (g : Nat → Int) (hg : ∀ k, B64 (g k)) (k : Nat) : (finC (mkF g))[k]? = if k < 20 then some (.int .i64 (g k)) else none := by
 unfold finC
 rw [List.getElem?_map]
 by_cases h : k < 20
 ·
  rw [if_pos h, mkF_at g h (hg k)]
  rfl
 ·
  rw [if_neg h, List.getElem?_eq_none (by rw [(mkF g).h]; omega)]
  rfl
/-- An end as far as it is told: the registers of n threads, the memory of m locations. -/
def endG (LL : List (List InsT)) (x : ExT) (n m k : Nat) : Int := if k < n * 4 ∨ (16 ≤ k ∧ k < 16 + m) then endN LL x k else 0
def endT (LL : List (List InsT)) (x : ExT) (n m : Nat) : FinT := mkF (endG LL x n m)
section
variable {LL : List (List InsT)} {x : ExT}
theorem endG_b (hb : ∀ k, B64 (endN LL x k)) (n m k : Nat) : B64 (endG LL x n m k) := by
 unfold endG
 split
 ·
  exact hb k
 ·
  exact bd_zero
theorem endT_zero : endT LL x 0 0 = finZ := by
 unfold endT
 refine FinT.ext ?_
 show (List.range 20).map (fun k => wrap64 (endG LL x 0 0 k)) = List.replicate 20 0
 have : ∀ k, wrap64 (endG LL x 0 0 k) = 0 := fun k => by
  unfold endG
  rw [if_neg (by omega)]
  exact wrap64_of bd_zero
 simp only [this]
 rfl
theorem endT_at (hb : ∀ k, B64 (endN LL x k)) (n m k : Nat) (hk : k < 20) : (endT LL x n m).l[k]? = some (endG LL x n m k) := mkF_at _ hk (endG_b hb n m k)
theorem endT_reg (hb : ∀ k, B64 (endN LL x k)) {n : Nat} (hn : n < 4) : putAt (finC (endT LL x n 0)) (n * 4) [.int .i64 (thrEnd LL x.evs n).r0, .int .i64 (thrEnd LL x.evs n).r1, .int .i64 (thrEnd LL x.evs n).r2, .int .i64 (thrEnd LL x.evs n).r3] = finC (endT LL x (n + 1) 0) := by
 apply List.ext_getElem?
 intro k
 unfold putAt putAt putAt putAt putAt
 simp only [List.getElem?_set, List.length_set, finC_len]
 unfold endT
 rw [finC_mk _ (endG_b hb _ _), finC_mk _ (endG_b hb _ _)]
 have key : ∀ j, j < 4 → n * 4 + j = k → endG LL x (n + 1) 0 k = (regL (thrEnd LL x.evs n)).getD j 0 := by
  intro j hj e
  unfold endG
  rw [if_pos (by omega)]
  unfold endN
  rw [if_pos (by omega), show k / 4 = n by omega, show k % 4 = j by omega]
 by_cases hk : k < 20
 ·
  simp only [hk, if_true]
  by_cases h3 : n * 4 + 1 + 1 + 1 = k
  ·
   rw [if_pos h3, if_pos (by omega), key 3 (by omega) h3]; rfl
  ·
   rw [if_neg h3]
   by_cases h2 : n * 4 + 1 + 1 = k
   ·
    rw [if_pos h2, if_pos (by omega), key 2 (by omega) h2]; rfl
   ·
    rw [if_neg h2]
    by_cases h1 : n * 4 + 1 = k
    ·
     rw [if_pos h1, if_pos (by omega), key 1 (by omega) h1]; rfl
    ·
     rw [if_neg h1]
     by_cases h0 : n * 4 = k
     ·
      rw [if_pos h0, if_pos (by omega), key 0 (by omega) h0]; rfl
     ·
      rw [if_neg h0]
      unfold endG
      by_cases hh : k < n * 4 ∨ (16 ≤ k ∧ k < 16 + 0)
      ·
       rw [if_pos hh, if_pos (by omega)]
      ·
       rw [if_neg hh, if_neg (by omega)]
 ·
  simp only [hk, if_false]
  rw [if_neg (by omega), if_neg (by omega), if_neg (by omega), if_neg (by omega)]
theorem endT_mem (hb : ∀ k, B64 (endN LL x k)) {m : Nat} (hm : m < 4) (hc : m < x.co.length) : (finC (endT LL x 4 m)).set (16 + m) (.int .i64 (lastW x m)) = finC (endT LL x 4 (m + 1)) := by
 apply List.ext_getElem?
 intro k
 simp only [List.getElem?_set, finC_len]
 unfold endT
 rw [finC_mk _ (endG_b hb _ _), finC_mk _ (endG_b hb _ _)]
 by_cases hk : k < 20
 ·
  simp only [hk, if_true]
  by_cases h3 : 16 + m = k
  ·
   rw [if_pos h3, if_pos (by omega)]
   unfold endG
   rw [if_pos (by omega)]
   unfold endN
   rw [if_neg (by omega), show k - 16 = m by omega, if_pos hc]
  ·
   rw [if_neg h3]
   unfold endG
   by_cases hh : k < 4 * 4 ∨ (16 ≤ k ∧ k < 16 + m)
   ·
    rw [if_pos hh, if_pos (by omega)]
   ·
    rw [if_neg hh, if_neg (by omega)]
 ·
  simp only [hk, if_false]
  rw [if_neg (by omega)]
theorem mkF_congr {f g : Nat → Int} (h : ∀ k, k < 20 → f k = g k) : mkF f = mkF g := by
 refine FinT.ext ?_
 show (List.range 20).map (fun k => wrap64 (f k)) = (List.range 20).map (fun k => wrap64 (g k))
 apply List.map_congr_left
 intro k hk
 rw [h k (List.mem_range.1 hk)]
theorem endT_end : endT LL x 4 x.co.length = endF LL x := by
 refine mkF_congr (fun k hk => ?_)
 unfold endG
 by_cases h : k < 4 * 4 ∨ (16 ≤ k ∧ k < 16 + x.co.length)
 ·
  rw [if_pos h]
 ·
  rw [if_neg h]
  unfold endN
  rw [if_neg (by omega), if_neg (by omega)]
theorem endT_thr {n : Nat} (hn : LL.length ≤ n) (h4 : n ≤ 4) (m : Nat) : endT LL x n m = endT LL x 4 m := by
 refine mkF_congr (fun k hk => ?_)
 unfold endG
 by_cases h : k < n * 4 ∨ (16 ≤ k ∧ k < 16 + m)
 ·
  rw [if_pos h, if_pos (by omega)]
 ·
  rw [if_neg h]
  by_cases h2 : k < 16
  ·
   rw [if_pos (by omega)]
   unfold endN
   rw [if_pos h2, thr_none (by omega)]
   have : ∀ j, j < 4 → (regL ⟨0, 0, 0, 0, 0⟩).getD j 0 = 0 := by decide
   rw [this _ (by omega)]
  ·
   rw [if_neg (by omega)]
end
theorem wpList_fstR {ops : Array Oper} {rest : List Oper} {o : Oper} {a : Act} {w : World} {Q : Exit → Act → World → Prop} (hgd : o.guard = none) {x y : Operand} (ho : o.op = .store 36 x y)
  {N : Nat} (hx : a.eval x = .pointer (some ⟨N, 0, none⟩)) {f g : FinT} (hy : a.eval y = .agg (finA f)) (h : Bk w N (finA g)) (k : wpList Tryz.prog ops Q rest (a.put o.dst undef) (w.setRow N (finA f))) : wpList Tryz.prog ops Q (o :: rest) a w := by
 obtain ⟨T, e⟩ := h
 exact wpList_store_row hgd 36 x y ho N (finA f) hx hy T (finA g) e (by rw [finA_size]; exact fin_size) (by rw [finA_size, finA_size]) (all_oneCell_toArray (finC_one f)) k
/-- A call's end, out of its block. -/
theorem fin_ret {fn : Func} {q : Tmp} {tmps : Array Value} {W : World} {N : Nat} {f : FinT} (hr : fn.results = #[.cell q 36]) (hq : tmps.getD q undef = .pointer (some ⟨N, 0, none⟩)) (B : Bk W N (finA f)) : (results fn tmps).run Tryz.prog W = .ok (.agg (finA f)) W := by
 obtain ⟨T, e⟩ := B
 exact results_cell_row hr tmps W N T (finA f) (0, 0) _ hq e fields_fin rfl (by rw [finA_size]; exact fin_size)
theorem last_arith {nr R c nc k ne : Nat} (h0 : 0 < nr) (hR : R = nr - 1) (hc : c < nc) (hk : k < ne) : ((nr : Int) - 1 = (R : Int)) ∧ ((R : Int) < (nr : Int)) ∧ decide (nc ≤ c) = false ∧ ((nr : Int) == 0) = false ∧ decide ((k : Int) < 0) = false ∧ decide (ne ≤ k) = false ∧ (c : Int) < (nc : Int) ∧ (0 : Int) ≤ (c : Int) ∧ (k : Int) < (ne : Int) ∧ (0 : Int) ≤ (k : Int) ∧ ¬ nr = 0 := by
 refine ⟨by omega, by omega, decide_eq_false (by omega), ?_, decide_eq_false (by omega), decide_eq_false (by omega), by omega, by omega, by omega, by omega, by omega⟩
 rw [beq_eq_false_iff_ne]
 omega
set_option maxHeartbeats 2000000 in
set_option maxRecDepth 8000 in
theorem lastOf_is (x : ExT) (v : Value) (c : Nat) (w : World) (h : ExRd w v x) (r : List Int) (hr : x.co[c]? = some r) (h0 : 0 < r.length) (k : Nat) (hk : r.getD (r.length - 1) 0 = (k : Int)) (hkl : k < x.evs.length) :
  Calls Tryz.prog 25 #[v, .int .i64 c] w fun e w' => e = .returned (.int .i64 (lastW x c)) ∧ On w w' := by
 obtain ⟨a1, c1, a2, c2, a3, c3, rfl, r1, _, r3⟩ := h.ex
 have hlt : c < x.co.length := (List.getElem?_eq_some_iff.1 hr).1
 obtain ⟨e, he⟩ : ∃ e, x.evs[k]? = some e := ⟨_, List.getElem?_eq_getElem hkl⟩
 have hlw : lastW x c = e.w := by
  unfold lastW
  have e1 : x.co.getD c [] = r := by rw [List.getD_eq_getElem?_getD, hr]; rfl
  rw [e1, hk, Int.toNat_natCast, List.getD_eq_getElem?_getD, he]
  rfl
 obtain ⟨g3, o3, rfl, hg3, ax, cx, hrc, hrm, hrr⟩ := r3.row hr
 have hl1 : r[r.length - 1]? = some (k : Int) := by
  rw [← hk, List.getD_eq_getElem?_getD, List.getElem?_eq_getElem (show r.length - 1 < r.length by omega)]
  rfl
 obtain ⟨gr, orr, rfl, hgr, hcr⟩ := hrr.at hl1
 have cr : w.cell? ⟨gr, orr + (r.length - 1), none⟩ = some (.int .i64 (k : Int)) := by
  have := hcr 0 _ rfl
  rw [Nat.mul_one, Nat.add_zero] at this
  exact this
 obtain ⟨ge, oe, rfl, hge, q0, q1, q2, q3, q4, q5⟩ := rd_ev r1 he
 obtain ⟨R, hR⟩ : ∃ R, R = r.length - 1 := ⟨_, rfl⟩
 rw [← hR] at cr
 have hR0 : (0 : Int) ≤ (R : Int) := Int.natCast_nonneg R
 have hRr : R ≤ 9223372036854775807 := Nat.le_trans (by rw [hR]; exact Nat.sub_le _ _) hrm
 have hwr : wrap64 (R : Int) = (R : Int) := IntWalk.wrap64_in _ ⟨Int.le_trans (by decide) hR0, Int.ofNat_le.2 hRr⟩
 clear hRr hrm
 obtain ⟨hrl, hRl, d1, d2, d3, d4, b1, b2, b3, b4, b5⟩ := last_arith h0 hR hlt hkl
 rw [hlw]
 have KW := (On.refl w).alloc (.cells #[.slice (some ⟨ge, oe, none⟩) x.evs.length c1, .slice a2 x.rf.length c2, .slice (some ⟨g3, o3, none⟩) x.co.length c3] 41)
 have crw := (KW.cell (p := ⟨gr, orr + R, none⟩) hgr).trans cr
 have c3w := (KW.cell (p := ⟨g3, o3 + c, none⟩) hg3).trans hrc
 have q5w := (KW.cell (p := ⟨ge, oe + k * 6 + 5, none⟩) hge).trans q5
 have HK : Hid (On w _) := KW
 clear hR h r1 r3 hr h0 hk hkl hlt hlw hrr hl1 hcr hrc q0 q1 q2 q3 q4 q5 cr KW he
 generalize x.co.length = nc at *
 generalize x.evs.length = ne at *
 generalize x.rf.length = nf at *
 generalize r.length = nr at *
 go_enter Tryz.func25, Tryz.ntmps25
 go_wp2
 go_ret
 exact ⟨rfl, HK.out⟩
end Go.Proofs.YtioiabfheeglgaaGreatDoor
