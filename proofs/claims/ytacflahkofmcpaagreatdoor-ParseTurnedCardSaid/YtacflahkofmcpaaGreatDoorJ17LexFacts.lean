/- Registers, as the document's reader takes them (behind look). -/
import Derived.Test.YtacflahkofmcpaaGreatDoorJ16RefLoc
import Derived.Test.YtacflahkofmcpaaGreatDoorJ04LexBase
import Derived.Test.YtacflahkofmcpaaGreatDoorLexCut
namespace Go.Proofs.YtacflahkofmcpaaGreatDoor
open Go.RowKit

/-- A token's first byte. -/
theorem tx_hd {s : ByteArray} {a : Nat} (h : 0 < (tx s a).size) : bN (tx s a) 0 = bN s (pl s a) := by
  have hl := tx_list s a
  rw [size_list, hl] at h
  unfold bN
  have e : suf (tx s a) 0 = (suf s (pl s a)).take (sz s a) := by
    show (tx s a).data.toList.drop 0 = _
    rw [List.drop_zero, hl]
  rw [e]
  cases hs : suf s (pl s a) with
  | nil => rw [hs] at h; simp at h
  | cons c r =>
    rw [hs] at h
    cases hz : sz s a with
    | zero => rw [hz] at h; simp at h
    | succ n => rfl
theorem reg_word {s : ByteArray} {a : Nat} (h : regB (tx s a) = true) : kd s a = 1 := by
  unfold regB at h
  simp only [Bool.and_eq_true, beq_iff_eq] at h
  obtain ⟨h2, h0, _⟩ := h
  rw [tx_hd (by omega)] at h0
  have hlt : pl s a < s.size := by
    rcases Nat.lt_or_ge (pl s a) s.size with h' | h'
    · exact h'
    · rw [bN_ge h'] at h0; cases h0
  show kind (suf s (pl s a)) = 1
  rw [kind_at hlt, h0]
  rfl
section
variable (w : World) (r : Nat) (s : ByteArray) (S : St)
set_option maxHeartbeats 1000000
set_option maxRecDepth 8000
theorem register_at (hL : LookOk) (hs : s.size ≤ 4000) (o : Bool) (h : Rx w r s S o) :
    Calls Tryz.prog 84 #[.pointer (some ⟨r, 0, none⟩)] w fun e w' => e = .returned (.int .i64 (regP s S).1) ∧ (∃ o', Rx w' r s (regP s S).2 o') ∧ Wr r w w' := by
  have hK := hL w r s S o hs h
  clear h
  cases S with
  | error er =>
    obtain ⟨c, p⟩ := er
    have hE : regP s (.error (c, p)) = (0, .error (c, p)) := by unfold regP namedP; simp [tokK, tokX, regB_nil, flS]
    rw [hE]
    simp only [lkA] at hK
    go_enter Tryz.func84, Tryz.ntmps84
    go_wp2_with fail
    refine hK.mono ?_
    rintro e w1 ⟨rfl, h1, hw1⟩
    obtain ⟨hc, c6, hlt⟩ := h1.err
    have hq : ((c : Int) != 0) = true := by simp; omega
    go_wp2
    all_goals (try go_ret)
    all_goals exact ⟨rfl, (h1.alloc _).rx, hw1.alloc _⟩
  | ok a =>
    simp only [lkA] at hK
    have hP : regP s (.ok a) = namedP s (regV (tx s a)) (regB (tx s a)) (.ok a) := rfl
    have hRg := fun W => rreg_is (tx s a) W
    by_cases hk : kd s a = 1
    · have hq : ((kd s a : Int) != 1) = false := by rw [hk]; rfl
      cases hB : regB (tx s a) with
      | true =>
        have hV : rregV (tx s a) = regV (tx s a) := by unfold rregV regV; rw [hB]; rfl
        have hE : regP s (.ok a) = (regV (tx s a), nx s (.ok a)) := by rw [hP, hB]; rfl
        have hn : ¬ (regV (tx s a) < 0) := by have := (regV_bd (tx s a)).1; omega
        rw [hE]
        simp only [hV] at hRg
        clear hk hB hV hE hP
        go_enter Tryz.func84, Tryz.ntmps84
        go_wp2_with fail
        refine hK.mono ?_
        rintro e w1 ⟨rfl, h1, hw1⟩
        obtain ⟨hle, he, hb⟩ := h1.good
        obtain ⟨r0, r1, r2, r3, r4, r5, r6, r7, r8, r9, r10, r11, r12, r13, r14, r15⟩ := rFacts hb
        have hG := fun o => go1_is (w1.alloc o) r s a hle (hb.alloc o)
        have HW : Hid (Wr r w w1) := hw1
        clear hb h1 hK hw1
        go_wp2_with fail
        refine (hRg _).mono ?_
        rintro e w1' ⟨rfl, rfl⟩
        go_wp2_with fail
        refine (hG _).mono ?_
        rintro e w2 ⟨rfl, h2, _, hw2⟩
        have hT : w2.heap[w1.heap.size]? = some (.cells #[.int .i64 (kd s a), .string (tx s a), .int .i64 (pl s a)] 71 (0, 0)) := (hw2.block w1.heap.size (by simp) (by simp; omega)).trans (heap_alloc_new w1 _)
        have t1 : w2.cell? ⟨w1.heap.size, 1, none⟩ = some (.string (tx s a)) := by simp [World.cell?, hT]
        clear hT
        go_wp2_with fail
        refine (hRg _).mono ?_
        rintro e w2' ⟨rfl, rfl⟩
        go_wp2
        all_goals (try go_ret)
        all_goals exact ⟨rfl, ⟨true, h2⟩, (HW.out.alloc _).trans hw2⟩
      | false =>
        have hV : rregV (tx s a) = -1 := by unfold rregV; rw [hB]; rfl
        have hE : regP s (.ok a) = (0, flS s 7 (.ok a)) := by rw [hP, hB, named_7 _ _ hk]
        rw [hE]
        simp only [hV] at hRg
        clear hk hB hV hE hP
        go_enter Tryz.func84, Tryz.ntmps84
        go_wp2_with fail
        refine hK.mono ?_
        rintro e w1 ⟨rfl, h1, hw1⟩
        obtain ⟨hle, he, hb⟩ := h1.good
        obtain ⟨r0, r1, r2, r3, r4, r5, r6, r7, r8, r9, r10, r11, r12, r13, r14, r15⟩ := rFacts hb
        have hF := fun o => rfail_is (w1.alloc o) r s (.ok a) 7 (by decide) (h1.alloc o)
        have HW : Hid (Wr r w w1) := hw1
        clear hb hK hw1 h1
        go_wp2_with fail
        refine (hRg _).mono ?_
        rintro e w1' ⟨rfl, rfl⟩
        go_wp2_with (go_at_call 43; refine (hF _).mono ?_; rintro e w2 ⟨rfl, h2, hw2⟩)
        all_goals (try go_ret)
        all_goals exact ⟨rfl, h2.rx, (HW.out.alloc _).trans hw2⟩
    · have hq : ((kd s a : Int) != 1) = true := by simp; omega
      have hB : regB (tx s a) = false := by
        cases hh : regB (tx s a) with
        | false => rfl
        | true => exact absurd (reg_word hh) hk
      have hE : regP s (.ok a) = (0, flS s 6 (.ok a)) := by rw [hP, hB, named_6 _ _ hk]
      rw [hE]
      clear hk hB hE hP hRg
      go_enter Tryz.func84, Tryz.ntmps84
      go_wp2_with fail
      refine hK.mono ?_
      rintro e w1 ⟨rfl, h1, hw1⟩
      obtain ⟨hle, he, hb⟩ := h1.good
      obtain ⟨r0, r1, r2, r3, r4, r5, r6, r7, r8, r9, r10, r11, r12, r13, r14, r15⟩ := rFacts hb
      have hF := fun o => rfail_is (w1.alloc o) r s (.ok a) 6 (by decide) (h1.alloc o)
      have HW : Hid (Wr r w w1) := hw1
      clear hb hK hw1 h1
      go_wp2_with (go_at_call 43; refine (hF _).mono ?_; rintro e w2 ⟨rfl, h2, hw2⟩)
      all_goals (try go_ret)
      all_goals exact ⟨rfl, h2.rx, (HW.out.alloc _).trans hw2⟩
end
end Go.Proofs.YtacflahkofmcpaaGreatDoor

namespace Go.Proofs.YtacflahkofmcpaaGreatDoor
open Go.RowKit

theorem rqv (s : ByteArray) (x : Int) {b : Bool} (w : World) (hv : b = true → x = pN s) (hP : Calls Tryz.prog 82 #[.string s] w fun e w' => e = .returned (.tuple #[.int .i64 x, .bool b]) ∧ w' = w) :
    Calls Tryz.prog 82 #[.string s] w fun e w' => ∃ x : Int, e = .returned (.tuple #[.int .i64 x, .bool b]) ∧ (b = true → x = pN s) ∧ w' = w :=
  hP.mono fun _ _ h => ⟨x, h.1, hv, h.2⟩

/-- PARSE, as the document says it, takes what num.Parse takes. -/
theorem rparse_val (s : ByteArray) (hmax : (s.size : Int) ≤ 9223372036854775807) (w : World) :
    Calls Tryz.prog 82 #[.string s] w fun e w' => ∃ x : Int, e = .returned (.tuple #[.int .i64 x, .bool (pB s)]) ∧ (pB s = true → x = pN s) ∧ w' = w := by
  cases hl : s.data.toList with
  | nil =>
    obtain ⟨a, b⟩ := p_none (s := s) (by rw [hl]; rfl)
    rw [b]
    refine rqv s 0 w (fun h => by cases h) (rp_early_pos s w hmax (Or.inl ⟨by rw [size_list, hl]; rfl, by rw [isEmpty_list, hl]; rfl⟩))
  | cons c r =>
    obtain ⟨h0, hc⟩ := head_at hl
    by_cases h45 : c.toNat = 45
    · have ec : c = 45 := UInt8.toNat_inj.1 h45
      subst ec
      have c0 : (((s[0]'h0).toNat : Int) == 45) = true := by rw [hc]; rfl
      obtain ⟨d, hx⟩ : ∃ d : ByteArray, s.extract 1 s.size = d := ⟨_, rfl⟩
      have hd : d.data.toList = r := by rw [← hx, Lib.extract_to_end, hl]; rfl
      by_cases hshape : r ≠ [] ∧ r.length ≤ 19 ∧ (∀ a b, r = a :: b → a.toNat ≠ 48)
      · obtain ⟨n1, n2, n3⟩ := hshape
        obtain ⟨a, b, er⟩ : ∃ a b, r = a :: b := by cases r with | nil => exact absurd rfl n1 | cons a b => exact ⟨a, b, rfl⟩
        obtain ⟨hd0, hda⟩ := head_at (hd.trans er)
        have hP := rp_neg s d w h0 hmax c0 hx (by rw [isEmpty_list, hd, er]; rfl) (by rw [size_list, hd]; exact n2) hd0 (by have := n3 a b er; rw [hda, beq_eq_false_iff_ne]; omega)
        rw [hd] at hP
        cases hu : Lib.decFrom 0 r with
        | none =>
          obtain ⟨x, y⟩ := ref_none (m := r) true hu
          obtain ⟨p, q⟩ := p_none (s := s) (by
            rw [hl]
            cases e : parseV (45 :: r) with
            | none => rfl
            | some v =>
              obtain ⟨_, _, _, u, hu', _⟩ := neg_shape e
              rw [hu] at hu'; cases hu')
          rw [x] at hP
          rw [q]
          exact rqv s _ w (fun h => by cases h) hP
        | some u =>
          obtain ⟨x, y⟩ := ref_neg hu
          rw [x, y] at hP
          have hub : u < 10000000000000000000 := by
            have := Lib.decFrom_lt _ _ _ hu
            have k := Nat.pow_le_pow_right (n := 10) (by decide) n2
            omega
          by_cases hle : u ≤ 9223372036854775808
          · obtain ⟨p, q⟩ := p_some (s := s) (by rw [hl]; exact neg_yes n1 n3 hu hle)
            rw [q]
            refine rqv s (-(u : Int)) w (fun _ => p.symm) ?_
            have e1 : wrap64 (IntKind.u64.wrap (-(u : Int))) = -(u : Int) := by rw [IntKind.wrap_u64]; unfold wrap64; omega
            have e2 : decide ((u : Int) ≤ 9223372036854775808) = true := by simp; omega
            rw [e1, e2] at hP
            exact hP
          · obtain ⟨p, q⟩ := p_none (s := s) (by
              rw [hl]
              cases e : parseV (45 :: r) with
              | none => rfl
              | some v =>
                obtain ⟨_, _, _, u', hu', hle'⟩ := neg_shape e
                rw [hu] at hu'
                obtain rfl := Option.some.inj hu'
                exact absurd hle' hle)
            rw [q]
            have e2 : decide ((u : Int) ≤ 9223372036854775808) = false := by simp; omega
            rw [e2] at hP
            exact rqv s _ w (fun h => by cases h) hP
      · obtain ⟨p, q⟩ := p_none (s := s) (by
          rw [hl]
          cases e : parseV (45 :: r) with
          | none => rfl
          | some v =>
            obtain ⟨a, b, c, _⟩ := neg_shape e
            exact absurd ⟨a, b, c⟩ hshape)
        rw [q]
        refine rqv s 0 w (fun h => by cases h) (rp_early_neg s d w h0 hmax c0 hx ?_)
        cases r with
        | nil => exact Or.inl (by rw [isEmpty_list, hd]; rfl)
        | cons a b =>
          have ee : d.toList.isEmpty = false := by rw [isEmpty_list, hd]; rfl
          have es : d.size = (a :: b).length := by rw [size_list, hd]
          by_cases h19 : 19 < d.size
          · exact Or.inr (Or.inl ⟨ee, h19⟩)
          · obtain ⟨hd0, hda⟩ := head_at hd
            refine Or.inr (Or.inr ⟨ee, by omega, hd0, ?_⟩)
            rw [hda]
            by_cases h48 : a.toNat = 48
            · rw [h48]; rfl
            · exact absurd ⟨by simp, by omega, fun a' b' hab => by obtain ⟨rfl, _⟩ := List.cons.inj hab; exact h48⟩ hshape
    · have c0 : (((s[0]'h0).toNat : Int) == 45) = false := by rw [hc, beq_eq_false_iff_ne]; omega
      have ee : s.toList.isEmpty = false := by rw [isEmpty_list, hl]; rfl
      have es : s.size = (c :: r).length := by rw [size_list, hl]
      by_cases hshape : (c :: r).length ≤ 19 ∧ (c.toNat = 48 → r = [])
      · obtain ⟨n2, n3⟩ := hshape
        have hP := rp_pos s w h0 hmax c0 ee (by omega) (by
          by_cases h48 : c.toNat = 48
          · refine Or.inr ⟨by rw [hc, h48]; rfl, ?_⟩
            rw [es, n3 h48]; simp
          · exact Or.inl (by rw [hc, beq_eq_false_iff_ne]; omega))
        rw [hl] at hP
        cases hu : Lib.decFrom 0 (c :: r) with
        | none =>
          obtain ⟨x, y⟩ := ref_none (m := c :: r) false hu
          obtain ⟨p, q⟩ := p_none (s := s) (by
            rw [hl]
            cases e : parseV (c :: r) with
            | none => rfl
            | some v =>
              obtain ⟨_, _, u, hu', _⟩ := pos_shape h45 e
              rw [hu] at hu'; cases hu')
          rw [x] at hP
          rw [q]
          exact rqv s _ w (fun h => by cases h) hP
        | some u =>
          obtain ⟨x, y⟩ := ref_pos hu
          rw [x, y] at hP
          have hub : u < 10000000000000000000 := by
            have := Lib.decFrom_lt _ _ _ hu
            have k := Nat.pow_le_pow_right (n := 10) (by decide) n2
            omega
          by_cases hle : u < 9223372036854775808
          · obtain ⟨p, q⟩ := p_some (s := s) (by
              rw [hl]
              refine pos_yes (by simp) ?_ hu hle
              by_cases h48 : c.toNat = 48
              · exact Or.inr (by rw [n3 h48]; rfl)
              · exact Or.inl (fun a b hab => by obtain ⟨rfl, _⟩ := List.cons.inj hab; exact h48))
            rw [q]
            refine rqv s (u : Int) w (fun _ => p.symm) ?_
            have e1 : wrap64 (u : Int) = (u : Int) := by unfold wrap64; omega
            have e2 : decide ((u : Int) < 9223372036854775808) = true := by simp; omega
            rw [e1, e2] at hP
            exact hP
          · obtain ⟨p, q⟩ := p_none (s := s) (by
              rw [hl]
              cases e : parseV (c :: r) with
              | none => rfl
              | some v =>
                obtain ⟨_, _, u', hu', hle'⟩ := pos_shape h45 e
                rw [hu] at hu'
                obtain rfl := Option.some.inj hu'
                exact absurd hle' hle)
            rw [q]
            have e2 : decide ((u : Int) < 9223372036854775808) = false := by simp; omega
            rw [e2] at hP
            exact rqv s _ w (fun h => by cases h) hP
      · obtain ⟨p, q⟩ := p_none (s := s) (by
          rw [hl]
          cases e : parseV (c :: r) with
          | none => rfl
          | some v =>
            obtain ⟨a, b, _⟩ := pos_shape h45 e
            exact absurd ⟨a, b⟩ hshape)
        rw [q]
        refine rqv s 0 w (fun h => by cases h) (rp_early_pos s w hmax (Or.inr ⟨h0, c0, ee, ?_⟩))
        by_cases h19 : 19 < s.size
        · exact Or.inl h19
        · by_cases h48 : c.toNat = 48
          · refine Or.inr ⟨by omega, ?_, by rw [hc, h48]; rfl⟩
            cases r with
            | nil => exact absurd ⟨by omega, fun _ => rfl⟩ hshape
            | cons a b => rw [es]; simp
          · exact absurd ⟨by omega, fun h => absurd h h48⟩ hshape
end Go.Proofs.YtacflahkofmcpaaGreatDoor

namespace Go.Proofs.YtacflahkofmcpaaGreatDoor

theorem al_ne {good : ByteArray → Bool} {s : ByteArray} {a : Nat} {ts : List Tk} (ha : a ≤ s.size) (h : al good s a = (ts, 0, 0)) : ts ≠ [] ∧ eC good s a = 0 := by
  have he : eC good s a = 0 := by
    rcases Nat.eq_zero_or_pos (eC good s a) with h' | h'
    · exact h'
    · rw [al_err ha (by omega)] at h; simp at h; omega
  refine ⟨?_, he⟩
  by_cases h4 : kd s a = 4
  · rw [al_end ha he h4] at h
    obtain rfl : [tk s a] = ts := congrArg Prod.fst h
    simp
  · rw [al_step ha he h4] at h
    obtain rfl : tk s a :: _ = ts := congrArg Prod.fst h
    simp

/-- The error, if any, is told at a place of the text. -/
theorem al_place (good : ByteArray → Bool) (s : ByteArray) : ∀ (n a : Nat), s.size - a ≤ n → a ≤ s.size → (al good s a).2.2 ≤ s.size ∧ ((al good s a).2.1 = 0 → (al good s a).2.2 = 0) := by
  intro n
  induction n with
  | zero =>
    intro a hn ha
    by_cases he : eC good s a = 0
    · by_cases h4 : kd s a = 4
      · rw [al_end ha he h4]; simp
      · have h1 := to_gt (eC_kd he) h4
        have h2 := to_le ha
        omega
    · rw [al_err ha he]
      exact ⟨pl_le ha, fun h => absurd h he⟩
  | succ n ih =>
    intro a hn ha
    by_cases he : eC good s a = 0
    · by_cases h4 : kd s a = 4
      · rw [al_end ha he h4]; simp
      · have h1 := to_gt (eC_kd he) h4
        have h2 := to_le ha
        rw [al_step ha he h4]
        exact ih (to s a) (by omega) h2
    · rw [al_err ha he]
      exact ⟨pl_le ha, fun h => absurd h he⟩

/-- There are no more tokens than bytes, and one. -/
theorem al_count (good : ByteArray → Bool) (s : ByteArray) : ∀ (n a : Nat), s.size - a ≤ n → a ≤ s.size → (al good s a).1.length ≤ s.size - a + 1 := by
  intro n
  induction n with
  | zero =>
    intro a hn ha
    by_cases he : eC good s a = 0
    · by_cases h4 : kd s a = 4
      · rw [al_end ha he h4]; simp
      · have h1 := to_gt (eC_kd he) h4
        have h2 := to_le ha
        omega
    · rw [al_err ha he]; simp
  | succ n ih =>
    intro a hn ha
    by_cases he : eC good s a = 0
    · by_cases h4 : kd s a = 4
      · rw [al_end ha he h4]; simp
      · have h1 := to_gt (eC_kd he) h4
        have h2 := to_le ha
        have h3 := ih (to s a) (by omega) h2
        rw [al_step ha he h4]
        simp only [List.length_cons]
        omega
    · rw [al_err ha he]; simp

/-- One step through the tokens: the n-th is that of place a; it is the last just if it is the end. -/
theorem walk_step {good : ByteArray → Bool} {s : ByteArray} {ts : List Tk} {n a : Nat} (hn : n < ts.length) (ha : a ≤ s.size) (h : al good s a = (ts.drop n, 0, 0)) :
    eC good s a = 0 ∧ ts[n]? = some (tk s a) ∧ (kd s a = 4 ↔ n + 1 = ts.length) ∧ (n + 1 < ts.length → al good s (to s a) = (ts.drop (n + 1), 0, 0)) ∧ (n + 1 = ts.length → to s a = s.size) := by
  obtain ⟨_, he⟩ := al_ne ha h
  have e0 : ts.drop n = ts[n] :: ts.drop (n + 1) := List.drop_eq_getElem_cons hn
  by_cases h4 : kd s a = 4
  · rw [al_end ha he h4, e0] at h
    obtain ⟨h1, h2⟩ := List.cons.inj (congrArg Prod.fst h)
    have hl : n + 1 = ts.length := by
      have := congrArg List.length h2
      simp at this
      omega
    refine ⟨he, by rw [List.getElem?_eq_getElem hn, ← h1], ⟨fun _ => hl, fun _ => h4⟩, fun h => by omega, fun _ => ?_⟩
    have e : suf s (pl s a) = [] := kind_end.1 h4
    have p1 := pl_le ha
    have p2 : (suf s (pl s a)).length = 0 := by rw [e]; rfl
    rw [suf_length] at p2
    have p3 : sz s a = 0 := by unfold sz; rw [e]; rfl
    unfold to
    omega
  · rw [al_step ha he h4, e0] at h
    obtain ⟨h1, h2⟩ := List.cons.inj (congrArg Prod.fst h)
    have h3 : al good s (to s a) = (ts.drop (n + 1), 0, 0) := by
      rw [← h2]
      exact Prod.ext rfl (show (al good s (to s a)).2 = (0, 0) from congrArg Prod.snd h)
    obtain ⟨hne, _⟩ := al_ne (to_le ha) h3
    have hl : ¬ n + 1 = ts.length := by
      intro hl
      apply hne
      rw [hl]
      simp
    exact ⟨he, by rw [List.getElem?_eq_getElem hn, ← h1], ⟨fun h => absurd h h4, fun h => absurd h hl⟩, fun _ => h3, fun h => absurd h hl⟩

/-- One byte of what stands between tokens. -/
theorem gap_step {s : ByteArray} {k p : Nat} {b : Bool} (hk : k < s.size) (hp : k < p) (h : k + gap b (suf s k) = p) :
    (b = true ∨ bN s k = 35 ∨ blN (bN s k) = true) ∧ (k + 1) + gap ((b && bN s k != 10) || bN s k == 35) (suf s (k + 1)) = p := by
  rw [suf_lt hk] at h
  rw [bN_lt hk]
  cases b with
  | true =>
    refine ⟨Or.inl rfl, ?_⟩
    rw [gap_t] at h
    have e : ((true && (s[k]).toNat != 10) || (s[k]).toNat == 35) = ((s[k]).toNat != 10) := by
      generalize (s[k]).toNat = c
      by_cases h1 : c = 35
      · subst h1; rfl
      · have : (c == 35) = false := by rw [beq_eq_false_iff_ne]; exact h1
        rw [this]; simp
    rw [e]
    omega
  | false =>
    rw [gap_f] at h
    by_cases h1 : (s[k]).toNat = 35
    · rw [if_pos h1] at h
      refine ⟨Or.inr (Or.inl h1), ?_⟩
      have e : ((false && (s[k]).toNat != 10) || (s[k]).toNat == 35) = true := by rw [h1]; rfl
      rw [e]
      omega
    · rw [if_neg h1] at h
      by_cases h2 : blN (s[k]).toNat = true
      · rw [if_pos h2] at h
        refine ⟨Or.inr (Or.inr h2), ?_⟩
        have e : ((false && (s[k]).toNat != 10) || (s[k]).toNat == 35) = false := by
          have : ((s[k]).toNat == 35) = false := by rw [beq_eq_false_iff_ne]; exact h1
          rw [this]; rfl
        rw [e]
        omega
      · rw [if_neg h2] at h
        omega
end Go.Proofs.YtacflahkofmcpaaGreatDoor
