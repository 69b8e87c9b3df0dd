/- Texts of blanks alone. Of no program. -/
import Derived.Test.YtacflahkofmcpaaGreatDoorJ17LexFacts
import Derived.Test.YtacflahkofmcpaaGreatDoorJ04LexBase
namespace Go.Proofs.YtacflahkofmcpaaGreatDoor

theorem all_blank {good : ByteArray → Bool} {S : ByteArray} (h : gap false (suf S 0) = S.size) : al good S 0 = ([⟨4, ⟨#[]⟩, S.size⟩], 0, 0) := by
  have hp : pl S 0 = S.size := by unfold pl; omega
  have hs : suf S (pl S 0) = [] := suf_ge (by omega)
  have hk : kd S 0 = 4 := by unfold kd; rw [hs]; rfl
  have he : eC good S 0 = 0 := by unfold eC; rw [hk]; simp
  have hx : tx S 0 = ⟨#[]⟩ := by
    apply bytes_ext
    rw [tx_list, hs, List.take_nil]
  rw [al_end (Nat.zero_le _) he hk]
  unfold tk
  rw [hk, hx, hp]

theorem gap_hashes : ∀ n : Nat, gap true (List.replicate n (35 : UInt8)) = n
  | 0 => rfl
  | n + 1 => by rw [List.replicate_succ, gap_t]; show 1 + gap true _ = _; rw [gap_hashes n]; omega
theorem gap_blanks (c : UInt8) (h : c.toNat ≠ 35) (hb : blN c.toNat = true) : ∀ n : Nat, gap false (List.replicate n c) = n
  | 0 => rfl
  | n + 1 => by rw [List.replicate_succ, gap_f, if_neg h, if_pos hb, gap_blanks c h hb n]; omega
theorem gap_same (c : UInt8) (h : c.toNat = 35 ∨ blN c.toNat = true) (n : Nat) : gap false (List.replicate n c) = n := by
  by_cases h35 : c.toNat = 35
  · have e : c = 35 := UInt8.toNat_inj.1 h35
    subst e
    cases n with
    | zero => rfl
    | succ n => rw [List.replicate_succ, gap_f, if_pos h35, gap_hashes]; omega
  · exact gap_blanks c h35 (h.resolve_left h35) n

/-- n bytes c. -/
def rep (n : Nat) (c : UInt8) : ByteArray := ⟨(List.replicate n c).toArray⟩
theorem rep_size (n : Nat) (c : UInt8) : (rep n c).size = n := by unfold rep; rw [size_list]; simp
theorem rep_al {good : ByteArray → Bool} (n : Nat) (c : UInt8) (h : c.toNat = 35 ∨ blN c.toNat = true) : al good (rep n c) 0 = ([⟨4, ⟨#[]⟩, n⟩], 0, 0) := by
  have e := all_blank (good := good) (S := rep n c) (by
    rw [rep_size]
    have : suf (rep n c) 0 = List.replicate n c := by unfold suf rep; simp
    rw [this, gap_same c h n])
  rw [rep_size] at e
  exact e
end Go.Proofs.YtacflahkofmcpaaGreatDoor

namespace Go.Proofs.YtacflahkofmcpaaGreatDoor

theorem digits_all (u : Nat) : ∀ c ∈ Lib.decDigits u, digN c.toNat = true := by
  intro c hc
  obtain ⟨k, hk⟩ := List.getElem?_of_mem hc
  obtain ⟨x, hx⟩ := Lib.digit_of_decFrom _ _ _ (decFrom_digits u) k _ hk
  unfold Lib.digitVal at hx
  by_cases h : 48 ≤ c.toNat ∧ c.toNat ≤ 57
  · unfold digN; simp [h.1, h.2]
  · rw [if_neg h] at hx; cases hx

/-- A numeral: digits, a minus ahead or none. -/
def Numeral (l : List UInt8) : Prop := ∃ ds, ds ≠ [] ∧ (∀ c ∈ ds, digN c.toNat = true) ∧ (l = ds ∨ l = 45 :: ds)
theorem digits_ne (u : Nat) : Lib.decDigits u ≠ [] := by
  have h := Lib.decDigits_length u
  have p := Lib.nDigits_pos u
  intro e
  rw [e] at h
  simp at h
  omega
theorem itoa_numeral (v : Int) : Numeral (Lib.itoa v) := by
  refine ⟨Lib.decDigits v.natAbs, digits_ne _, digits_all _, ?_⟩
  by_cases h : v < 0
  · exact Or.inr (by unfold Lib.itoa; rw [if_pos h])
  · exact Or.inl (by unfold Lib.itoa; rw [if_neg h, show v.toNat = v.natAbs by omega])

theorem dig_word {n : Nat} (h : digN n = true) : wordN n = true := by unfold wordN; rw [h]; simp
theorem dig_let {n : Nat} (h : digN n = true) : letN n = false := by
  simp only [digN, Bool.and_eq_true, decide_eq_true_eq] at h
  simp only [letN, Bool.and_eq_false_iff, decide_eq_false_iff_not]
  omega
theorem runL_digits (m : List UInt8) : ∀ ds : List UInt8, (∀ c ∈ ds, digN c.toNat = true) → runL (ds ++ m) = ds.length + runL m
  | [], _ => by simp
  | c :: ds, h => by
    rw [List.cons_append]
    simp only [runL, dig_word (h c (by simp)), if_true, List.length_cons]
    rw [runL_digits m ds (fun x hx => h x (by simp [hx]))]
    omega

theorem num_tok {l : List UInt8} (h : Numeral l) (m : List UInt8) : kind (l ++ m) = 2 ∧ tsize (l ++ m) = l.length + runL m := by
  obtain ⟨ds, hne, hd, hl⟩ := h
  cases ds with
  | nil => exact absurd rfl hne
  | cons c ds =>
    have hc := hd c (by simp)
    have hr := runL_digits m ds (fun x hx => hd x (by simp [hx]))
    rcases hl with rfl | rfl
    · rw [List.cons_append, kind_cons, tsize_cons]
      simp only [dig_let hc, hc, if_true, Bool.false_eq_true, if_false, hr, List.length_cons]
      exact ⟨trivial, by omega⟩
    · rw [List.cons_append, List.cons_append, kind_cons, tsize_cons, hd_cons]
      have e1 : letN (45 : UInt8).toNat = false := by decide
      have e2 : digN (45 : UInt8).toNat = false := by decide
      have e3 : ((45 : UInt8).toNat == 45 && digN c.toNat) = true := by rw [hc]; decide
      have hr' : runL (c :: (ds ++ m)) = ds.length + runL m + 1 := by
        simp only [runL, dig_word hc, if_true, hr]; omega
      simp only [e1, e2, e3, if_true, Bool.false_eq_true, if_false, hr', List.length_cons]
      exact ⟨trivial, by omega⟩


/-- A token's text is a number's if and only if its kind says so. -/
theorem num_kind {s : ByteArray} {a : Nat} (h : pB (tx s a) = true) : kd s a = 2 := by
  unfold pB at h
  obtain ⟨v, hv⟩ := Option.isSome_iff_exists.1 h
  have hi := parseV_of hv
  rw [tx_list] at hi
  have e : suf s (pl s a) = Lib.itoa v ++ (suf s (pl s a)).drop (sz s a) := by rw [hi, List.take_append_drop]
  show kind (suf s (pl s a)) = 2
  rw [e]
  exact (num_tok (itoa_numeral v) _).1
theorem kind_num {s : ByteArray} {a : Nat} (he : eC pB s a = 0) (h : kd s a = 2) : pB (tx s a) = true := by
  unfold eC at he
  rw [if_neg (by omega)] at he
  cases hp : pB (tx s a) with
  | true => rfl
  | false => rw [if_pos ⟨h, hp⟩] at he; cases he
end Go.Proofs.YtacflahkofmcpaaGreatDoor

namespace Go.Proofs.YtacflahkofmcpaaGreatDoor
open Go.RowKit

section
variable (w : World) (r : Nat) (s : ByteArray) (S : St)
set_option maxHeartbeats 1000000
set_option maxRecDepth 8000
theorem rnum_is (hL : LookOk) (hs : s.size ≤ 4000) (o : Bool) (h : Rx w r s S o) :
    Calls Tryz.prog 39 #[.pointer (some ⟨r, 0, none⟩)] w fun e w' => e = .returned (.int .i64 (numP s S).1) ∧ (∃ o', Rx w' r s (numP s S).2 o') ∧ (∀ a, S = .ok a → kd s a = 2 → Bk w' r (rdC s (to s a) (kd s a) (tx s a) (pl s a) (to s a) 0 0)) ∧ ((∀ a, S = .ok a → kd s a ≠ 2) → Lk w' r s (numP s S).2) ∧ Wr r w w' := by
  have hK := hL w r s S o hs h
  clear h
  cases S with
  | error er =>
    obtain ⟨c, p⟩ := er
    have hE : numP s (.error (c, p)) = (0, .error (c, p)) := by unfold numP; rw [if_neg (by simp [tokX, pB_nil])]; rfl
    rw [hE]
    simp only [lkA] at hK
    go_enter Tryz.func39, Tryz.ntmps39
    go_wp2_with fail
    refine hK.mono ?_
    rintro e w1 ⟨rfl, h1, hw1⟩
    obtain ⟨hc, c6, hlt⟩ := h1.err
    have hq : ((c : Int) != 0) = true := by simp; omega
    have hF := fun o => rfail_is (w1.alloc o) r s (.error (c, p)) 6 (by decide) (h1.alloc o)
    go_wp2_with (go_at_call 43; refine (hF _).mono ?_; rintro e w2 ⟨rfl, h2, hw2⟩)
    all_goals (try go_ret)
    all_goals exact ⟨rfl, h2.rx, (fun a h => by cases h), fun _ => h2, (hw1.alloc _).trans hw2⟩
  | ok a =>
    simp only [lkA] at hK
    by_cases hk : kd s a = 2
    · have hq : ((kd s a : Int) != 2) = false := by rw [hk]; rfl
      have HK2 : Hid (kd s a = 2) := hk
      clear hk
      obtain ⟨R, hR⟩ : ∃ R, R = numP s (.ok a) := ⟨_, rfl⟩
      rw [← hR]
      have HR : Hid (R = numP s (.ok a)) := hR
      clear hR
      go_enter Tryz.func39, Tryz.ntmps39
      go_wp2_with fail
      refine hK.mono ?_
      rintro e w1 ⟨rfl, h1, hw1⟩
      obtain ⟨hle, he, hb⟩ := h1.good
      have hp := kind_num he HK2.out
      have hE : R = (pN (tx s a), nx s (.ok a)) := by rw [HR.out]; unfold numP; rw [if_pos (show pB (tokX s (.ok a)) = true from hp)]; rfl
      have HE : Hid (R = (pN (tx s a), nx s (.ok a))) := hE
      obtain ⟨r0, r1, r2, r3, r4, r5, r6, r7, r8, r9, r10, r11, r12, r13, r14, r15⟩ := rFacts hb
      have hG := fun o => go1_is (w1.alloc o) r s a hle (hb.alloc o)
      have htz : ((tx s a).size : Int) ≤ 9223372036854775807 := by have := tokX_size (S := .ok a) hs; simp only [tokX] at this; omega
      have hV := fun W => rparse_val (tx s a) htz W
      simp only [hp] at hV
      have HW : Hid (Wr r w w1) := hw1
      clear hb h1 hK hw1 hp hE HR
      go_wp2_with fail
      refine (hG _).mono ?_
      rintro e w2 ⟨rfl, h2, h3, hw2⟩
      have hT : w2.heap[w1.heap.size]? = some (.cells #[.int .i64 (kd s a), .string (tx s a), .int .i64 (pl s a)] 71 (0, 0)) := (hw2.block w1.heap.size (by simp) (by simp; omega)).trans (heap_alloc_new w1 _)
      have t1 : w2.cell? ⟨w1.heap.size, 1, none⟩ = some (.string (tx s a)) := by simp [World.cell?, hT]
      clear hT
      go_wp2_with fail
      refine (hV _).mono ?_
      rintro e w2' ⟨v, rfl, hv, rfl⟩
      obtain rfl := hv trivial
      go_wp2
      all_goals (try go_ret)
      all_goals
        obtain rfl := HE.out
        refine ⟨rfl, ⟨true, h2⟩, fun a' ha' _ => ?_, fun h => absurd HK2.out (h a rfl), (HW.out.alloc _).trans hw2⟩
        obtain rfl : a = a' := by simpa using ha'
        exact h3
    · have hq : ((kd s a : Int) != 2) = true := by simp; omega
      have hn : pB (tokX s (.ok a)) = false := by
        cases hh : pB (tokX s (.ok a)) with
        | false => rfl
        | true => exact absurd (num_kind hh) hk
      have hE : numP s (.ok a) = (0, flS s 6 (.ok a)) := by unfold numP; rw [hn]; rfl
      have HK2 : Hid (¬ kd s a = 2) := hk
      rw [hE]
      clear hk hn hE
      go_enter Tryz.func39, Tryz.ntmps39
      go_wp2_with fail
      refine hK.mono ?_
      rintro e w1 ⟨rfl, h1, hw1⟩
      obtain ⟨hle, he, hb⟩ := h1.good
      obtain ⟨r0, r1, r2, r3, r4, r5, r6, r7, r8, r9, r10, r11, r12, r13, r14, r15⟩ := rFacts hb
      have hF := fun o => rfail_is (w1.alloc o) r s (.ok a) 6 (by decide) (h1.alloc o)
      have HW : Hid (Wr r w w1) := hw1
      clear hb hK hw1 h1
      go_wp2_with (go_at_call 43; refine (hF _).mono ?_; rintro e w2 ⟨rfl, h2, hw2⟩)
      all_goals (try go_ret)
      all_goals
        refine ⟨rfl, h2.rx, fun a' ha' hk' => ?_, fun _ => h2, (HW.out.alloc _).trans hw2⟩
        obtain rfl : a = a' := by simpa using ha'
        exact absurd hk' HK2.out
end
end Go.Proofs.YtacflahkofmcpaaGreatDoor
