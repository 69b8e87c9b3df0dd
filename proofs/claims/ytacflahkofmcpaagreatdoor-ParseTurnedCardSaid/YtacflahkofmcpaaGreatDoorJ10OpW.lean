/- What the document's own Next answers. -/
import Derived.Test.YtacflahkofmcpaaGreatDoorRefSign
import Derived.Test.YtacflahkofmcpaaGreatDoorJ06LexAllW
import Derived.Test.YtacflahkofmcpaaGreatDoorJ02Canon
namespace Go.Proofs.YtacflahkofmcpaaGreatDoor
open Go.RowKit

/-- Where the document's Next goes on. -/
def rtoV (s : ByteArray) (a : Nat) : Nat := if eC pB s a = 0 then to s a else pl s a

theorem rnext_is (s : ByteArray) (a : Nat) (hs : s.size ≤ 140737488351232) (ha : a ≤ s.size) (w : World) :
    Calls Tryz.prog 86 #[.string s, .int .i64 a] w fun e w' => e = .returned (.tuple #[tkV s a, .int .i64 (rtoV s a), erV s a]) ∧ On w w' := by
  have hS := fun w1 => rskip_is s a hs ha w1
  have hp := pl_le (s := s) ha
  unfold tkV erV rtoV
  rcases Nat.lt_or_ge (pl s a) s.size with hlt | hge
  · have hk := kind_at hlt
    have hz := tsize_at hlt
    have ek : kd s a = kind (suf s (pl s a)) := rfl
    have ez : sz s a = tsize (suf s (pl s a)) := rfl
    by_cases h1 : letN (bN s (pl s a)) = true
    · simp only [h1, if_true] at hk hz
      have h0 : eC pB s a = 0 := by unfold eC; rw [ek, hk]; simp
      have hto : to s a = pl s a + 1 + runL (suf s (pl s a + 1)) := by unfold to; rw [ez, hz]; omega
      have hx : tx s a = s.extract (pl s a) (pl s a + 1 + runL (suf s (pl s a + 1))) := by show s.extract (pl s a) (to s a) = _; rw [hto]
      simp only [h0, if_true, hto, hx, ek, hk]
      exact rn_word s a (pl s a) w hs hlt h1 hS
    · have h1' : letN (bN s (pl s a)) = false := by simpa using h1
      by_cases h2 : digN (bN s (pl s a)) = true
      · simp only [h1', h2, if_true, Bool.false_eq_true, if_false] at hk hz
        have hto : to s a = pl s a + 1 + runL (suf s (pl s a + 1)) := by unfold to; rw [ez, hz]; omega
        have hx : tx s a = s.extract (pl s a) (pl s a + 1 + runL (suf s (pl s a + 1))) := by show s.extract (pl s a) (to s a) = _; rw [hto]
        by_cases hg : pB (tx s a) = true
        · have h0 : eC pB s a = 0 := by unfold eC; rw [ek, hk, hg]; simp
          rw [hx] at hg
          simp only [h0, if_true, hto, hx, ek, hk]
          exact rn_dig s a (pl s a) w hs hlt h1' h2 hg hS
        · have hg' : pB (tx s a) = false := by simpa using hg
          have h5 : eC pB s a = 5 := by unfold eC; rw [ek, hk, hg']; simp
          rw [hx] at hg'
          simp only [h5]
          exact rn_digbad s a (pl s a) w hs hlt h1' h2 hg' hS
      · have h2' : digN (bN s (pl s a)) = false := by simpa using h2
        by_cases h3 : bN s (pl s a) = 45 ∧ digN (bN s (pl s a + 1)) = true
        · obtain ⟨h45, hd1⟩ := h3
          have hb : (bN s (pl s a) == 45 && digN (bN s (pl s a + 1))) = true := by rw [h45, hd1]; rfl
          have hp1 : pl s a + 1 < s.size := word_lt (by unfold wordN; rw [hd1]; simp)
          simp only [h1', h2', hb, if_true, Bool.false_eq_true, if_false] at hk hz
          have hto : to s a = pl s a + 1 + runL (suf s (pl s a + 1)) := by unfold to; rw [ez, hz]; omega
          have hx : tx s a = s.extract (pl s a) (pl s a + 1 + runL (suf s (pl s a + 1))) := by show s.extract (pl s a) (to s a) = _; rw [hto]
          by_cases hg : pB (tx s a) = true
          · have h0 : eC pB s a = 0 := by unfold eC; rw [ek, hk, hg]; simp
            rw [hx] at hg
            simp only [h0, if_true, hto, hx, ek, hk]
            exact rn_min s a (pl s a) w hs hlt h1' h2' h45 hp1 hd1 hg hS
          · have hg' : pB (tx s a) = false := by simpa using hg
            have h5 : eC pB s a = 5 := by unfold eC; rw [ek, hk, hg']; simp
            rw [hx] at hg'
            simp only [h5]
            exact rn_minbad s a (pl s a) w hs hlt h1' h2' h45 hp1 hd1 hg' hS
        · have hb : (bN s (pl s a) == 45 && digN (bN s (pl s a + 1))) = false := by
            rw [Bool.and_eq_false_iff]
            by_cases h45 : bN s (pl s a) = 45
            · exact Or.inr (by have := fun h => h3 ⟨h45, h⟩; simpa using this)
            · exact Or.inl (by rw [beq_eq_false_iff_ne]; exact h45)
          simp only [h1', h2', hb, Bool.false_eq_true, if_false] at hk hz
          have hsg : Calls Tryz.prog 86 #[.string s, .int .i64 a] w fun e w' => e = .returned (sgV s (pl s a)) ∧ On w w' := by
            by_cases h45 : bN s (pl s a) = 45
            · rcases Nat.lt_or_ge (pl s a + 1) s.size with hp1 | hp1
              · exact rs_minus s a (pl s a) w hs hlt h1' h2' h45 hp1 (by have := fun h => h3 ⟨h45, h⟩; simpa using this) hS
              · exact rs_last s a (pl s a) w hs hlt h1' h2' h45 hp1 hS
            · exact rs_other s a (pl s a) w hs hlt h1' h2' h45 hS
          refine hsg.mono ?_
          rintro e w' ⟨rfl, hW⟩
          refine ⟨?_, hW⟩
          unfold sgV
          by_cases h5 : pairN (bN s (pl s a)) (bN s (pl s a + 1)) = true
          · simp only [h5, if_true] at hk hz ⊢
            have h0 : eC pB s a = 0 := by unfold eC; rw [ek, hk]; simp
            have hto : to s a = pl s a + 2 := by unfold to; rw [ez, hz]
            have hx : tx s a = s.extract (pl s a) (pl s a + 2) := by show s.extract (pl s a) (to s a) = _; rw [hto]
            simp only [h0, if_true, hto, hx, ek, hk]
            rfl
          · have h5' : pairN (bN s (pl s a)) (bN s (pl s a + 1)) = false := by simpa using h5
            by_cases h6 : oneN (bN s (pl s a)) = true
            · simp only [h5', h6, if_true, Bool.false_eq_true, if_false] at hk hz ⊢
              have h0 : eC pB s a = 0 := by unfold eC; rw [ek, hk]; simp
              have hto : to s a = pl s a + 1 := by unfold to; rw [ez, hz]
              have hx : tx s a = s.extract (pl s a) (pl s a + 1) := by show s.extract (pl s a) (to s a) = _; rw [hto]
              simp only [h0, if_true, hto, hx, ek, hk]
              rfl
            · have h6' : oneN (bN s (pl s a)) = false := by simpa using h6
              simp only [h5', h6', Bool.false_eq_true, if_false] at hk hz ⊢
              have h4 : eC pB s a = 4 := by unfold eC; rw [ek, hk]; simp
              simp only [h4]
              rfl
  · have hpe : pl s a = s.size := by omega
    have hse : suf s (pl s a) = [] := suf_ge (by omega)
    have hk : kd s a = 4 := by unfold kd; rw [hse]; rfl
    have hz : sz s a = 0 := by unfold sz; rw [hse]; rfl
    have h0 : eC pB s a = 0 := by unfold eC; rw [hk]; simp
    have hto : to s a = pl s a := by unfold to; rw [hz]; rfl
    have hx : tx s a = ⟨#[]⟩ := by
      apply bytes_ext
      rw [tx_list, hse, List.take_nil]
    simp only [h0, if_true, hto, hx, hk]
    exact rn_end s a (pl s a) w hpe hS

end Go.Proofs.YtacflahkofmcpaaGreatDoor

namespace Go.Proofs.YtacflahkofmcpaaGreatDoor

/-- Where a parser stands: ahead of a good token from a place on, or behind its first error (its number, its place). -/
abbrev St := Except (Nat × Nat) Nat

section
variable (s : ByteArray)
def norm (a : Nat) : St := if eC pB s a = 0 then .ok a else .error (eC pB s a, pl s a)
def tokK : St → Nat
  | .ok a => kd s a
  | .error _ => 0
def tokX : St → ByteArray
  | .ok a => tx s a
  | .error _ => ⟨#[]⟩
def tokP : St → Nat
  | .ok a => pl s a
  | .error _ => 0
def erC : St → Nat
  | .ok _ => 0
  | .error e => e.1
def erP : St → Nat
  | .ok _ => 0
  | .error e => e.2
/-- Behind the token. -/
def nx : St → St
  | .ok a => norm s (to s a)
  | .error e => .error e
/-- An error at the token, if there is none ahead of it. -/
def flS (c : Nat) : St → St
  | .ok a => .error (c, pl s a)
  | .error e => .error e
/-- What may be: a good token ahead, or an error that is one. -/
def Vd : St → Prop
  | .ok a => eC pB s a = 0 ∧ a ≤ s.size
  | .error e => e.1 ≠ 0

theorem norm_ok {a : Nat} (h : eC pB s a = 0) : norm s a = .ok a := by unfold norm; rw [if_pos h]
theorem norm_err {a : Nat} (h : eC pB s a ≠ 0) : norm s a = .error (eC pB s a, pl s a) := by unfold norm; rw [if_neg h]
theorem vd_norm {a : Nat} (h : a ≤ s.size) : Vd s (norm s a) := by
  by_cases h0 : eC pB s a = 0
  · rw [norm_ok s h0]; exact ⟨h0, h⟩
  · rw [norm_err s h0]; exact h0
theorem vd_nx {S : St} (h : Vd s S) : Vd s (nx s S) := by
  cases S with
  | ok a => exact vd_norm s (to_le h.2)
  | error e => exact h
theorem vd_fl {S : St} {c : Nat} (h : Vd s S) (hc : c ≠ 0) : Vd s (flS s c S) := by
  cases S with
  | ok a => exact hc
  | error e => exact h

/-! What is taken: each answers its value and where the parser stands behind it. -/
def isX (x : ByteArray) (S : St) : Bool := (tokX s S).data.toList == x.data.toList
def accS (x : ByteArray) (S : St) : St := if isX s x S then nx s S else S
def expS (x : ByteArray) (S : St) : St := if isX s x S then nx s S else flS s 6 S
def endS (S : St) : St := if tokK s S = 4 then S else flS s 6 S
def nameP (S : St) : ByteArray × St := if tokK s S = 1 then (tokX s S, nx s S) else (⟨#[]⟩, flS s 6 S)
def numP (S : St) : Int × St := if pB (tokX s S) then (pN (tokX s S), nx s S) else (0, flS s 6 S)
/-- A number that is out of bounds. -/
def outB (m : Int) (S : St) : Bool := pB (tokX s S) && (decide (pN (tokX s S) < 0) || decide (m < pN (tokX s S)))
def uptoP (m : Int) (c : Nat) (S : St) : Int × St := if outB s m S then (0, flS s c S) else numP s S
def namedP (v : Int) (ok : Bool) (S : St) : Int × St := if ok then (v, nx s S) else if tokK s S = 1 then (0, flS s 7 S) else (0, flS s 6 S)
end

/-- A register's number, written so; a location's byte. -/
def regB (x : ByteArray) : Bool := x.size == 2 && (bN x 0 == 114 && decide (48 ≤ bN x 1 ∧ bN x 1 ≤ 51))
def regV (x : ByteArray) : Int := if regB x then (bN x 1 : Int) - 48 else 0
def locB (k : Nat) (x : ByteArray) : Bool := k == 1 && x.size == 1
def locV (k : Nat) (x : ByteArray) : Int := if locB k x then (bN x 0 : Int) else 0

structure Opd where
  r : Int
  v : Int
structure InsT where
  k : Int
  r : Int
  l : Int
  a : Opd
  o : Int
  b : Opd
  n : Int
structure AtomT where
  t : Int
  r : Int
  l : Int
  v : Int
structure InitT where
  l : Int
  v : Int
structure CondT where
  k : Int
  any : List (List AtomT)
structure TestT where
  name : ByteArray
  ini : List InitT
  thr : List (List InsT)
  cond : CondT

section
variable (s : ByteArray)
def regP (S : St) : Int × St := namedP s (regV (tokX s S)) (regB (tokX s S)) S
def locP (S : St) : Int × St := namedP s (locV (tokK s S) (tokX s S)) (locB (tokK s S) (tokX s S)) S
def opdP (S : St) : Opd × St := if tokK s S = 2 then (⟨-1, (numP s S).1⟩, (numP s S).2) else (⟨(regP s S).1, 0⟩, (regP s S).2)
end
end Go.Proofs.YtacflahkofmcpaaGreatDoor

namespace Go.Proofs.YtacflahkofmcpaaGreatDoor
open Go.RowKit

/-- Only blocks p and l are written; new blocks may be. -/
structure Wp (p l : Nat) (w w' : World) : Prop where
  os : w'.os = w.os
  tape : w'.tape = w.tape
  output : w'.output = w.output
  size : w.heap.size ≤ w'.heap.size
  block : ∀ k, k < w.heap.size → k ≠ p → k ≠ l → w'.heap[k]? = w.heap[k]?
section
variable {p l : Nat} {x y z : World}
theorem Wp.refl (p l : Nat) (w : World) : Wp p l w w := ⟨rfl, rfl, rfl, Nat.le_refl _, fun _ _ _ _ => rfl⟩
theorem Wp.trans (h : Wp p l x y) (k : Wp p l y z) : Wp p l x z :=
  ⟨k.os.trans h.os, k.tape.trans h.tape, k.output.trans h.output, Nat.le_trans h.size k.size, fun i hi a b => (k.block i (Nat.lt_of_lt_of_le hi h.size) a b).trans (h.block i hi a b)⟩
theorem Wp.of_on (k : On x y) : Wp p l x y := ⟨k.os, k.tape, k.output, k.size, fun i hi _ _ => k.block i hi⟩
theorem Wp.on (h : Wp p l x y) (k : On y z) : Wp p l x z := h.trans (Wp.of_on k)
theorem Wp.of_wr (k : Wr l x y) : Wp p l x y := ⟨k.os, k.tape, k.output, k.size, fun i hi _ b => k.block i hi (by simpa using b)⟩
theorem Wp.alloc (h : Wp p l x y) (o : Obj) : Wp p l x (y.alloc o) := h.on ((On.refl _).alloc o)
theorem Wp.drew (h : Wp p l x y) : Wp p l x y.drew := ⟨h.os, h.tape, h.output, h.size, h.block⟩
theorem Wp.set {i : Nat} (h : Wp p l x y) (u : Value) : Wp p l x (y.setCell ⟨p, i, none⟩ u) :=
  h.trans ⟨rfl, rfl, rfl, by simp [World.setCell], fun k _ hne _ => Below.heap_setCell _ _ _ _ hne⟩
theorem Wp.setNew {N i : Nat} (h : Wp p l x y) (hN : x.heap.size ≤ N) (u : Value) : Wp p l x (y.setCell ⟨N, i, none⟩ u) :=
  ⟨h.os, h.tape, h.output, by simpa [World.setCell] using h.size, fun k hk a b => (Below.heap_setCell _ _ _ _ (show k ≠ N by omega)).trans (h.block k hk a b)⟩
end

theorem Lw.far {w w' : World} (h : Lw w) (k : ∀ i, i < 6 → w'.heap[i]? = w.heap[i]?) : Lw w' := by
  have key : ∀ {g : Nat} {n : String} {cs : Array Value}, Tryz.prog.globalNamed n = some g → g < 6 → w.var? Tryz.prog n = some cs → w'.var? Tryz.prog n = some cs := by
    intro g n cs hg hlt h
    unfold World.var? at h ⊢
    simp only [hg, Option.bind_some] at h ⊢
    rw [k g hlt]
    exact h
  refine ⟨key gTab (by decide) h.tab, ?_, ?_, key gSgs (by decide) h.sgs⟩
  · obtain ⟨tp, q, e⟩ := h.syn
    exact ⟨tp, q, key gSyn (by decide) e⟩
  · obtain ⟨tp, q, e⟩ := h.rng
    exact ⟨tp, q, key gRng (by decide) e⟩

/-- A parser's cells. -/
def psC (l : Nat) (s : ByteArray) (S : St) : Array Value := #[.pointer (some ⟨l, 0, none⟩), .int .i64 (tokK s S), .string (tokX s S), .int .i64 (tokP s S), .int .i64 (erC S), .int .i64 (erP S)]

/-- Block p holds a parser whose lexer lies in l, over the text s, where it stands at S. -/
structure Px (w : World) (p l : Nat) (s : ByteArray) (S : St) : Prop where
  blk : ∃ T, w.heap[p]? = some (.cells (psC l s S) T (0, 0))
  lex : ∀ a, S = .ok a → ∃ r, Inv s (to s a) r ∧ Lx w l s (to s a) r
  ll : l < w.heap.size
  ne : p ≠ l
  gp : 6 ≤ p
  gl : 6 ≤ l
  lw : Lw w
  sz : s.size ≤ 4000
  vd : Vd s S

section
variable {w w' : World} {p l : Nat} {s : ByteArray} {S : St}
theorem Px.cell (h : Px w p l s S) (i : Nat) : w.cell? ⟨p, i, none⟩ = (psC l s S)[i]? := by obtain ⟨T, h⟩ := h.blk; simp [World.cell?, h]
theorem Px.c0 (h : Px w p l s S) : w.cell? ⟨p, 0, none⟩ = some (.pointer (some ⟨l, 0, none⟩)) := h.cell 0
theorem Px.c1 (h : Px w p l s S) : w.cell? ⟨p, 1, none⟩ = some (.int .i64 (tokK s S)) := h.cell 1
theorem Px.c2 (h : Px w p l s S) : w.cell? ⟨p, 2, none⟩ = some (.string (tokX s S)) := h.cell 2
theorem Px.c3 (h : Px w p l s S) : w.cell? ⟨p, 3, none⟩ = some (.int .i64 (tokP s S)) := h.cell 3
theorem Px.c4 (h : Px w p l s S) : w.cell? ⟨p, 4, none⟩ = some (.int .i64 (erC S)) := h.cell 4
theorem Px.c5 (h : Px w p l s S) : w.cell? ⟨p, 5, none⟩ = some (.int .i64 (erP S)) := h.cell 5
theorem Px.fr (h : Px w p l s S) (i : Nat) : w.frozen? ⟨p, i, none⟩ = false := by obtain ⟨T, h⟩ := h.blk; simp [World.frozen?, h]
theorem Px.lp (h : Px w p l s S) : p < w.heap.size := by obtain ⟨T, h⟩ := h.blk; exact lt_of_block h
theorem Px.far (h : Px w p l s S) (hs : w.heap.size ≤ w'.heap.size) (k : ∀ i, i < w.heap.size → i < 6 ∨ i = p ∨ i = l → w'.heap[i]? = w.heap[i]?) : Px w' p l s S := by
  refine ⟨?_, fun a ha => ?_, Nat.lt_of_lt_of_le h.ll hs, h.ne, h.gp, h.gl, h.lw.far fun i hi => k i (Nat.lt_of_lt_of_le hi h.lw.lt) (Or.inl hi), h.sz, h.vd⟩
  · obtain ⟨T, e⟩ := h.blk
    exact ⟨T, (k p h.lp (Or.inr (Or.inl rfl))).trans e⟩
  · obtain ⟨r, hi, T, e⟩ := h.lex a ha
    exact ⟨r, hi, T, (k l h.ll (Or.inr (Or.inr rfl))).trans e⟩
theorem Px.on (h : Px w p l s S) (k : On w w') : Px w' p l s S := h.far k.size fun i hi _ => k.block i hi
theorem Px.alloc (h : Px w p l s S) (o : Obj) : Px (w.alloc o) p l s S := h.on ((On.refl _).alloc o)
theorem Px.drew (h : Px w p l s S) : Px w.drew p l s S := h.far (Nat.le_refl _) fun _ _ _ => rfl
theorem Px.setFar {N i : Nat} (h : Px w p l s S) (hp : p < N) (hl : l < N) (u : Value) : Px (w.setCell ⟨N, i, none⟩ u) p l s S :=
  h.far (by simp [World.setCell]) fun k _ hk => Below.heap_setCell _ _ _ _ (show k ≠ N by have := h.gp; omega)
end

/-- Whether it has failed. -/
def flB : St → Bool
  | .ok _ => false
  | .error _ => true
theorem flB_is {S : St} {s : ByteArray} (h : Vd s S) : ((erC S : Int) != 0) = flB S := by
  cases S with
  | ok a => rfl
  | error e => simp only [Vd] at h; simp [erC, flB]; omega

/-- A parser's block written anew: token and error. -/
theorem Px.put {w0 w1 w2 : World} {p l : Nat} {s : ByteArray} {S0 S1 : St} (h : Px w0 p l s S0) (hb : ∃ T, w2.heap[p]? = some (.cells (psC l s S1) T (0, 0))) (hw : Wp p l w0 w1) (hw2 : Wp p l w1 w2)
    (hlx : ∀ a, S1 = .ok a → ∃ r, Inv s (to s a) r ∧ Lx w1 l s (to s a) r) (hv : Vd s S1) (hk : w2.heap[l]? = w1.heap[l]?) : Px w2 p l s S1 := by
  have hw3 := hw.trans hw2
  refine ⟨hb, fun a ha => ?_, Nat.lt_of_lt_of_le h.ll hw3.size, h.ne, h.gp, h.gl, ?_, h.sz, hv⟩
  · obtain ⟨r, hi, T, e⟩ := hlx a ha
    exact ⟨r, hi, T, hk.trans e⟩
  · exact h.lw.far fun i hi => hw3.block i (Nat.lt_of_lt_of_le hi h.lw.lt) (by have := h.gp; omega) (by have := h.gl; omega)
theorem set_far {w : World} {p l i : Nat} (u : Value) (h : p ≠ l) : (w.setCell ⟨p, i, none⟩ u).heap[l]? = w.heap[l]? := Below.heap_setCell _ _ _ _ (fun e => h e.symm)

section
variable (w : World) (p l : Nat) (s : ByteArray) (S : St)
theorem failed_is (h : Px w p l s S) :
    Calls Tryz.prog 32 #[.pointer (some ⟨p, 0, none⟩)] w fun e w' => e = .returned (.bool (flB S)) ∧ w' = w := by
  have c4 := h.c4
  have hb := flB_is h.vd
  clear h
  go_enter Tryz.func32, Tryz.ntmps32
  go_wp2
  go_ret
  exact ⟨rfl, rfl⟩

set_option maxHeartbeats 1000000 in
theorem next_px (a : Nat) (h : Px w p l s (.ok a)) :
    Calls Tryz.prog 30 #[.pointer (some ⟨p, 0, none⟩)] w fun e w' => e = .returned (.tuple #[]) ∧ Px w' p l s (nx s (.ok a)) ∧ Wp p l w w' := by
  obtain ⟨r, hi, hl⟩ := h.lex a rfl
  have hN := next_is w l s (to s a) r (by have := h.sz; omega) hi hl h.gl h.lw
  have c0 := h.c0
  have hto := to_le h.vd.2
  have HP : Hid (Px w p l s (.ok a)) := h
  unfold tkV erV at hN
  show Calls _ _ _ _ fun e w' => _ ∧ Px w' p l s (norm s (to s a)) ∧ _
  by_cases h0 : eC pB s (to s a) = 0
  · simp only [h0, if_true] at hN
    rw [norm_ok s h0]
    clear hl h
    go_enter Tryz.func30, Tryz.ntmps30
    go_wp2_with fail
    refine hN.mono ?_
    rintro e w1 ⟨rfl, hl1, _, hw1⟩
    obtain ⟨T, hb⟩ := HP.out.blk
    have hb1 : w1.heap[p]? = some (.cells (psC l s (.ok a)) T (0, 0)) := (hw1.block p (lt_of_block hb) (by simpa using HP.out.ne)).trans hb
    have d1 : w1.cell? ⟨p, 1, none⟩ = some (.int .i64 (tokK s (.ok a))) := by simp [World.cell?, hb1, psC]
    have d2 : w1.cell? ⟨p, 2, none⟩ = some (.string (tokX s (.ok a))) := by simp [World.cell?, hb1, psC]
    have d3 : w1.cell? ⟨p, 3, none⟩ = some (.int .i64 (tokP s (.ok a))) := by simp [World.cell?, hb1, psC]
    have d4 : w1.cell? ⟨p, 4, none⟩ = some (.int .i64 (erC (.ok a))) := by simp [World.cell?, hb1, psC]
    have d5 : w1.cell? ⟨p, 5, none⟩ = some (.int .i64 (erP (.ok a))) := by simp [World.cell?, hb1, psC]
    have f1 : w1.frozen? ⟨p, 1, none⟩ = false := by simp [World.frozen?, hb1]
    have f2 : w1.frozen? ⟨p, 2, none⟩ = false := by simp [World.frozen?, hb1]
    have f3 : w1.frozen? ⟨p, 3, none⟩ = false := by simp [World.frozen?, hb1]
    have f4 : w1.frozen? ⟨p, 4, none⟩ = false := by simp [World.frozen?, hb1]
    have f5 : w1.frozen? ⟨p, 5, none⟩ = false := by simp [World.frozen?, hb1]
    have HB : Hid (w1.heap[p]? = some (.cells (psC l s (.ok a)) T (0, 0))) := hb1
    clear hb hb1 hN c0
    go_wp2
    go_end0
    refine ⟨rfl, HP.out.put ⟨T, ?_⟩ (Wp.of_wr hw1) (((((Wp.refl _ _ _).set _).set _).set _).set _ |>.set _) (fun a' e => ?_) ⟨h0, hto⟩ ?_, (((((Wp.of_wr hw1).set _).set _).set _).set _).set _⟩
    · exact heap_set (heap_set (heap_set (heap_set (heap_set HB.out))))
    · obtain rfl : to s a = a' := by simpa using e
      exact hl1 trivial
    · have hne := HP.out.ne
      rw [set_far _ hne, set_far _ hne, set_far _ hne, set_far _ hne, set_far _ hne]
  · simp only [h0, if_false] at hN
    rw [norm_err s h0]
    clear hl h
    go_enter Tryz.func30, Tryz.ntmps30
    go_wp2_with fail
    refine hN.mono ?_
    rintro e w1 ⟨rfl, _, hl1, hw1⟩
    obtain ⟨T, hb⟩ := HP.out.blk
    have hb1 : w1.heap[p]? = some (.cells (psC l s (.ok a)) T (0, 0)) := (hw1.block p (lt_of_block hb) (by simpa using HP.out.ne)).trans hb
    have d1 : w1.cell? ⟨p, 1, none⟩ = some (.int .i64 (tokK s (.ok a))) := by simp [World.cell?, hb1, psC]
    have d2 : w1.cell? ⟨p, 2, none⟩ = some (.string (tokX s (.ok a))) := by simp [World.cell?, hb1, psC]
    have d3 : w1.cell? ⟨p, 3, none⟩ = some (.int .i64 (tokP s (.ok a))) := by simp [World.cell?, hb1, psC]
    have d4 : w1.cell? ⟨p, 4, none⟩ = some (.int .i64 (erC (.ok a))) := by simp [World.cell?, hb1, psC]
    have d5 : w1.cell? ⟨p, 5, none⟩ = some (.int .i64 (erP (.ok a))) := by simp [World.cell?, hb1, psC]
    have f1 : w1.frozen? ⟨p, 1, none⟩ = false := by simp [World.frozen?, hb1]
    have f2 : w1.frozen? ⟨p, 2, none⟩ = false := by simp [World.frozen?, hb1]
    have f3 : w1.frozen? ⟨p, 3, none⟩ = false := by simp [World.frozen?, hb1]
    have f4 : w1.frozen? ⟨p, 4, none⟩ = false := by simp [World.frozen?, hb1]
    have f5 : w1.frozen? ⟨p, 5, none⟩ = false := by simp [World.frozen?, hb1]
    have HB : Hid (w1.heap[p]? = some (.cells (psC l s (.ok a)) T (0, 0))) := hb1
    clear hb hb1 hN c0
    go_wp2
    go_end0
    refine ⟨rfl, HP.out.put ⟨T, ?_⟩ (Wp.of_wr hw1) (((((Wp.refl _ _ _).set _).set _).set _).set _ |>.set _) (fun a' e => by cases e) h0 ?_, (((((Wp.of_wr hw1).set _).set _).set _).set _).set _⟩
    · exact heap_set (heap_set (heap_set (heap_set (heap_set HB.out))))
    · have hne := HP.out.ne
      rw [set_far _ hne, set_far _ hne, set_far _ hne, set_far _ hne, set_far _ hne]

set_option maxHeartbeats 1000000 in
theorem fail_is (c : Nat) (h : Px w p l s S) (hc : c ≠ 0) :
    Calls Tryz.prog 115 #[.pointer (some ⟨p, 0, none⟩), .int .i64 c] w fun e w' => e = .returned (.tuple #[]) ∧ Px w' p l s (flS s c S) ∧ Wp p l w w' := by
  have hF := failed_is w p l s S h
  have HP : Hid (Px w p l s S) := h
  have c3 := h.c3
  have hv := vd_fl s h.vd hc
  obtain ⟨T, hb⟩ := h.blk
  have HB : Hid (w.heap[p]? = some (.cells (psC l s S) T (0, 0))) := hb
  have hb1 := hb
  cases S with
  | ok a =>
    simp only [flB] at hF
    have d1 : w.cell? ⟨p, 1, none⟩ = some (.int .i64 (tokK s (.ok a))) := by simp [World.cell?, hb1, psC]
    have d2 : w.cell? ⟨p, 2, none⟩ = some (.string (tokX s (.ok a))) := by simp [World.cell?, hb1, psC]
    have d3 : w.cell? ⟨p, 3, none⟩ = some (.int .i64 (tokP s (.ok a))) := by simp [World.cell?, hb1, psC]
    have d4 : w.cell? ⟨p, 4, none⟩ = some (.int .i64 (erC (.ok a))) := by simp [World.cell?, hb1, psC]
    have d5 : w.cell? ⟨p, 5, none⟩ = some (.int .i64 (erP (.ok a))) := by simp [World.cell?, hb1, psC]
    have f1 : w.frozen? ⟨p, 1, none⟩ = false := by simp [World.frozen?, hb1]
    have f2 : w.frozen? ⟨p, 2, none⟩ = false := by simp [World.frozen?, hb1]
    have f3 : w.frozen? ⟨p, 3, none⟩ = false := by simp [World.frozen?, hb1]
    have f4 : w.frozen? ⟨p, 4, none⟩ = false := by simp [World.frozen?, hb1]
    have f5 : w.frozen? ⟨p, 5, none⟩ = false := by simp [World.frozen?, hb1]
    clear h hb hb1
    go_enter Tryz.func115, Tryz.ntmps115
    go_wp2_with (go_at_call 32; refine hF.mono ?_; rintro e w1 ⟨rfl, rfl⟩)
    go_end0
    refine ⟨rfl, HP.out.put ⟨T, ?_⟩ (Wp.refl _ _ _) (((((Wp.refl _ _ _).set _).set _).set _).set _ |>.set _) (fun a' e => by cases e) hv ?_, (((((Wp.refl _ _ _).set _).set _).set _).set _).set _⟩
    · exact heap_set (heap_set (heap_set (heap_set (heap_set HB.out))))
    · have hne := HP.out.ne
      rw [set_far _ hne, set_far _ hne, set_far _ hne, set_far _ hne, set_far _ hne]
  | error er =>
    simp only [flB] at hF
    have d1 : w.cell? ⟨p, 1, none⟩ = some (.int .i64 (tokK s (.error er))) := by simp [World.cell?, hb1, psC]
    have d2 : w.cell? ⟨p, 2, none⟩ = some (.string (tokX s (.error er))) := by simp [World.cell?, hb1, psC]
    have d3 : w.cell? ⟨p, 3, none⟩ = some (.int .i64 (tokP s (.error er))) := by simp [World.cell?, hb1, psC]
    have d4 : w.cell? ⟨p, 4, none⟩ = some (.int .i64 (erC (.error er))) := by simp [World.cell?, hb1, psC]
    have d5 : w.cell? ⟨p, 5, none⟩ = some (.int .i64 (erP (.error er))) := by simp [World.cell?, hb1, psC]
    have f1 : w.frozen? ⟨p, 1, none⟩ = false := by simp [World.frozen?, hb1]
    have f2 : w.frozen? ⟨p, 2, none⟩ = false := by simp [World.frozen?, hb1]
    have f3 : w.frozen? ⟨p, 3, none⟩ = false := by simp [World.frozen?, hb1]
    have f4 : w.frozen? ⟨p, 4, none⟩ = false := by simp [World.frozen?, hb1]
    have f5 : w.frozen? ⟨p, 5, none⟩ = false := by simp [World.frozen?, hb1]
    clear h hb hb1
    go_enter Tryz.func115, Tryz.ntmps115
    go_wp2_with (go_at_call 32; refine hF.mono ?_; rintro e w1 ⟨rfl, rfl⟩)
    go_end0
    refine ⟨rfl, HP.out.put ⟨T, ?_⟩ (Wp.refl _ _ _) ((((Wp.refl _ _ _).set _).set _).set _) (fun a' e => by cases e) hv ?_, (((Wp.refl _ _ _).set _).set _).set _⟩
    · exact heap_set (heap_set (heap_set HB.out))
    · have hne := HP.out.ne
      rw [set_far _ hne, set_far _ hne, set_far _ hne]

theorem fl_err {S : St} {x : ByteArray} (h : isX s x S = true) (hx : x.toList ≠ []) : ∃ a, S = .ok a := by
  cases S with
  | ok a => exact ⟨a, rfl⟩
  | error e =>
    exfalso
    unfold isX tokX at h
    rw [beq_iff_eq] at h
    rw [ByteArray.toList_eq, ← h] at hx
    exact hx rfl

theorem accept_is (x : ByteArray) (hx : x.toList ≠ []) (h : Px w p l s S) :
    Calls Tryz.prog 75 #[.pointer (some ⟨p, 0, none⟩), .string x] w fun e w' => e = .returned (.bool (isX s x S)) ∧ Px w' p l s (accS s x S) ∧ Wp p l w w' := by
  have c2 := h.c2
  unfold accS
  cases hi : isX s x S with
  | false =>
    have hq : ((tokX s S).toList == x.toList) = false := by rw [ByteArray.toList_eq, ByteArray.toList_eq]; exact hi
    simp only [Bool.false_eq_true, if_false]
    have HP : Hid (Px w p l s S) := h
    clear h hi
    go_enter Tryz.func75, Tryz.ntmps75
    go_wp2
    go_ret
    exact ⟨rfl, HP.out, Wp.refl _ _ _⟩
  | true =>
    obtain ⟨a, rfl⟩ := fl_err s hi hx
    have hq : ((tokX s (.ok a)).toList == x.toList) = true := by rw [ByteArray.toList_eq, ByteArray.toList_eq]; exact hi
    simp only [if_true]
    have hN := next_px w p l s a h
    clear h hi
    go_enter Tryz.func75, Tryz.ntmps75
    go_wp2_with (go_at_call 30; refine hN.mono ?_; rintro e w1 ⟨rfl, h1, hw1⟩)
    go_ret
    exact ⟨rfl, h1, hw1⟩

theorem expect_is (x : ByteArray) (hx : x.toList ≠ []) (h : Px w p l s S) :
    Calls Tryz.prog 73 #[.pointer (some ⟨p, 0, none⟩), .string x] w fun e w' => e = .returned (.tuple #[]) ∧ Px w' p l s (expS s x S) ∧ Wp p l w w' := by
  have hA := accept_is w p l s S x hx h
  unfold accS at hA
  unfold expS
  cases hi : isX s x S with
  | false =>
    rw [hi] at hA
    simp only [Bool.false_eq_true, if_false] at hA ⊢
    clear h
    go_enter Tryz.func73, Tryz.ntmps73
    go_wp2_with (first | (go_at_call 75; refine hA.mono ?_; rintro e w1 ⟨rfl, h1, hw1⟩) | (go_at_call 115; refine (fail_is _ p l s S 6 h1 (by decide)).mono ?_; rintro e w2 ⟨rfl, h2, hw2⟩))
    go_end0
    exact ⟨rfl, h2, hw1.trans hw2⟩
  | true =>
    rw [hi] at hA
    simp only [if_true] at hA ⊢
    clear h
    go_enter Tryz.func73, Tryz.ntmps73
    go_wp2_with (go_at_call 75; refine hA.mono ?_; rintro e w1 ⟨rfl, h1, hw1⟩)
    go_end0
    exact ⟨rfl, h1, hw1⟩

theorem end_is (h : Px w p l s S) :
    Calls Tryz.prog 81 #[.pointer (some ⟨p, 0, none⟩)] w fun e w' => e = .returned (.tuple #[]) ∧ Px w' p l s (endS s S) ∧ Wp p l w w' := by
  have c1 := h.c1
  unfold endS
  by_cases hk : tokK s S = 4
  · have hq : ((tokK s S : Int) != 4) = false := by rw [hk]; rfl
    rw [if_pos hk]
    clear hk
    go_enter Tryz.func81, Tryz.ntmps81
    go_wp2
    go_end0
    exact ⟨rfl, h, Wp.refl _ _ _⟩
  · have hq : ((tokK s S : Int) != 4) = true := by simp; omega
    rw [if_neg hk]
    have hF := fail_is w p l s S 6 h (by decide)
    clear hk h
    go_enter Tryz.func81, Tryz.ntmps81
    go_wp2_with (go_at_call 115; refine hF.mono ?_; rintro e w1 ⟨rfl, h1, hw1⟩)
    go_end0
    exact ⟨rfl, h1, hw1⟩
end
end Go.Proofs.YtacflahkofmcpaaGreatDoor

namespace Go.Proofs.YtacflahkofmcpaaGreatDoor
open Go.RowKit

theorem cell_sign {w : World} (hw : Lw w) (i : Nat) (h : i < 12) : w.cell? ⟨0, i, none⟩ = some (.string (signTexts.getD i ⟨#[]⟩)) := by
  have h0 := World.var?_cell gSgs hw.sgs i
  rw [h0]
  match i, h with
  | 0, _ | 1, _ | 2, _ | 3, _ | 4, _ | 5, _ | 6, _ | 7, _ | 8, _ | 9, _ | 10, _ | 11, _ => rfl
  | n + 12, h => omega

def sgn (k : Nat) : ByteArray := signTexts.getD k ⟨#[]⟩

set_option maxHeartbeats 400000 in
theorem op_any (s : ByteArray) (r : Nat) (h1 : 1 ≤ r) (h2 : r ≤ 12) (hlt : ∀ k, 1 ≤ k → k < r → ((sgn k).toList == s.toList) = false) (heq : r ≤ 11 → ((sgn r).toList == s.toList) = true) (w : World) (hw : Lw w) :
    Calls Tryz.prog 158 #[.string s] w fun e w' => e = .returned (.tuple #[.int .i64 (if r ≤ 11 then r else 0), .bool (decide (r ≤ 11))]) ∧ w' = w := by
  have hc : ∀ k, k < 12 → w.cell? ⟨0, k, none⟩ = some (.string (sgn k)) := fun k hk => cell_sign hw k hk
  clear hw
  go_enter Tryz.func158, Tryz.ntmps158
  go_wp2
  go_loop [4] (fun i => ∃ k : Nat, 1 ≤ k ∧ k ≤ r ∧ i = .int .i64 k) (fun i => 12 - (intOf i).toNat)
  case atStart => exact ⟨1, by omega, h1, rfl⟩
  case round =>
    obtain ⟨k, k1, k2, rfl⟩ := hrel
    by_cases hk : k < r
    · have e1 := hlt k k1 hk
      have e2 := hc k (by omega)
      clear hlt heq hc
      go_wp2
      go_round
      case rel => exact ⟨k + 1, by omega, by omega, by go_num⟩
      case measure => simp [intOf]; omega
    · obtain rfl : k = r := by omega
      by_cases h11 : k ≤ 11
      · have e1 := heq h11
        have e2 := hc k (by omega)
        clear hlt heq hc
        go_wp2
        go_ret2
        exact ⟨by simp, rfl⟩
      · clear hlt heq hc
        go_wp2
        go_ret2
        exact ⟨by simp, rfl⟩

/-- Where s stands among the signs; twelve if nowhere. -/
def opFrom (s : ByteArray) : Nat → Nat
  | 0 => 12
  | n + 1 => if ((sgn (12 - (n + 1))).toList == s.toList) = true then 12 - (n + 1) else opFrom s n
def opR (s : ByteArray) : Nat := opFrom s 11
theorem opFrom_is (s : ByteArray) (n : Nat) (hn : n ≤ 11) : 12 - n ≤ opFrom s n ∧ opFrom s n ≤ 12 ∧ (∀ k, 12 - n ≤ k → k < opFrom s n → ((sgn k).toList == s.toList) = false) ∧ (opFrom s n ≤ 11 → ((sgn (opFrom s n)).toList == s.toList) = true) := by
  induction n with
  | zero => exact ⟨by simp [opFrom], by simp [opFrom], fun k a b => by simp [opFrom] at b; omega, fun h => by simp [opFrom] at h⟩
  | succ n ih =>
    obtain ⟨r1, r2, r3, r4⟩ := ih (by omega)
    unfold opFrom
    by_cases e : ((sgn (12 - (n + 1))).toList == s.toList) = true
    · rw [if_pos e]
      exact ⟨by omega, by omega, fun k a b => by omega, fun _ => e⟩
    · rw [if_neg e]
      refine ⟨by omega, r2, fun k a b => ?_, r4⟩
      by_cases hk : k = 12 - (n + 1)
      · rw [hk]; simpa using e
      · exact r3 k (by omega) b
def opV (s : ByteArray) : Int := if opR s ≤ 11 then (opR s : Int) else 0
def opB (s : ByteArray) : Bool := decide (opR s ≤ 11)
theorem op_is (s : ByteArray) (w : World) (hw : Lw w) :
    Calls Tryz.prog 158 #[.string s] w fun e w' => e = .returned (.tuple #[.int .i64 (opV s), .bool (opB s)]) ∧ w' = w :=
  have h := opFrom_is s 11 (by omega)
  op_any s (opR s) h.1 h.2.1 h.2.2.1 h.2.2.2 w hw
end Go.Proofs.YtacflahkofmcpaaGreatDoor
