/- What Check tells of a made test without its last thread. Of no memory. -/
import Derived.Test.YtlnofkoemhojgaaDoorSmallP
namespace Go.Proofs.YtlnofkoemhojgaaDoor

theorem short_ok (l : List Int) (thr : List (List InsT)) (c : CondT) (hc : condOk c = true) (hL : ∀ L ∈ thr, (L.all insOk = true ∧ L.length ≤ 6 ∧ (∀ i ∈ L, xyz i.l)) ∧ skipBad L = false) : testOk ⟨⟨#[116]⟩, iniOf l, thr, c⟩ = true := by
  unfold testOk
  have hw : wordOk ⟨#[116]⟩ = true := by decide
  simp only [hw, (iniOf_ok l).1, hc, Bool.and_true, Bool.true_and, List.all_eq_true]
  intro L h
  exact (hL L h).1.1
theorem short_big (l : List Int) (thr : List (List InsT)) (h1 : 1 ≤ thr.length) (h3 : thr.length ≤ 3) (hL : ∀ L ∈ thr, (L.all insOk = true ∧ L.length ≤ 6 ∧ (∀ i ∈ L, xyz i.l)) ∧ skipBad L = false) (c : CondT) (hx : ∀ L ∈ c.any, ∀ i ∈ L, xyz i.l) (hb : condBig c.any = false) : bigT ⟨⟨#[116]⟩, iniOf l, thr, c⟩ = false := by
  have hi : hiN (locsN ⟨⟨#[116]⟩, iniOf l, thr, c⟩) := by
    unfold locsN
    exact foldHi2 (fun x : AtomT => x.l) _ _ (foldHi2 (fun x : InsT => x.l) _ _ (foldHi (fun x : InitT => x.l) _ _ ⟨0, by omega, rfl⟩ (iniOf_ok l).2.2) (fun L h => (hL L h).1.2.2)) hx
  have hn := cnt_hi hi
  unfold bigT
  rw [big_thr thr h1 h3 (fun L h => (hL L h).1.2.1), hb]
  have e3 : decide (20 < (ByteArray.mk #[116]).size) = false := by decide
  simp only [e3, Bool.or_false, Bool.false_or, decide_eq_false_iff_not]
  omega
theorem short_twice (l : List Int) : twiceFrom 0 (iniOf l) = false := by
  unfold iniOf
  split <;> simp [twiceFrom, withL]
theorem short_yes (l : List Int) (thr : List (List InsT)) (h1 : 1 ≤ thr.length) (h3 : thr.length ≤ 3) (hL : ∀ L ∈ thr, (L.all insOk = true ∧ L.length ≤ 6 ∧ (∀ i ∈ L, xyz i.l)) ∧ skipBad L = false) : checkT ⟨⟨#[116]⟩, iniOf l, thr, ⟨0, []⟩⟩ = 0 := by
  have hn : nowhere ⟨⟨#[116]⟩, iniOf l, thr, ⟨0, []⟩⟩ = false := by
    unfold nowhere
    have e1 : thr.any skipBad = false := by
      rw [List.any_eq_false]
      intro L h
      rw [(hL L h).2]
      simp
    simp [e1]
  unfold checkT
  rw [short_ok l thr _ rfl hL, short_big l thr h1 h3 hL _ (by simp) rfl, short_twice, hn]
  rfl
theorem short_none (l : List Int) : checkT ⟨⟨#[116]⟩, iniOf l, [], ⟨0, []⟩⟩ = 8 := by
  unfold checkT
  rw [short_ok l [] _ rfl (by simp)]
  have : bigT ⟨⟨#[116]⟩, iniOf l, [], ⟨0, []⟩⟩ = true := by
    unfold bigT thrBig
    simp
  rw [this]
  rfl
theorem short_far (l : List Int) (thr : List (List InsT)) (h1 : 1 ≤ thr.length) (h3 : thr.length ≤ 3) (hL : ∀ L ∈ thr, (L.all insOk = true ∧ L.length ≤ 6 ∧ (∀ i ∈ L, xyz i.l)) ∧ skipBad L = false) : checkT ⟨⟨#[116]⟩, iniOf l, thr, ⟨1, [[⟨(thr.length : Int), 0, 0, 0⟩]]⟩⟩ = 10 := by
  have hc : condOk ⟨1, [[⟨(thr.length : Int), 0, 0, 0⟩]]⟩ = true := by
    simp [condOk, rowOk, atomOk, regOk]
    omega
  have hn : nowhere ⟨⟨#[116]⟩, iniOf l, thr, ⟨1, [[⟨(thr.length : Int), 0, 0, 0⟩]]⟩⟩ = true := by
    unfold nowhere
    simp [farAtom]
  unfold checkT
  rw [short_ok l thr _ hc hL, short_big l thr h1 h3 hL _ (by simp [xyz]) rfl, short_twice, hn]
  rfl
end Go.Proofs.YtlnofkoemhojgaaDoor
