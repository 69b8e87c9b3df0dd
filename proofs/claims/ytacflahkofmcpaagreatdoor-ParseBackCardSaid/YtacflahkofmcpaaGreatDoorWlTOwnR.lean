/- A made test, as it is read. -/
import Derived.Test.YtacflahkofmcpaaGreatDoorJ23WlSmallH
namespace Go.Proofs.YtacflahkofmcpaaGreatDoor.Wl
open Go.RowKit

theorem TOwn.rd4 {w : World} {base : Nat} {v : Value} {t : TestT} (h : TOwn w base v t) : ∃ a1 c1 a2 c2 a3 c3, v = .agg #[.string t.name, .slice a1 t.ini.length c1, .slice a2 t.thr.length c2, .int .i64 t.cond.k, .slice a3 t.cond.any.length c3] ∧
    Rd iniC 2 w (.slice a1 t.ini.length c1) t.ini ∧ Rd2 insC 9 w (.slice a2 t.thr.length c2) t.thr ∧ Rd2 atomC 4 w (.slice a3 t.cond.any.length c3) t.cond.any := by
  obtain ⟨a1, c1, a2, c2, a3, c3, e, h1, h2, h3⟩ := h
  exact ⟨a1, c1, a2, c2, a3, c3, e, Rd.own (fun _ => rfl) h1, h2.rd (fun _ => rfl), h3.rd (fun _ => rfl)⟩
end Go.Proofs.YtacflahkofmcpaaGreatDoor.Wl
