/- An Ask's words: nil is nothing. -/
import Derived.Test.YtdgbojlcnkpepaaOpen
import Derived.Test.YtdgbojlcnkpepaaLe
namespace Go.Proofs.Ytdgbojlcnkpepaa
open Go.ChangeShapes Go.WideShapes Go.ChangeAt Go.RowKit

theorem ws_nil {H : Type} {enc : TypeId × Value → H} {W : World} {fuel : Nat} {sp : Nat → Bool} {hd : Bool} {v : Value} {x : DataW H × List MemPlace} (h : DataW.trod enc Try.prog W 0 sp hd fuel 22 [v] = some x) : NilOK v := by
  rcases open_ints Try.underlying22 Try.underlying54 (by kernel_rfl) h with ⟨hcs, _⟩ | ⟨x, l, c, zs, hcs, _⟩
  · simp at hcs
    subst hcs
    intro n c e
    cases e
    exact ⟨rfl, rfl⟩
  · simp at hcs
    subst hcs
    intro n c e
    cases e

theorem bm_nil {H : Type} {enc : TypeId × Value → H} {W : World} {n : Nat} {sp : Nat → Bool} {hd : Bool} {a b v : Value} {x : DataW H × List MemPlace} (h : DataW.trod enc Try.prog W 0 sp hd n 24 [a, b, v] = some x) : NilOK v := by
  obtain ⟨y0, y1, y2, m, _, hlen, t0, t1, t2⟩ := Deep.trod_struct3 Try.underlying24 h
  simp only [Try.cells3, Try.cells22] at t0 t1 t2
  exact ws_nil t2

theorem ask_nil {H : Type} {enc : TypeId × Value → H} {W : World} {v0 : Value} {d0 : DataW H} {p0 : List MemPlace} (h0 : DataW.Trod enc Try.prog W 0 (fun _ => true) true 27 v0 d0 p0) (a0 a1 v a3 a4 a5 : Value) (e : v0 = .agg #[a0, a1, v, a3, a4, a5]) : NilOK v := by
  subst e
  obtain ⟨fuel, hf⟩ := h0
  obtain ⟨y0, y1, y2, y3, m, _, hlen, t0, t1, t2, t3⟩ := Joins.trod_struct4 Try.underlying27 hf
  simp only [Try.cells24, Value.cells] at t0
  exact bm_nil t0

end Go.Proofs.Ytdgbojlcnkpepaa
