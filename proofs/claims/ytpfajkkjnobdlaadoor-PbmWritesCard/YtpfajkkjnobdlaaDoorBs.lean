/- Bitmaps handed in, opened; both writers side by side. -/
import Derived.Test.YtpfajkkjnobdlaaDoorOq
import Derived.Test.YtpfajkkjnobdlaaDoorLe
import Derived.Test.YtpfajkkjnobdlaaDoorLk
import Derived.Test.YtpfajkkjnobdlaaDoorWt
import Derived.Test.YtpfajkkjnobdlaaDoorWy
namespace Go.Proofs.YtpfajkkjnobdlaaDoor
open Go.ChangeShapes Go.WideShapes Go.ChangeAt Go.RowKit
set_option maxRecDepth 100000

theorem ws_nil {H : Type} {enc : TypeId × Value → H} {W : World} {fuel : Nat} {sp : Nat → Bool} {hd : Bool} {v : Value} {x : DataW H × List MemPlace} (h : DataW.trod enc Tryd.prog W 0 sp hd fuel 23 [v] = some x) : NilOK v := by
  rcases open_ints Tryd.underlying23 Tryd.underlying50 (by kernel_rfl) h with ⟨hcs, _⟩ | ⟨x, l, c, zs, hcs, _⟩
  · simp at hcs
    subst hcs
    intro n c e
    cases e
    exact ⟨rfl, rfl⟩
  · simp at hcs
    subst hcs
    intro n c e
    cases e
theorem bm_nil {H : Type} {enc : TypeId × Value → H} {W : World} {n : Nat} {sp : Nat → Bool} {hd : Bool} {a b v : Value} {x : DataW H × List MemPlace} (h : DataW.trod enc Tryd.prog W 0 sp hd n 25 [a, b, v] = some x) : NilOK v := by
  obtain ⟨y0, y1, y2, m, _, hlen, t0, t1, t2⟩ := Deep.trod_struct3 Tryd.underlying25 h
  simp only [Tryd.cells3, Tryd.cells23] at t0 t1 t2
  exact ws_nil t2

/-- Bitmaps that are handed in. -/
structure Bp where
  x : Int
  y : Int
  v : Value
  l : List Nat
structure BpOK (w : World) (a : Bp) : Prop where
  hx : -9223372036854775808 ≤ a.x ∧ a.x ≤ 9223372036854775807
  hy : -9223372036854775808 ≤ a.y ∧ a.y ≤ 9223372036854775807
  hv : Seen w a.v a.l
  hn : NilOK a.v
  hlt : ∀ j : Nat, a.l[j]?.getD 0 < 18446744073709551616
structure BpsAt (w : World) (ao : Option Addr) (n : Nat) (A : Nat → Bp) : Prop where
  len : n ≤ 9223372036854775807
  cells : 0 < n → ∃ b off, ao = some ⟨b, off, none⟩ ∧ ∀ j, j < n → w.cell? ⟨b, off + j * 3, none⟩ = some (.int .i64 (A j).x) ∧ w.cell? ⟨b, off + j * 3 + 1, none⟩ = some (.int .i64 (A j).y) ∧ w.cell? ⟨b, off + j * 3 + 2, none⟩ = some (A j).v
  ok : ∀ j, j < n → BpOK w (A j)

theorem open_bps {H : Type} {enc : TypeId × Value → H} {W : World} {base : Nat} {v0 : Value} {d0 : DataW H} {p0 : List MemPlace} (hv : Value.okWide Tryd.prog W .any base 22 v0) (h0 : DataW.Trod enc Tryd.prog W 0 (fun _ => true) true 22 v0 d0 p0) :
    ∃ ao n cap A, v0 = .slice ao n cap ∧ BpsAt W ao n A := by
  obtain ⟨a0, len0, cap0, rfl⟩ := okWide_slice Tryd.underlying22 hv
  obtain ⟨fuel, h⟩ := h0
  rcases Deep.open_slice Tryd.underlying22 h with ⟨hcs, _⟩ | ⟨a, len, cap, m, f, D, Pl, hcs, _, hlc, hmx, hm, _, hel⟩
  · simp [Value.cells] at hcs
    obtain ⟨rfl, rfl, rfl⟩ := hcs
    exact ⟨none, 0, 0, fun _ => ⟨0, 0, .slice none 0 0, []⟩, rfl, by omega, by omega, by omega⟩
  · simp [Value.cells] at hcs
    obtain ⟨rfl, rfl, rfl⟩ := hcs
    have hlm : len0 ≤ m := by rw [hm]; split <;> omega
    have hex : ∀ i, i < len0 → ∃ y : Bp, (W.cell? ((a.add (i * 3)).add 0) = some (.int .i64 y.x) ∧ W.cell? ((a.add (i * 3)).add 1) = some (.int .i64 y.y) ∧ W.cell? ((a.add (i * 3)).add 2) = some y.v) ∧ BpOK W y := by
      intro i hi
      obtain ⟨cs', hc, ht⟩ := hel i (by omega)
      obtain ⟨x, y, v, l, rfl, b1, b2, b3, b5⟩ := bm_elem ht
      rw [Tryd.cells25] at hc
      have hcc := (World.cells?_some hc).2.2
      exact ⟨⟨x, y, v, l⟩, ⟨hcc 0 (by omega), hcc 1 (by omega), hcc 2 (by omega)⟩, b1, b2, b3, bm_nil ht, b5⟩
    have hinh : Inhabited Bp := ⟨⟨0, 0, .slice none 0 0, []⟩⟩
    obtain ⟨f, hf⟩ := Deep.choose_lt hex
    refine ⟨some a, len0, cap0, f, rfl, by unfold maxLen at hmx; omega, fun hn => ?_, fun i hi => (hf i hi).2⟩
    obtain ⟨b, off, spot⟩ := a
    have hspot : spot = none := by
      have := World.cell?_spot (hf 0 hn).1.1
      simpa [Addr.add] using this
    subst hspot
    refine ⟨b, off, rfl, fun j hj => ?_⟩
    have := (hf j hj).1
    simp only [addr_add] at this
    exact this

/-- What a writer answers: nothing, or a row of its own. -/
def ResB (w : World) (F : List Nat) (r : Value) (w' : World) : Prop := F.length ≤ 8388608 ∧ ((F = [] ∧ r = .slice none 0 0) ∨ FileR w F r w')
theorem ResB.seen {S : Nat → Prop} {w w1 w2 : World} {F : List Nat} {r : Value} (h : ResB w F r w1) (f : Fr S w1 w2) (hs : ∀ k, S k → k < w.heap.size) : SeenAt w2 r F := by
  obtain ⟨hl, ⟨rfl, rfl⟩ | ⟨g, cap, rfl, hr, hg⟩⟩ := h
  · exact ⟨none, 0, rfl, by simp, fun h => absurd rfl h⟩
  · exact (hr.kept f (fun h => by have := hs _ h; omega)).seen (by omega)

theorem both_any (x y : Int) (l : List Nat) (k : Int) (hx : -9223372036854775808 ≤ x ∧ x ≤ 9223372036854775807) (hy : -9223372036854775808 ≤ y ∧ y ≤ 9223372036854775807) (hlt : ∀ j : Nat, l[j]?.getD 0 < 18446744073709551616) :
    ∃ (er : Int) (F : List Nat), (∀ w v, Seen w v l → TabAt w → Calls Tryd.prog 8 #[.agg #[.int .i64 x, .int .i64 y, v], .int .i64 k] w fun e w' => Fr (fun _ => False) w w' ∧ ∃ r, e = .returned (.tuple #[r, .int .i64 er]) ∧ ResB w F r w') ∧
      (∀ w v, Seen w v l → Calls Tryd.prog 9 #[.agg #[.int .i64 x, .int .i64 y, v], .int .i64 k] w fun e w' => Fr (fun _ => False) w w' ∧ ∃ r, e = .returned (.tuple #[r, .int .i64 er]) ∧ ResB w F r w') := by
  by_cases hk : k ≠ 0 ∧ k ≠ 1
  · refine ⟨34, [], fun w v hv _ => (write_kind x y v k w hk (by obtain ⟨ao, c, e, _⟩ := hv; exact ⟨ao, _, c, e⟩)).mono ?_, fun w v hv => (rwrite_kind x y v k w hk (by obtain ⟨ao, c, e, _⟩ := hv; exact ⟨ao, _, c, e⟩)).mono ?_⟩
    · rintro e w' ⟨rfl, hf⟩; exact ⟨hf, _, rfl, by simp, Or.inl ⟨rfl, rfl⟩⟩
    · rintro e w' ⟨rfl, hf⟩; exact ⟨hf, _, rfl, by simp, Or.inl ⟨rfl, rfl⟩⟩
  · have hk' : k = 0 ∨ k = 1 := by omega
    cases hb : validB x y l
    · refine ⟨30, [], fun w v hv _ => (write_no x y v l k w hk' hx hy hv hlt hb).mono ?_, fun w v hv => (rwrite_no x y v l k w hk' hx hy hv hlt hb).mono ?_⟩
      · rintro e w' ⟨rfl, hf⟩; exact ⟨hf, _, rfl, by simp, Or.inl ⟨rfl, rfl⟩⟩
      · rintro e w' ⟨rfl, hf⟩; exact ⟨hf, _, rfl, by simp, Or.inl ⟨rfl, rfl⟩⟩
    · obtain ⟨W, H, rfl, rfl, h1, h2, h3, hl, hr⟩ := valid_parts hb
      have hlr : l = render W H (pixOf W l) := valid_render W H l h1 hl hr hlt
      have hs : sizeS W H = true := sizeS_iff.2 ⟨h1, h2, h3⟩
      have hmy : ∀ (w0 : World) v, Seen w0 v l → ∀ w', Fr (fun _ => False) w0 w' → Calls Tryd.prog 18 #[.agg #[.int .i64 (W : Int), .int .i64 (H : Int), v]] w' fun e w'' => e = .returned (.bool true) ∧ Fr (fun _ => False) w' w'' := fun w0 v hv w' hf => by
        have h := may_any (W : Int) (H : Int) v l w' hx hy (hv.kept hf) hlt
        rw [hb] at h
        exact h
      rcases hk' with rfl | rfl
      · refine ⟨0, fileS true W H (pixOf W l), fun w v hv ht => (write_ok true W H v l w hv hlt hb ht).mono ?_, fun w v hv => (rwrite_txt W H v (pixOf W l) w (by rw [← hlr]; exact hv) ⟨h1, h2, h3⟩ (hmy w v hv)).mono ?_⟩
        · rintro e w' ⟨hf, r, rfl, h⟩; exact ⟨hf, _, rfl, fileS_lim true W H _ hs, Or.inr h⟩
        · rintro e w' ⟨hf, r, rfl, h⟩; exact ⟨hf, _, rfl, fileS_lim true W H _ hs, Or.inr h⟩
      · refine ⟨0, fileS false W H (pixOf W l), fun w v hv ht => (write_ok false W H v l w hv hlt hb ht).mono ?_, fun w v hv => (rwrite_byt W H v (pixOf W l) w (by rw [← hlr]; exact hv) ⟨h1, h2, h3⟩ (hmy w v hv)).mono ?_⟩
        · rintro e w' ⟨hf, r, rfl, h⟩; exact ⟨hf, _, rfl, fileS_lim false W H _ hs, Or.inr h⟩
        · rintro e w' ⟨hf, r, rfl, h⟩; exact ⟨hf, _, rfl, fileS_lim false W H _ hs, Or.inr h⟩
end Go.Proofs.YtpfajkkjnobdlaaDoor
