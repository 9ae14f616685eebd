/- The reference's decoder: a byte comes in. -/
import Derived.Test.YtdbblgceeclpaaaRd
namespace Go.Proofs.Ytdbblgceeclpaaa
open Go.RowKit

/-- What a step of it may touch. -/
abbrev RdStep (br gs gz : Nat) (w w' : World) : Prop := Fr (fun k => k = br ∨ k = gs ∨ k = gz) w w'

set_option maxRecDepth 100000 in
set_option maxHeartbeats 2000000 in
theorem rin_any (w : World) (br gt ct gs gz n : Nat) (vb : Value) (B : List Nat) (o : De) (h : RdAt w br gt ct gs gz n vb B o) (hB : ∀ y ∈ B, y < 256) (hw : Dw B o.s) :
    Calls Try.prog 47 #[.pointer (some ⟨br, 0, none⟩)] w fun e w' => e = .returned (.tuple #[]) ∧ RdAt w' br gt ct gs gz n vb B { o with s := inD B o.s } ∧ RdStep br gs gz w w' := by
  obtain ⟨e0, e1, e2, e3, e4, e5, e6, e7, e8, ef⟩ := cell_of_nine h.blk
  have HO : Hid (RdAt w br gt ct gs gz n vb B o) := h
  have hp := hw.plt
  have hlim := h.lim
  have hc := hw.clt
  have HBB : Hid (∀ y ∈ B, y < 256) := hB
  have hbl := h.lt
  obtain ⟨⟨a, c, t, p⟩, x, made⟩ := o
  simp only [] at *
  have hlt1 := byteD_lt hB p
  have hlt2 := byteD_lt hB (p + 1)
  have HU : Hid (inD B { a := a, c := c, t := t, p := p } = if byteD B p ≠ 255 then { a := a, c := (c + byteD B (p + 1) * 256) % 4294967296, t := 8, p := p + 1 } else if 143 < byteD B (p + 1) then { a := a, c := (c + 65280) % 4294967296, t := 8, p := p } else { a := a, c := (c + byteD B (p + 1) * 512) % 4294967296, t := 7, p := p + 1 }) := rfl
  have HN1 : Hid (Calls Try.prog 46 #[.pointer (some ⟨br, 0, none⟩), .int .i64 (p : Int)] w fun e w' => e = .returned (.int .i64 (byteD B p : Nat)) ∧ w' = w) := rbyte_any w br gt ct gs gz n vb B _ HO.out HBB.out p (by omega)
  have HN2 : Hid (Calls Try.prog 46 #[.pointer (some ⟨br, 0, none⟩), .int .i64 ((p : Int) + 1)] w fun e w' => e = .returned (.int .i64 (byteD B (p + 1) : Nat)) ∧ w' = w) := rbyte_any w br gt ct gs gz n vb B _ HO.out HBB.out (p + 1) (by omega)
  have HN3 : Hid (∀ w', Fr (fun _ => False) (w.setCell ⟨br, 8, none⟩ (.int .i64 ((p : Int) + 1))) w' → Calls Try.prog 46 #[.pointer (some ⟨br, 0, none⟩), .int .i64 ((p : Int) + 1)] w' fun e w'' => e = .returned (.int .i64 (byteD B (p + 1) : Nat)) ∧ w'' = w') := fun w' f => by
    have h3 := HO.out.setP (p + 1)
    rw [show ((p + 1 : Nat) : Int) = (p : Int) + 1 by omega] at h3
    exact rbyte_any _ br gt ct gs gz n vb B _ (h3.keptAll f) HBB.out (p + 1) (by omega)
  clear h hw hB
  obtain ⟨u, hu⟩ : ∃ u, u = byteD B p := ⟨_, rfl⟩
  obtain ⟨v, hv⟩ : ∃ v, v = byteD B (p + 1) := ⟨_, rfl⟩
  rw [← hu] at hlt1 HU HN1
  rw [← hv] at hlt2 HU HN2 HN3
  clear hu hv
  have hand : ∀ m : Nat, m < 8589934592 → bits BinOp.and IntKind.i64 (m : Int) 4294967295 = ((m % 4294967296 : Nat) : Int) := fun m hm => band64 m 32 (by omega) (by decide)
  have HAnd : Hid (∀ m : Nat, m < 8589934592 → bits BinOp.and IntKind.i64 (m : Int) 4294967295 = ((m % 4294967296 : Nat) : Int)) := hand
  clear hand
  by_cases h1 : u = 255
  · subst h1
    by_cases h2 : 143 < v
    · obtain ⟨d, HD⟩ : ∃ d, Hid (d = (c + 65280) % 4294967296) := ⟨_, rfl⟩
      have hd : bits BinOp.and IntKind.i64 ((c : Int) + 65280) 4294967295 = (d : Int) := by
        have := HAnd.out (c + 65280) (by omega)
        rw [HD.out]; exact this
      rw [if_neg (by simp), if_pos h2, ← HD.out] at HU
      go_enter Try.func47, Try.ntmps47
      go_wp2_with fail
      refine HN1.out.mono ?_
      rintro e w1 ⟨rfl, hw1⟩
      subst hw1
      go_wp2_with fail
      refine HN2.out.mono ?_
      rintro e w2 ⟨rfl, hw2⟩
      subst hw2
      go_wp2_with fail
      go_end0
      refine ⟨rfl, ?_, Fr.setCell (Fr.setCell (Fr.setCell (Fr.refl _ _) (fun _ => Or.inl rfl) _) (fun _ => Or.inl rfl) _) (fun _ => Or.inl rfl) _⟩
      rw [HU.out]
      have h9 := ((HO.out.setC (c + 65280)).setT 8).setC d
      rw [show ((c + 65280 : Nat) : Int) = (c : Int) + 65280 by omega] at h9
      exact h9
    · obtain ⟨d, HD⟩ : ∃ d, Hid (d = (c + v * 512) % 4294967296) := ⟨_, rfl⟩
      have hd : bits BinOp.and IntKind.i64 ((c : Int) + (v : Int) * 512) 4294967295 = (d : Int) := by
        have := HAnd.out (c + v * 512) (by omega)
        rw [show ((c + v * 512 : Nat) : Int) = (c : Int) + (v : Int) * 512 by omega] at this
        rw [HD.out]; exact this
      rw [if_neg (by simp), if_neg h2, ← HD.out] at HU
      go_enter Try.func47, Try.ntmps47
      go_wp2_with fail
      refine HN1.out.mono ?_
      rintro e w1 ⟨rfl, hw1⟩
      subst hw1
      go_wp2_with fail
      refine HN2.out.mono ?_
      rintro e w2 ⟨rfl, hw2⟩
      subst hw2
      go_wp2_with fail
      go_end0
      refine ⟨rfl, ?_, Fr.setCell (Fr.setCell (Fr.setCell (Fr.setCell (Fr.refl _ _) (fun _ => Or.inl rfl) _) (fun _ => Or.inl rfl) _) (fun _ => Or.inl rfl) _) (fun _ => Or.inl rfl) _⟩
      rw [HU.out]
      have h9 := (((HO.out.setP (p + 1)).setC (c + v * 512)).setT 7).setC d
      rw [show ((c + v * 512 : Nat) : Int) = (c : Int) + (v : Int) * 512 by omega, show ((p + 1 : Nat) : Int) = (p : Int) + 1 by omega] at h9
      exact h9
  · obtain ⟨d, HD⟩ : ∃ d, Hid (d = (c + v * 256) % 4294967296) := ⟨_, rfl⟩
    have hd : bits BinOp.and IntKind.i64 ((c : Int) + (v : Int) * 256) 4294967295 = (d : Int) := by
      have := HAnd.out (c + v * 256) (by omega)
      rw [show ((c + v * 256 : Nat) : Int) = (c : Int) + (v : Int) * 256 by omega] at this
      rw [HD.out]; exact this
    have hu5 : ((u : Int) == 255) = false := by rw [beq_eq_false_iff_ne]; omega
    rw [if_pos h1, ← HD.out] at HU
    go_enter Try.func47, Try.ntmps47
    go_wp2_with fail
    refine HN1.out.mono ?_
    rintro e w1 ⟨rfl, hw1⟩
    subst hw1
    go_wp2_with fail
    go_region_with (first | (go_at_call 46; refine (HN3.out _ (by repeat (first | with_reducible exact Fr.refl _ _ | with_reducible refine Fr.drew ?_))).mono ?_; rintro e w2 ⟨rfl, rfl⟩))
    all_goals
      go_wp2_with fail
      go_end0
      refine ⟨rfl, ?_, (Fr.setCell (Fr.setCell (Fr.setCell (Fr.setCell (Fr.refl _ _) (fun _ => Or.inl rfl) _) (fun _ => Or.inl rfl) _) (fun _ => Or.inl rfl) _) (fun _ => Or.inl rfl) _).drew⟩
      rw [HU.out]
      have h9 := (((HO.out.setP (p + 1)).setC (c + v * 256)).setT 8).setC d
      rw [show ((c + v * 256 : Nat) : Int) = (c : Int) + (v : Int) * 256 by omega, show ((p + 1 : Nat) : Int) = (p : Int) + 1 by omega] at h9
      exact h9.keptAll ((Fr.refl _ _).drew)

end Go.Proofs.Ytdbblgceeclpaaa
