/- 'WholeNone'. -/
import Derived.Test.YtllhekkclhcdbaaDoorK5
import Derived.Test.YtllhekkclhcdbaaDoorKId
namespace Go.Proofs.YtllhekkclhcdbaaDoor
open Go.RowKit

/-- A coder of this call's own. -/
structure CS (w0 W : World) (n bc gc gb cb : Nat) (o : Co) (M : Nat) : Prop where
  co : CoAt W bc gc n gb cb o
  ok : Ook o
  made : o.made ≤ M
  xl : o.x.length = n
  new : w0.heap.size ≤ bc ∧ w0.heap.size ≤ gc ∧ w0.heap.size ≤ gb
  fr : Fr (fun _ => False) w0 W
  rows : RowsAt W
theorem CS.later {w0 W W' : World} {n bc gc gb cb : Nat} {o : Co} {M : Nat} (h : CS w0 W n bc gc gb cb o M) (f : Fr (fun _ => False) W W') : CS w0 W' n bc gc gb cb o M :=
  ⟨h.co.kept f (fun h => h) (fun h => h) (fun h => h), h.ok, h.made, h.xl, h.new, h.fr.trans f (fun _ _ h => h), h.rows.kept f (fun h => h)⟩
theorem CS.cell {w0 W : World} {n bc gc gb cb : Nat} {o : Co} {M : Nat} (h : CS w0 W n bc gc gb cb o M) : W.cell? ⟨bc, 0, none⟩ = some (.slice (some ⟨gc, 0, none⟩) n n) := by
  have := (cell_of_seven h.co.blk).1
  rw [h.xl] at this
  exact this
theorem CS.step {w0 W W' : World} {n bc gc gb cb gb' cb' : Nat} {o : Co} {M : Nat} (h : CS w0 W n bc gc gb cb o M) (h0 : RowsAt w0) {L : List (Int × Nat)} {k : Nat} (hL : L.length ≤ k) (hM : M + k ≤ 16777216) (hc : CoAt W' bc gc n gb' cb' (runL o L)) (hs : CStep bc gc gb gb' W W') : CS w0 W' n bc gc gb' cb' (runL o L) (M + k) := by
  have hm := h.made
  obtain ⟨a, b, c⟩ := runL_ok h.ok L (by omega)
  obtain ⟨f1, f2⟩ := CStep.fresh h.fr hs h.new
  exact ⟨hc, a, by omega, c.trans h.xl, ⟨h.new.1, h.new.2.1, f2⟩, f1, h0.kept f1 (fun h => h)⟩

set_option maxRecDepth 100000 in
set_option maxHeartbeats 4000000 in
theorem none_any (w : World) (hr : RowsAt w) : Calls Tryd.prog 8 #[] w fun e w' => e = .returned (.bool true) ∧ Fr (fun _ => False) w w' := by
  have HR : Hid (RowsAt w) := hr
  clear hr
  go_enter Tryd.func8, Tryd.ntmps8
  go_wp2_with fail
  refine (new_any _ 512 (by omega) (by omega)).mono ?_
  rintro e w1 ⟨bc, gc, gb, rfl, hco, f1, l1, l2, l3⟩
  have C1 : Hid (CS w w1 512 bc gc gb 1 (newP 512) 0) := ⟨hco, newP_ok (by omega) (by omega), Nat.le_refl _, List.length_replicate, ⟨l1, l2, l3⟩, f1, HR.out.kept f1 (fun h => h)⟩
  clear hco f1 l1 l2 l3
  go_wp2_with fail
  refine (newDecoder_any _ (.slice none 0 0) [] 512 (by omega) (by omega) ⟨none, 0, rfl, by simp, fun h => absurd rfl h⟩ (.inl rfl) (by simp)).mono ?_
  rintro e w2 ⟨bd, gd, vb, rfl, hde, f2, l4, l5, l6⟩
  have C2 : Hid (CS w w2 512 bc gc gb 1 (newP 512) 0) := C1.out.later f2
  have D2 : Hid (DeAt w2 bd gd 512 vb [] (newD [] 512)) := hde
  have HA : Hid (bd ≠ bc ∧ bd ≠ gc ∧ bd ≠ gb ∧ gd ≠ bc ∧ gd ≠ gc ∧ gd ≠ gb ∧ w.heap.size ≤ bd ∧ w.heap.size ≤ gd) := by
    have q1 := C1.out.co.lt
    have q2 := C1.out.co.xlt
    have q3 := C1.out.co.blt
    have q4 := C1.out.fr.size
    exact ⟨by omega, by omega, by omega, by omega, by omega, by omega, by omega, by omega⟩
  clear hde f2 l4 l5 l6 C1
  go_wp2_with fail
  refine (put_nil _ 0 0 false).mono ?_
  rintro e w3 ⟨rfl, f3⟩
  have C3 : Hid (CS w w3 512 bc gc gb 1 (newP 512) 0) := C2.out.later f3
  have D3 : Hid (DeAt w3 bd gd 512 vb [] (newD [] 512)) := D2.out.keptAll f3
  clear f3 C2 D2
  go_wp2_with fail
  refine (putID_nil _ 0 1 0).mono ?_
  rintro e w4 ⟨rfl, hw⟩
  have f4 : Fr (fun _ => False) w3 w4 := by rw [hw]; exact Fr.refl _ _
  clear hw
  have C4 : Hid (CS w w4 512 bc gc gb 1 (newP 512) 0) := C3.out.later f4
  have D4 : Hid (DeAt w4 bd gd 512 vb [] (newD [] 512)) := D3.out.keptAll f4
  clear f4 C3 D3
  go_wp2_with fail
  refine (put_base _ bc gc 512 512 C4.out.cell (by omega) 1 0 false (by omega) (by omega)).mono ?_
  rintro e w5 ⟨rfl, f5⟩
  have C5 : Hid (CS w w5 512 bc gc gb 1 (newP 512) 0) := C4.out.later f5
  have D5 : Hid (DeAt w5 bd gd 512 vb [] (newD [] 512)) := D4.out.keptAll f5
  clear f5 C4 D4
  go_wp2_with fail
  refine (put_base _ bc gc 512 512 C5.out.cell (by omega) (-1) 0 false (by omega) (by omega)).mono ?_
  rintro e w6 ⟨rfl, f6⟩
  have C6 : Hid (CS w w6 512 bc gc gb 1 (newP 512) 0) := C5.out.later f6
  have D6 : Hid (DeAt w6 bd gd 512 vb [] (newD [] 512)) := D5.out.keptAll f6
  clear f6 C5 D5
  go_wp2_with fail
  refine (put_base _ bc gc 512 512 C6.out.cell (by omega) 9223372036854775807 0 false (by omega) (by omega)).mono ?_
  rintro e w7 ⟨rfl, f7⟩
  have C7 : Hid (CS w w7 512 bc gc gb 1 (newP 512) 0) := C6.out.later f7
  have D7 : Hid (DeAt w7 bd gd 512 vb [] (newD [] 512)) := D6.out.keptAll f7
  clear f7 C6 D6
  go_wp2_with fail
  refine (get_nil _ 0).mono ?_
  rintro e w8 ⟨rfl, f8⟩
  have C8 : Hid (CS w w8 512 bc gc gb 1 (newP 512) 0) := C7.out.later f8
  have D8 : Hid (DeAt w8 bd gd 512 vb [] (newD [] 512)) := D7.out.keptAll f8
  clear f8 C7 D7
  go_wp2_with fail
  refine (getID_nil _ 0 1).mono ?_
  rintro e w9 ⟨rfl, hw⟩
  have f9 : Fr (fun _ => False) w8 w9 := by rw [hw]; exact Fr.refl _ _
  clear hw
  have C9 : Hid (CS w w9 512 bc gc gb 1 (newP 512) 0) := C8.out.later f9
  have D9 : Hid (DeAt w9 bd gd 512 vb [] (newD [] 512)) := D8.out.keptAll f9
  clear f9 C8 D8
  go_wp2_with fail
  refine (get_base _ bd gd 512 512 (cell_of_seven D9.out.blk).1 (by omega) 1 (by omega) (by omega)).mono ?_
  rintro e w10 ⟨rfl, f10⟩
  have C10 : Hid (CS w w10 512 bc gc gb 1 (newP 512) 0) := C9.out.later f10
  have D10 : Hid (DeAt w10 bd gd 512 vb [] (newD [] 512)) := D9.out.keptAll f10
  clear f10 C9 D9
  go_wp2_with fail
  have C11 : Hid (CS w (w10.alloc (.cells #[.int .i64 0, .bool false] 46)) 512 bc gc gb 1 (newP 512) 0) := C10.out.later ((Fr.refl _ _).alloc _)
  have D11 : Hid (DeAt (w10.alloc (.cells #[.int .i64 0, .bool false] 46)) bd gd 512 vb [] (newD [] 512)) := D10.out.keptAll ((Fr.refl _ _).alloc _)
  generalize (w10.alloc (.cells #[.int .i64 0, .bool false] 46)) = w11 at *
  clear C10 D10
  refine (getID_base _ bd gd 512 512 10 (cell_of_seven D11.out.blk).1 (by omega) 0 (by omega) (by omega) (by decide)).mono ?_
  rintro e w12 ⟨rfl, hw⟩
  have f12 : Fr (fun _ => False) w11 w12 := by rw [hw]; exact Fr.drew (Fr.refl _ _)
  clear hw
  have C12 : Hid (CS w w12 512 bc gc gb 1 (newP 512) 0) := C11.out.later f12
  have D12 : Hid (DeAt w12 bd gd 512 vb [] (newD [] 512)) := D11.out.keptAll f12
  clear f12 C11 D11
  go_wp2_with fail
  refine (getID_width _ bd 0 13 (by omega)).mono ?_
  rintro e w13 ⟨rfl, hw⟩
  have f13 : Fr (fun _ => False) w12 w13 := by rw [hw]; exact Fr.refl _ _
  clear hw
  have C13 : Hid (CS w w13 512 bc gc gb 1 (newP 512) 0) := C12.out.later f13
  have D13 : Hid (DeAt w13 bd gd 512 vb [] (newD [] 512)) := D12.out.keptAll f13
  clear f13 C12 D12
  go_wp2_with fail
  refine (getID_ok _ bd gd 512 511 0 vb [] (newD [] 512) D13.out (newD_ok (by omega) (by omega) (by simp)) (by decide) (by omega) (by decide)).mono ?_
  rintro e w14 ⟨he, _, f14⟩
  have he2 : e = .returned (.tuple #[.int .i64 0, .int .i64 0]) := he
  subst he2
  have C14 : Hid (CS w w14 512 bc gc gb 1 (newP 512) 0) := by
    have hc := C13.out
    have ha := HA.out
    have hf : Fr (fun _ => False) w w14 := Fr.trans hc.fr f14 (fun k hk h => by omega)
    exact ⟨hc.co.kept f14 (by omega) (by omega) (by omega), hc.ok, hc.made, hc.xl, hc.new, hf, HR.out.kept hf (fun h => h)⟩
  clear he f14 C13 D13 HA
  go_wp2_with fail
  refine (putID_ok _ bc gc 512 gb 1 0 9 511 (newP 512) C14.out.co C14.out.ok (by have := C14.out.made; omega) (by omega) (by rw [C14.out.xl]; decide) (by decide)).mono ?_
  rintro e w15 ⟨rfl, gb1, cb1, hco, hst⟩
  have hcs := C14.out.step HR.out (k := 12) (by rw [decs_len, hiBits_len]; omega) (by omega) hco hst
  obtain ⟨o1, hcs2⟩ : ∃ o1, CS w w15 512 bc gc gb1 cb1 o1 12 := ⟨_, hcs⟩
  have C15 : Hid (CS w w15 512 bc gc gb1 cb1 o1 12) := hcs2
  clear hco hst hcs hcs2 C14
  go_wp2_with fail
  refine (putID_range _ bc gc 512 512 9 C15.out.cell (by omega) 0 512 (by omega) (by decide) (by decide)).mono ?_
  rintro e w16 ⟨rfl, hw⟩
  have f16 : Fr (fun _ => False) w15 w16 := by rw [hw]; exact Fr.drew (Fr.refl _ _)
  clear hw
  have C16 : Hid (CS w w16 512 bc gc gb1 cb1 o1 12) := C15.out.later f16
  clear f16 C15
  go_wp2_with fail
  refine (putID_ok _ bc gc 512 gb1 cb1 0 0 0 o1 C16.out.co C16.out.ok (by have := C16.out.made; omega) (by omega) (by rw [C16.out.xl]; decide) (by decide)).mono ?_
  rintro e w17 ⟨rfl, gb2, cb2, hco, hst⟩
  have hcs := C16.out.step HR.out (k := 12) (by rw [decs_len, hiBits_len]; omega) (by omega) hco hst
  obtain ⟨o2, hcs2⟩ : ∃ o2, CS w w17 512 bc gc gb2 cb2 o2 24 := ⟨_, hcs⟩
  have C17 : Hid (CS w w17 512 bc gc gb2 cb2 o2 24) := hcs2
  clear hco hst hcs hcs2 C16
  go_wp2_with fail
  refine (putID_range _ bc gc 512 512 0 C17.out.cell (by omega) 0 1 (by omega) (by decide) (by decide)).mono ?_
  rintro e w18 ⟨rfl, hw⟩
  have f18 : Fr (fun _ => False) w17 w18 := by rw [hw]; exact Fr.drew (Fr.refl _ _)
  clear hw
  have C18 : Hid (CS w w18 512 bc gc gb2 cb2 o2 24) := C17.out.later f18
  clear f18 C17
  go_wp2_with fail
  refine (put_ok _ bc gc 512 gb2 cb2 0 o2 C18.out.co C18.out.ok C18.out.rows (by have := C18.out.made; omega) 2147483648 false (by rw [C18.out.xl]; omega) (by decide)).mono ?_
  rintro e w19 ⟨rfl, gb3, cb3, hco, hst⟩
  have hcs := C18.out.step HR.out (k := 38) (by rw [decs_len, numBits_len]; exact numLen_le _) (by omega) hco hst
  obtain ⟨o3, hcs2⟩ : ∃ o3, CS w w19 512 bc gc gb3 cb3 o3 62 := ⟨_, hcs⟩
  have C19 : Hid (CS w w19 512 bc gc gb3 cb3 o3 62) := hcs2
  clear hco hst hcs hcs2 C18
  go_wp2_with fail
  refine (put_ok _ bc gc 512 gb3 cb3 0 o3 C19.out.co C19.out.ok C19.out.rows (by have := C19.out.made; omega) (-2147483648) false (by rw [C19.out.xl]; omega) (by decide)).mono ?_
  rintro e w20 ⟨rfl, gb4, cb4, hco, hst⟩
  have hcs := C19.out.step HR.out (k := 38) (by rw [decs_len, numBits_len]; exact numLen_le _) (by omega) hco hst
  obtain ⟨o4, hcs2⟩ : ∃ o4, CS w w20 512 bc gc gb4 cb4 o4 100 := ⟨_, hcs⟩
  have C20 : Hid (CS w w20 512 bc gc gb4 cb4 o4 100) := hcs2
  clear hco hst hcs hcs2 C19
  go_wp2_with fail
  refine (put_range _ bc gc 512 512 C20.out.cell (by omega) 0 2147483649 false (by omega) (by decide)).mono ?_
  rintro e w21 ⟨rfl, f21⟩
  have C21 : Hid (CS w w21 512 bc gc gb4 cb4 o4 100) := C20.out.later f21
  clear f21 C20
  go_wp2_with fail
  refine (put_range _ bc gc 512 512 C21.out.cell (by omega) 0 (-9223372036854775808) false (by omega) (by decide)).mono ?_
  rintro e w22 ⟨rfl, f22⟩
  have C22 : Hid (CS w w22 512 bc gc gb4 cb4 o4 100) := C21.out.later f22
  clear f22 C21
  go_wp2_with fail
  refine (put_ok _ bc gc 512 gb4 cb4 0 o4 C22.out.co C22.out.ok C22.out.rows (by have := C22.out.made; omega) (-9223372036854775808) true (by rw [C22.out.xl]; omega) (by decide)).mono ?_
  rintro e w23 ⟨rfl, gb5, cb5, hco, hst⟩
  have hcs := C22.out.step HR.out (k := 38) (by rw [decs_len, numBits_len]; exact numLen_le _) (by omega) hco hst
  obtain ⟨o5, hcs2⟩ : ∃ o5, CS w w23 512 bc gc gb5 cb5 o5 138 := ⟨_, hcs⟩
  have C23 : Hid (CS w w23 512 bc gc gb5 cb5 o5 138) := hcs2
  clear hco hst hcs hcs2 C22
  go_wp2_with fail
  refine (wakes5_any _ C23.out.rows).mono ?_
  rintro e wz ⟨rfl, fz⟩
  have FZ : Hid (Fr (fun _ => False) w wz) := Fr.trans C23.out.fr fz (fun _ _ h => h)
  clear fz
  go_wp2_with fail
  go_ret
  exact ⟨rfl, FZ.out⟩

end Go.Proofs.YtllhekkclhcdbaaDoor
