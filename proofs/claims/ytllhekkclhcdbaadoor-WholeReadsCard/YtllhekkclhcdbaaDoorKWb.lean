/- Package whole: the bits of a number. -/
import Derived.Test.YtllhekkclhcdbaaDoorKWr
namespace Go.Proofs.YtllhekkclhcdbaaDoor
open Go.RowKit

/-- The bits of a number as a word, and how many they are. -/
def numWord (s m : Nat) : Nat := (s * 2 ^ rowX (rowIx m) + rowH (rowIx m)) * 2 ^ rowW (rowIx m) + (m - rowL (rowIx m))
def numLen (m : Nat) : Nat := 1 + rowX (rowIx m) + rowW (rowIx m)
def numBits (v : Int) (nn : Bool) : List Nat := hiBits (numWord (signOf v nn) (amountOf v nn)) (numLen (amountOf v nn))
theorem numLen_le (m : Nat) : numLen m ≤ 38 := by
  have := rowIx_lt m
  unfold numLen
  generalize rowIx m = k at *
  rcases (by omega : k = 0 ∨ k = 1 ∨ k = 2 ∨ k = 3 ∨ k = 4 ∨ k = 5) with rfl | rfl | rfl | rfl | rfl | rfl <;> decide
theorem row_above {m : Nat} (hm : m ≤ 2147483648) : rowL (rowIx m) ≤ m ∧ m - rowL (rowIx m) < 2 ^ rowW (rowIx m) := by
  refine ⟨(rowL_le m _ (rowIx_lt m)).2 (Nat.le_refl _), ?_⟩
  unfold rowIx
  repeat' split
  all_goals (simp only [rowL, rowW, List.getD_cons_zero, List.getD_cons_succ]; omega)
theorem row_small (m : Nat) : rowL (rowIx m) ≤ 4436 ∧ rowX (rowIx m) ≤ 5 ∧ 1 ≤ rowX (rowIx m) ∧ rowW (rowIx m) ≤ 32 ∧ 2 ≤ rowW (rowIx m) ∧ rowH (rowIx m) < 2 ^ rowX (rowIx m) := by
  have := rowIx_lt m
  generalize rowIx m = k at *
  rcases (by omega : k = 0 ∨ k = 1 ∨ k = 2 ∨ k = 3 ∨ k = 4 ∨ k = 5) with rfl | rfl | rfl | rfl | rfl | rfl <;> decide
theorem or_add (a b n : Nat) (hb : b < 2 ^ n) : a * 2 ^ n ||| b = a * 2 ^ n + b := by
  rw [Nat.mul_comm, Nat.two_pow_add_eq_or_of_lt hb]
theorem cell_new1 (w : World) (x : Value) (t : TypeId) : (w.alloc (.cells #[x] t)).cell? ⟨w.heap.size, 0, none⟩ = some x := by
  have := heap_alloc_new w (.cells #[x] t)
  rw [World.cell?]
  simp only [this]
  rfl

theorem highestFirst_at (w : World) (word width : Nat) (z : Int) (hz : z = width) :
    Calls Tryd.prog 45 #[.int .u64 (word : Int), .int .i64 z] w fun e w' => ∃ bw bd, e = .returned (.func (.func 64) #[] #[.pointer (some ⟨bw, 0, none⟩), .pointer (some ⟨bd, 0, none⟩)]) ∧ w'.cell? ⟨bw, 0, none⟩ = some (.int .i64 (width : Int)) ∧ w'.cell? ⟨bd, 0, none⟩ = some (.int .u64 (word : Int)) ∧ Fr (fun _ => False) w w' ∧ w.heap.size ≤ bw ∧ w.heap.size ≤ bd := by
  subst hz
  go_enter Tryd.func45, Tryd.ntmps45
  go_wp2_with fail
  go_ret
  refine ⟨w.heap.size + 1, w.heap.size, rfl, ?_, ?_, ((Fr.refl _ _).alloc _).alloc _, by omega, Nat.le_refl _⟩
  · have := cell_new1 (w.alloc (.cells #[.int .u64 (word : Int)] 93)) (.int .i64 (width : Int)) 3
    rwa [World.size_alloc] at this
  · exact Fr.cell ((Fr.refl (fun _ => False) _).alloc _) (cell_new1 w (.int .u64 (word : Int)) 93) (fun h => h)

set_option maxRecDepth 100000 in
set_option maxHeartbeats 2000000 in
theorem bitsOf_at (w : World) (v : Int) (nn : Bool) (hmay : mayP v nn = true) (hr : RowsAt w) :
    Calls Tryd.prog 47 #[.agg #[.int .i64 v, .bool nn]] w fun e w' => ∃ bw bd, e = .returned (.func (.func 64) #[] #[.pointer (some ⟨bw, 0, none⟩), .pointer (some ⟨bd, 0, none⟩)]) ∧ w'.cell? ⟨bw, 0, none⟩ = some (.int .i64 (numLen (amountOf v nn) : Int)) ∧ w'.cell? ⟨bd, 0, none⟩ = some (.int .u64 (numWord (signOf v nn) (amountOf v nn) : Int)) ∧ Fr (fun _ => False) w w' ∧ w.heap.size ≤ bw ∧ w.heap.size ≤ bd := by
  have Hmay : Hid (mayP v nn = true) := hmay
  have HR : Hid (RowsAt w) := hr
  have hs := signOf_lt v nn
  have hm := amountOf_le hmay
  clear hmay hr
  go_enter Tryd.func47, Tryd.ntmps47
  go_wp2_with fail
  refine (parts_at _ v nn Hmay.out).mono ?_
  rintro e w1 ⟨rfl, f1⟩
  obtain ⟨s, es⟩ : ∃ s, signOf v nn = s := ⟨_, rfl⟩
  obtain ⟨m, em⟩ : ∃ m, amountOf v nn = m := ⟨_, rfl⟩
  rw [es] at hs ⊢
  rw [em] at hm ⊢
  have F1 : Hid (Fr (fun _ => False) w w1) := Fr.trans ((Fr.refl _ _).alloc _) f1 (fun _ _ h => h)
  have Hsm : Hid (signOf v nn = s ∧ amountOf v nn = m) := ⟨es, em⟩
  clear f1 es em
  go_wp2_with fail
  refine (rowOf_at _ m (by omega) (HR.out.kept F1.out (fun h => h))).mono ?_
  rintro e w2 ⟨rfl, f2⟩
  have F2 : Hid (Fr (fun _ => False) w w2) := Fr.trans F1.out f2 (fun _ _ h => h)
  obtain ⟨c1, c2, c3, c4, c5, c6⟩ := row_small m
  obtain ⟨c7, c8⟩ := row_above hm
  have Hw : Hid (numWord s m = (s * 2 ^ rowX (rowIx m) + rowH (rowIx m)) * 2 ^ rowW (rowIx m) + (m - rowL (rowIx m)) ∧ numLen m = 1 + rowX (rowIx m) + rowW (rowIx m)) := ⟨rfl, rfl⟩
  unfold wRow
  generalize rowX (rowIx m) = x at *
  generalize rowW (rowIx m) = y at *
  generalize rowL (rowIx m) = l at *
  generalize rowH (rowIx m) = h at *
  have px : 0 < 2 ^ x := Nat.two_pow_pos x
  have p5 : 2 ^ x ≤ 2 ^ 5 := Nat.pow_le_pow_right (by decide) c2
  have p32 : 2 ^ y ≤ 2 ^ 32 := Nat.pow_le_pow_right (by decide) c4
  have ha : s * 2 ^ x ≤ 32 := Nat.le_trans (Nat.mul_le_mul (show s ≤ 1 by omega) p5) (by decide)
  have hb : s * 2 ^ x + h < 64 := by omega
  have hc : (s * 2 ^ x + h) * 2 ^ y ≤ 63 * 2 ^ 32 := Nat.mul_le_mul (by omega) p32
  have o1 := or_add s h x c6
  have o2 := or_add (s * 2 ^ x + h) (m - l) y c8
  have k1 : IntKind.u64.wrap ((s : Int) * 2 ^ x) = ((s * 2 ^ x : Nat) : Int) := by
    rw [show (s : Int) * 2 ^ x = ((s * 2 ^ x : Nat) : Int) by push_cast; rfl, IntKind.wrap_u64]; omega
  obtain ⟨a, ea⟩ : ∃ a, s * 2 ^ x = a := ⟨_, rfl⟩
  rw [ea] at k1 o1 ha hb hc o2
  have k2 : bits BinOp.or IntKind.u64 (a : Int) (h : Int) = ((a + h : Nat) : Int) := by rw [← o1]; exact u64_or_nat a h (by omega) (by omega)
  obtain ⟨b, eb⟩ : ∃ b, a + h = b := ⟨_, rfl⟩
  rw [eb] at k2 hb hc o2
  have k3 : IntKind.u64.wrap ((b : Int) * 2 ^ y) = ((b * 2 ^ y : Nat) : Int) := by
    rw [show (b : Int) * 2 ^ y = ((b * 2 ^ y : Nat) : Int) by push_cast; rfl, IntKind.wrap_u64]; omega
  obtain ⟨c, ec⟩ : ∃ c, b * 2 ^ y = c := ⟨_, rfl⟩
  rw [ec] at k3 hc o2
  obtain ⟨d, ed⟩ : ∃ d, m - l = d := ⟨_, rfl⟩
  rw [ed] at o2
  have k4 : IntKind.u64.wrap ((m : Int) - (l : Int)) = (d : Int) := by rw [IntKind.wrap_u64]; omega
  have k5 : bits BinOp.or IntKind.u64 (c : Int) (d : Int) = ((c + d : Nat) : Int) := by rw [← o2]; exact u64_or_nat c d (by omega) (by omega)
  obtain ⟨wd, ewd⟩ : ∃ wd, c + d = wd := ⟨_, rfl⟩
  rw [ewd] at k5
  have Hwd : Hid (numWord s m = wd) := by show numWord s m = wd; rw [Hw.out.1, ea, eb, ec, ed, ewd]
  have k6 : IntKind.i64.wrap (1 + (x : Int)) = ((1 + x : Nat) : Int) := by rw [IntKind.wrap_i64]; omega
  obtain ⟨x1, ex1⟩ : ∃ x1, 1 + x = x1 := ⟨_, rfl⟩
  rw [ex1] at k6
  have k7 : IntKind.i64.wrap ((x1 : Int) + (y : Int)) = ((x1 + y : Nat) : Int) := by rw [IntKind.wrap_i64]; omega
  have Hln : Hid (numLen m = x1 + y) := by show numLen m = x1 + y; rw [Hw.out.2, ex1]
  have mx : min x 64 = x := by omega
  have my : min y 64 = y := by omega
  clear f2 o1 o2 ea eb ec ed ewd ex1 px p5 p32 ha hb hc c1 c2 c3 c4 c5 c6 c7 c8 hs hm Hw
  go_wp2_with fail
  go_quiet (fail)
  go_wp2_with fail
  refine (highestFirst_at _ wd (x1 + y) _ (by push_cast; rfl)).mono ?_
  rintro e w3 ⟨bw, bd, rfl, q1, q2, f3, l1, l2⟩
  have hz2 := F2.out.size
  have l1' : w.heap.size ≤ bw := by simp [World.drewN] at l1; omega
  have l2' : w.heap.size ≤ bd := by simp [World.drewN] at l2; omega
  clear l1 l2 hz2
  go_wp2_with fail
  go_ret
  have F3 : Fr (fun _ => False) w w3 := Fr.trans ((Fr.alloc F2.out _).drewN _) f3 (fun _ _ h => h)
  rw [Hsm.out.1, Hsm.out.2, Hwd.out, Hln.out]
  exact ⟨_, _, rfl, q1, q2, F3, l1', l2'⟩
end Go.Proofs.YtllhekkclhcdbaaDoor
