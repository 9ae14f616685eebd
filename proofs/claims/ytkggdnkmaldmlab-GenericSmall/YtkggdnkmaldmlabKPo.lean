/- Package context: pixelOf, rowOf. -/
import Derived.Test.YtkggdnkmaldmlabKCheck
import Derived.Test.YtkggdnkmaldmlabKSp
namespace Go.Proofs.Ytkggdnkmaldmlab
open Go.RowKit

set_option maxRecDepth 100000 in
set_option maxHeartbeats 1000000 in
theorem pixelOf_any (v : Value) (l : List Nat) (x : Int) (w : World) (hv : Seen w v l) (hl : l.length ≤ 1048576) (hlt : ∀ j : Nat, l[j]?.getD 0 < 18446744073709551616) (hx : -9223372036854775808 ≤ x ∧ x ≤ 9223372036854775807) :
    Calls Try.prog 56 #[v, .int .i64 x] w fun e w' => e = .returned (.int .i64 (rowpix l x : Nat)) ∧ w' = w := by
  obtain ⟨ao, cap, rfl, hll, hcc⟩ := hv
  have g0 : IntKind.i64.wrap ((l.length : Int) * 64) = (l.length : Int) * 64 := by rw [IntKind.wrap_i64]; omega
  by_cases h0 : x < 0
  · have e : rowpix l x = 0 := by unfold rowpix; rw [if_neg (by omega)]
    rw [e]
    have hd : decide (x < 0) = true := decide_eq_true h0
    clear e h0 hx hcc hlt g0
    go_enter Try.func56, Try.ntmps56
    go_wp2_with fail
    go_ret
    exact ⟨rfl, rfl⟩
  · by_cases h1 : (l.length : Int) * 64 ≤ x
    · have e : rowpix l x = 0 := by unfold rowpix; rw [if_neg (by omega)]
      rw [e]
      have hd : decide (x < 0) = false := decide_eq_false h0
      have hd2 : decide ((l.length : Int) * 64 ≤ x) = true := decide_eq_true h1
      clear e h0 h1 hx hcc hlt
      go_enter Try.func56, Try.ntmps56
      go_wp2_with fail
      go_ret
      exact ⟨rfl, rfl⟩
    · obtain ⟨k, rfl⟩ : ∃ k : Nat, x = (k : Int) := ⟨x.toNat, by omega⟩
      have hd : decide ((k : Int) < 0) = false := decide_eq_false h0
      have hd2 : decide ((l.length : Int) * 64 ≤ (k : Int)) = false := decide_eq_false h1
      have hkl : k / 64 < l.length := by omega
      obtain ⟨b, off, rfl, hc⟩ := hcc (by intro e; rw [e] at hkl; simp at hkl)
      have hcw := hc _ hkl
      have hX := hlt (k / 64)
      have HE : Hid (rowpix l (k : Int) = ((l[k / 64]?.getD 0).testBit (63 - k % 64)).toNat) := by
        show _ = _
        unfold rowpix; rw [if_pos (by omega), Nat.toNat_testBit]; rfl
      have HBN := bit_num (l[k / 64]?.getD 0) (63 - k % 64) hX
      generalize l[k / 64]?.getD 0 = X at *
      obtain ⟨A, hA⟩ : ∃ A, A = k / 64 := ⟨_, rfl⟩
      rw [← hA] at hcw hkl
      have e1 : (k : Int).tdiv 64 = (k : Int) / 64 := Int.tdiv_eq_ediv_of_nonneg (by omega)
      have e2 : (k : Int).tmod 64 = (k : Int) % 64 := Int.tmod_eq_emod_of_nonneg (by omega)
      have g6 : IntKind.i64.wrap ((k : Int) / 64) = (A : Int) := by rw [IntKind.wrap_i64]; omega
      have g7 : IntKind.i64.wrap (63 - (k : Int) % 64) = 63 - (k : Int) % 64 := by rw [IntKind.wrap_i64]; omega
      have g3 : (A : Int).toNat = A := by omega
      have g4 : (0 : Int) ≤ (A : Int) := by omega
      have g5 : (A : Int) < (l.length : Int) := by omega
      have g8 : (0 : Int) ≤ 63 - (k : Int) % 64 := by omega
      rw [HE.out]
      clear hA hcc hlt hc h0 h1 hx
      go_enter Try.func56, Try.ntmps56
      go_wp2_with fail
      go_ret
      refine ⟨congrArg (fun x => Ending.returned (Value.int .i64 x)) ?_, rfl⟩
      exact HBN

/-- A slice's capacity covers its length. -/
def CapOK (v : Value) : Prop := ∀ ao n c, v = .slice ao n c → n ≤ c ∧ c ≤ maxLen

theorem rowL_in (W H : Nat) (P : Nat → Nat → Bool) (y : Nat) (hy : y < H) : rowL W H P y = (List.range (stride W)).map fun j => wd W P y j := by
  unfold rowL; rw [if_pos (by omega)]; rfl
theorem rowL_out (W H : Nat) (P : Nat → Nat → Bool) (y : Int) (hy : ¬ (0 ≤ y ∧ y < H)) : rowL W H P y = [] := by
  unfold rowL; rw [if_neg hy]
theorem rowL_lt (W H : Nat) (P : Nat → Nat → Bool) (y : Int) (j : Nat) : (rowL W H P y)[j]?.getD 0 < 18446744073709551616 := by
  unfold rowL
  split
  · rw [List.getElem?_map]
    cases (List.range (stride W))[j]? with
    | none => simp
    | some k => exact wd_lt _ _ _ _
  · simp

set_option maxRecDepth 100000 in
set_option maxHeartbeats 1000000 in
theorem rowOf_any (W H : Nat) (v : Value) (P : Nat → Nat → Bool) (y : Int) (w : World) (hv : Seen w v (render W H P)) (hcap : CapOK v) (h1 : 1 ≤ W) (h2 : 1 ≤ H) (h3 : W * H ≤ 1048576) (hy : -9223372036854775808 ≤ y ∧ y ≤ 9223372036854775807) :
    Calls Try.prog 55 #[.agg #[.int .i64 W, .int .i64 H, v], .int .i64 y] w fun e w' => (∃ v', e = .returned v' ∧ ∀ u, Seen u v (render W H P) → Seen u v' (rowL W H P y)) ∧ Fr (fun _ => False) w w' := by
  obtain ⟨f1, f2, f3⟩ := size_facts h1 h2 h3
  have HV := hv
  obtain ⟨ao, cap, rfl, hll, hcc⟩ := hv
  obtain ⟨hc1, hc2⟩ := hcap _ _ _ rfl
  rw [length_render] at hcc hll hc1 ⊢
  by_cases h0 : y < 0
  · rw [rowL_out _ _ _ _ (by omega)]
    have hd : decide (y < 0) = true := decide_eq_true h0
    clear h0 hy hcc hc1 hc2 hcap HV h1 h2 h3
    go_enter Try.func55, Try.ntmps55
    go_wp2_with fail
    go_ret
    exact ⟨⟨_, rfl, fun _ _ => ⟨none, 0, rfl, by simp, fun h => absurd rfl h⟩⟩, (Fr.refl _ _).alloc _⟩
  · by_cases hH : (H : Int) ≤ y
    · rw [rowL_out _ _ _ _ (by omega)]
      have hd : decide (y < 0) = false := decide_eq_false h0
      have hd2 : decide ((H : Int) ≤ y) = true := decide_eq_true hH
      clear h0 hH hy hcc hc1 hc2 hcap HV h1 h2 h3
      go_enter Try.func55, Try.ntmps55
      go_wp2_with fail
      go_ret
      exact ⟨⟨_, rfl, fun _ _ => ⟨none, 0, rfl, by simp, fun h => absurd rfl h⟩⟩, (Fr.refl _ _).alloc _⟩
    · obtain ⟨k, rfl⟩ : ∃ k : Nat, y = (k : Int) := ⟨y.toNat, by omega⟩
      have hkH : k < H := by omega
      have hS := stride_pos (W := W) h1
      have hend : k * stride W + stride W ≤ H * stride W := by rw [← Nat.succ_mul]; exact Nat.mul_le_mul_right _ hkH
      have hne : render W H P ≠ [] := by
        intro e
        have := length_render W H P
        rw [e] at this
        simp only [List.length_nil] at this
        omega
      obtain ⟨b0, off, rfl, hcell⟩ := hcc hne
      have HC : Hid (∀ u, Seen u (.slice (some ⟨b0, off, none⟩) (render W H P).length cap) (render W H P) → ∀ j, j < stride W → u.cell? ⟨b0, off + k * stride W + j, none⟩ = some (.int .u64 (wd W P k j : Nat))) := fun u hu j hj => by
        obtain ⟨ao', cap', e, _, hcu⟩ := hu
        obtain ⟨b1, off1, rfl, hcell1⟩ := hcu hne
        simp only [Value.slice.injEq, Option.some.injEq, Addr.mk.injEq] at e
        obtain ⟨⟨rfl, rfl, _⟩, _⟩ := e
        have hat := at_lt hkH hj
        have := hcell1 (k * stride W + j) (by rw [length_render]; exact hat)
        rw [render_get P hkH hj, Option.getD_some, ← Nat.add_assoc] at this
        exact this
      rw [length_render] at HC
      have hd : decide ((k : Int) < 0) = false := decide_eq_false h0
      have hd2 : decide ((H : Int) ≤ (k : Int)) = false := decide_eq_false hH
      rw [rowL_in W H P k hkH]
      have hq : ((H * stride W : Nat) : Int).tdiv (H : Int) = (stride W : Int) := by
        rw [Int.natCast_mul, Int.mul_tdiv_cancel_left _ (by omega)]
      have hH0 : ((H : Int) == 0) = false := by simp; omega
      have hH1 : ¬ (H : Int) = 0 := by omega
      have hL : ((List.range (stride W)).map fun j => wd W P k j).length = stride W := by simp
      have HG : Hid (∀ j, j < stride W → (((List.range (stride W)).map fun j => wd W P k j)[j]?.getD 0) = wd W P k j) := fun j hj => by
        rw [List.getElem?_map, List.getElem?_range hj]; rfl
      unfold maxLen at hc2
      generalize ((List.range (stride W)).map fun j => wd W P k j) = R at *
      have HL : Hid (R.length = stride W) := hL
      clear hL hcell hcc hne HV hcap h0 hH
      have hwl : H * stride W ≤ 1048576 := f3
      generalize hSS : stride W = S at *
      generalize hN : H * S = N at *
      have hm1 : (k : Int) * (S : Int) = ((k * S : Nat) : Int) := by push_cast; rfl
      have hm2 : ((k : Int) + 1) * (S : Int) = ((k * S : Nat) : Int) + (S : Int) := by rw [Int.add_mul, hm1]; omega
      generalize k * S = a at *
      have hn1 : ¬ a + S = a := by omega
      have hn2 : ¬ S = 0 := by omega
      clear hSS hN
      go_enter Try.func55, Try.ntmps55
      go_wp2
      all_goals first | (exfalso; omega) | skip
      go_ret
      refine ⟨⟨_, rfl, fun u hu => ⟨some ⟨b0, off + a, none⟩, cap - a, by rw [HL.out, Nat.add_sub_cancel_left]; rfl, by rw [HL.out]; omega, fun _ => ⟨b0, off + a, rfl, fun j hj => ?_⟩⟩⟩, (Fr.refl _ _).alloc _⟩
      rw [HL.out] at hj
      rw [HG.out j hj]
      exact HC.out u hu j hj

end Go.Proofs.Ytkggdnkmaldmlab
