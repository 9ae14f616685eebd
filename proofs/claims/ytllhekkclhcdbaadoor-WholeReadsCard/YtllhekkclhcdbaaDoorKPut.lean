/- 'Put' of package whole. -/
import Derived.Test.YtllhekkclhcdbaaDoorKWp
namespace Go.Proofs.YtllhekkclhcdbaaDoor
open Go.RowKit

set_option maxRecDepth 100000 in
theorem put_nil (w : World) (b v : Int) (nn : Bool) :
    Calls Tryd.prog 23 #[.pointer none, .int .i64 b, .agg #[.int .i64 v, .bool nn]] w fun e w' => e = .returned (.int .i64 53) ∧ Fr (fun _ => False) w w' := by
  go_enter Tryd.func23, Tryd.ntmps23
  go_wp2_with fail
  go_ret
  exact ⟨rfl, (Fr.refl _ _).alloc _⟩

set_option maxRecDepth 100000 in
set_option maxHeartbeats 1000000 in
theorem put_base (w : World) (bc gc cc n : Nat) (e0 : w.cell? ⟨bc, 0, none⟩ = some (.slice (some ⟨gc, 0, none⟩) n cc)) (hn : n ≤ 131072) (b v : Int) (nn : Bool) (hb : -9223372036854775808 ≤ b ∧ b ≤ 9223372036854775807) (hbad : ¬ (0 ≤ b ∧ b ≤ (n : Int) - 512)) :
    Calls Tryd.prog 23 #[.pointer (some ⟨bc, 0, none⟩), .int .i64 b, .agg #[.int .i64 v, .bool nn]] w fun e w' => e = .returned (.int .i64 51) ∧ Fr (fun _ => False) w w' := by
  have H0 : Hid (w.cell? ⟨bc, 0, none⟩ = some (.slice (some ⟨gc, 0, none⟩) n cc)) := e0
  have HN : Hid (n ≤ 131072) := hn
  have HB : Hid ((-9223372036854775808 ≤ b ∧ b ≤ 9223372036854775807) ∧ ¬ (0 ≤ b ∧ b ≤ (n : Int) - 512)) := ⟨hb, hbad⟩
  clear hb hbad e0 hn
  go_enter Tryd.func23, Tryd.ntmps23
  go_wp2_with fail
  refine (contexts_at _ bc gc cc n (Fr.cell ((Fr.refl (fun _ => False) _).alloc _) H0.out (fun h => h)) HN.out).mono ?_
  rintro e w1 ⟨rfl, rfl⟩
  go_wp2_with fail
  refine (hasContexts_at _ b 512 n HB.out.1 (by omega) (by have := HN.out; omega) false (by rw [eq_comm, decide_eq_false_iff_not]; exact HB.out.2)).mono ?_
  rintro e w1 ⟨rfl, rfl⟩
  go_wp2_with fail
  go_ret
  exact ⟨rfl, (Fr.refl _ _).alloc _⟩

set_option maxRecDepth 100000 in
set_option maxHeartbeats 1000000 in
theorem put_range (w : World) (bc gc cc n : Nat) (e0 : w.cell? ⟨bc, 0, none⟩ = some (.slice (some ⟨gc, 0, none⟩) n cc)) (hn : n ≤ 131072) (b v : Int) (nn : Bool) (hb : 0 ≤ b ∧ b ≤ (n : Int) - 512) (hbad : mayP v nn = false) :
    Calls Tryd.prog 23 #[.pointer (some ⟨bc, 0, none⟩), .int .i64 b, .agg #[.int .i64 v, .bool nn]] w fun e w' => e = .returned (.int .i64 50) ∧ Fr (fun _ => False) w w' := by
  have H0 : Hid (w.cell? ⟨bc, 0, none⟩ = some (.slice (some ⟨gc, 0, none⟩) n cc)) := e0
  have HN : Hid (n ≤ 131072) := hn
  have HB : Hid ((0 ≤ b ∧ b ≤ (n : Int) - 512) ∧ mayP v nn = false) := ⟨hb, hbad⟩
  clear hb hbad e0 hn
  go_enter Tryd.func23, Tryd.ntmps23
  go_wp2_with fail
  refine (contexts_at _ bc gc cc n (Fr.cell ((Fr.refl (fun _ => False) _).alloc _) H0.out (fun h => h)) HN.out).mono ?_
  rintro e w1 ⟨rfl, rfl⟩
  go_wp2_with fail
  refine (hasContexts_at _ b 512 n (by have := HB.out.1; have := HN.out; omega) (by omega) (by have := HN.out; omega) true (by rw [eq_comm, decide_eq_true_eq]; exact HB.out.1)).mono ?_
  rintro e w1 ⟨rfl, rfl⟩
  go_wp2_with fail
  refine (mayBe_at _ v nn false HB.out.2.symm).mono ?_
  rintro e w2 ⟨rfl, f2⟩
  have F2 : Hid (Fr (fun _ => False) w w2) := Fr.trans ((Fr.refl _ _).alloc _) f2 (fun _ _ h => h)
  clear f2
  go_wp2_with fail
  go_ret
  exact ⟨rfl, F2.out⟩

set_option maxRecDepth 100000 in
set_option maxHeartbeats 2000000 in
set_option linter.unusedSimpArgs false in
theorem put_ok (w : World) (bc gc cc gb cb base : Nat) (o : Co) (h : CoAt w bc gc cc gb cb o) (hok : Ook o) (hr : RowsAt w) (hm : o.made + 38 ≤ 16777216) (v : Int) (nn : Bool) (hb : base + 512 ≤ o.x.length) (hmay : mayP v nn = true) :
    Calls Tryd.prog 23 #[.pointer (some ⟨bc, 0, none⟩), .int .i64 (base : Int), .agg #[.int .i64 v, .bool nn]] w fun e w' => e = .returned (.int .i64 0) ∧ ∃ gb' cb', CoAt w' bc gc cc gb' cb' (runL o (decs base 512 1 (numBits v nn))) ∧ CStep bc gc gb gb' w w' := by
  have hlim := hok.lim
  have H0 : Hid (w.cell? ⟨bc, 0, none⟩ = some (.slice (some ⟨gc, 0, none⟩) o.x.length cc)) := (cell_of_seven h.blk).1
  have HN : Hid (o.x.length ≤ 131072 ∧ base + 512 ≤ o.x.length ∧ o.made + 38 ≤ 16777216) := ⟨hlim, hb, hm⟩
  have HC : Hid (CoAt w bc gc cc gb cb o) := h
  have HO : Hid (Ook o) := hok
  have HR : Hid (RowsAt w) := hr
  have HM : Hid (mayP v nn = true) := hmay
  have fin : ∀ (W : World) (bk b1 b2 : Nat), Fr (fun _ => False) w W → WkAt W bk base 512 1 → w.heap.size ≤ bk → w.heap.size ≤ b1 → w.heap.size ≤ b2 →
      W.cell? ⟨b1, 0, none⟩ = some (.int .i64 (numLen (amountOf v nn) : Int)) → W.cell? ⟨b2, 0, none⟩ = some (.int .u64 (numWord (signOf v nn) (amountOf v nn) : Int)) → b1 ≠ bk → b2 ≠ bk →
      Calls Tryd.prog 44 #[.pointer (some ⟨bk, 0, none⟩), .pointer (some ⟨bc, 0, none⟩), .func (.func 64) #[] #[.pointer (some ⟨b1, 0, none⟩), .pointer (some ⟨b2, 0, none⟩)]] W fun e w' => e = .returned (.int .i64 0) ∧ ∃ gb' cb', CoAt w' bc gc cc gb' cb' (runL o (decs base 512 1 (numBits v nn))) ∧ CStep bc gc gb gb' w w' ∧ Fr (WS bc gc gb bk) W w' := by
    intro W bk b1 b2 fW hwk l1 l2 l3 c1 c2 n1 n2
    have lc := h.lt
    have lx := h.xlt
    have lb := h.blt
    have hln := numLen_le (amountOf v nn)
    have hwd : numWord (signOf v nn) (amountOf v nn) < 18446744073709551616 := by
      obtain ⟨d1, d2, d3, d4, d5, d6⟩ := row_small (amountOf v nn)
      obtain ⟨d7, d8⟩ := row_above (amountOf_le hmay)
      have hs := signOf_lt v nn
      unfold numWord
      generalize rowX (rowIx (amountOf v nn)) = x at *
      generalize rowW (rowIx (amountOf v nn)) = y at *
      have p5 : 2 ^ x ≤ 2 ^ 5 := Nat.pow_le_pow_right (by decide) d2
      have p32 : 2 ^ y ≤ 2 ^ 32 := Nat.pow_le_pow_right (by decide) d4
      have ha : signOf v nn * 2 ^ x ≤ 32 := Nat.le_trans (Nat.mul_le_mul (show signOf v nn ≤ 1 by omega) p5) (by decide)
      have hc : (signOf v nn * 2 ^ x + rowH (rowIx (amountOf v nn))) * 2 ^ y ≤ 63 * 2 ^ 32 := Nat.mul_le_mul (by omega) p32
      omega
    refine (wput_any W bk base 512 bc gc cc gb cb b1 b2 _ _ o (h.kept fW (fun h => h) (fun h => h) (fun h => h)) hok hwk (by omega) (.inr (by decide)) (by omega) hwd (by omega) c1 c2 (by unfold WS; omega) (by unfold WS; omega) (by omega)).mono ?_
    rintro e w' ⟨rfl, gb', cb', q1, q2, q3⟩
    refine ⟨rfl, gb', cb', q1, ⟨Fr.trans (S := fun k => k = bc ∨ k = gc ∨ k = gb) (fW.mono (fun _ _ h => h.elim)) q2 (fun k hk h => by unfold WS at h; omega), ?_⟩, q2⟩
    have := fW.size
    omega
  have HF : Hid (∀ (W : World) (bk b1 b2 : Nat), Fr (fun _ => False) w W → WkAt W bk base 512 1 → w.heap.size ≤ bk → w.heap.size ≤ b1 → w.heap.size ≤ b2 →
      W.cell? ⟨b1, 0, none⟩ = some (.int .i64 (numLen (amountOf v nn) : Int)) → W.cell? ⟨b2, 0, none⟩ = some (.int .u64 (numWord (signOf v nn) (amountOf v nn) : Int)) → b1 ≠ bk → b2 ≠ bk →
      Calls Tryd.prog 44 #[.pointer (some ⟨bk, 0, none⟩), .pointer (some ⟨bc, 0, none⟩), .func (.func 64) #[] #[.pointer (some ⟨b1, 0, none⟩), .pointer (some ⟨b2, 0, none⟩)]] W fun e w' => e = .returned (.int .i64 0) ∧ ∃ gb' cb', CoAt w' bc gc cc gb' cb' (runL o (decs base 512 1 (numBits v nn))) ∧ CStep bc gc gb gb' w w' ∧ Fr (WS bc gc gb bk) W w') := fin
  clear fin h hok hr hmay hm hb hlim
  go_enter Tryd.func23, Tryd.ntmps23
  go_wp2_with fail
  refine (contexts_at _ bc gc cc o.x.length (Fr.cell ((Fr.refl (fun _ => False) _).alloc _) H0.out (fun h => h)) HN.out.1).mono ?_
  rintro e w1 ⟨rfl, rfl⟩
  go_wp2_with fail
  refine (hasContexts_at _ (base : Int) 512 o.x.length (by have := HN.out; omega) (by omega) (by have := HN.out; omega) true (by rw [eq_comm, decide_eq_true_eq]; have := HN.out; omega)).mono ?_
  rintro e w1 ⟨rfl, rfl⟩
  go_wp2_with fail
  refine (mayBe_at _ v nn true HM.out.symm).mono ?_
  rintro e w2 ⟨rfl, f2⟩
  have F2 : Hid (Fr (fun _ => False) w w2) := Fr.trans ((Fr.refl _ _).alloc _) f2 (fun _ _ h => h)
  have z0 := Fr.cell f2 (show (w.alloc (.cells #[.int .i64 v, .bool nn] 46)).cell? ⟨w.heap.size, 0, none⟩ = some (.int .i64 v) by rw [World.cell?]; simp only [heap_alloc_new]; rfl) (fun h => h)
  have z1 := Fr.cell f2 (show (w.alloc (.cells #[.int .i64 v, .bool nn] 46)).cell? ⟨w.heap.size, 1, none⟩ = some (.bool nn) by rw [World.cell?]; simp only [heap_alloc_new]; rfl) (fun h => h)
  clear f2
  go_wp2_with fail
  refine wp_region_noPanic (wp_region_held_drew (S := fun W => W.cell? ⟨w.heap.size, 0, none⟩ = some (.int .i64 v) ∧ W.cell? ⟨w.heap.size, 1, none⟩ = some (.bool nn)) (by kernel_rfl) ⟨z0, z1⟩ (fun hHeld => ?_))
  refine wpAnyH_take (i := 0) (oi := _) (v := ?vv0) rfl (by kernel_rfl) (by kernel_rfl) (by kernel_rfl) (fun _ _ _ h => h) (Or.inl ⟨by kernel_rfl, ?hy0⟩) (by assumption) ?_
  case hy0 => (intro w hSw; (try dsimp only at hSw); obtain ⟨s1, s2⟩ := hSw; go_simp; all_goals (with_reducible rfl))
  (try simp only [Act.put, List.setIfInBounds_toArray, List.set_cons_zero, List.set_cons_succ])
  refine wpAnyH_take (i := 2) (oi := _) (v := ?vv2) rfl (by kernel_rfl) (by kernel_rfl) (by kernel_rfl) (fun _ _ _ h => h) (Or.inl ⟨by kernel_rfl, ?hy2⟩) (by assumption) ?_
  case hy2 => (intro w hSw; (try dsimp only at hSw); obtain ⟨s1, s2⟩ := hSw; go_simp; all_goals (with_reducible rfl))
  (try simp only [Act.put, List.setIfInBounds_toArray, List.set_cons_zero, List.set_cons_succ])
  refine wpAnyH_take (i := 3) (oi := _) (v := ?vv3) rfl (by kernel_rfl) (by kernel_rfl) (by kernel_rfl) (fun _ _ _ h => h) (Or.inl ⟨by kernel_rfl, ?hy3⟩) (by assumption) ?_
  case hy3 => (intro w hSw; (try dsimp only at hSw); obtain ⟨s1, s2⟩ := hSw; go_simp; all_goals (with_reducible rfl))
  (try simp only [Act.put, List.setIfInBounds_toArray, List.set_cons_zero, List.set_cons_succ])
  refine wpAnyH_ready (rs := [1]) (by kernel_rfl) (by simp) ?_
  refine AllReadyH.cons (o := _) rfl (fun K hK => ?_) AllReadyH.nil
  go_simp
  refine (startAt_at _ base 512 _ _ rfl rfl).mono ?_
  rintro e w3 ⟨bk, rfl, hwk, f3, l3⟩
  have q0 := f3.cell z0 (fun h => h)
  have q1 := f3.cell z1 (fun h => h)
  have F3 : Hid (Fr (fun _ => False) w w3) := Fr.trans (Fr.drew F2.out) f3 (fun _ _ h => h)
  have HW3 : Hid (WkAt w3 bk base 512 1) := hwk
  have L3 : Hid (w.heap.size < bk) := Nat.lt_of_lt_of_le (World.block_lt_of_cell? w2 _ z0) l3
  clear hwk f3 l3
  go_simp
  refine hK.out _ _ ⟨q0, q1⟩ (fun hHeld => ?_)
  clear hK K
  (try simp only [Act.put, List.setIfInBounds_toArray, List.set_cons_zero, List.set_cons_succ])
  refine wpAnyH_ready (rs := [4]) (by kernel_rfl) (by simp) ?_
  refine AllReadyH.cons (o := _) rfl (fun K hK => ?_) AllReadyH.nil
  go_simp
  refine (bitsOf_at _ v nn HM.out (HR.out.kept F3.out (fun h => h))).mono ?_
  rintro e w4 ⟨b1, b2, rfl, c1, c2, f4, l4, l5⟩
  have r0 := f4.cell q0 (fun h => h)
  have r1 := f4.cell q1 (fun h => h)
  have F4 : Hid (Fr (fun _ => False) w w4) := Fr.trans F3.out f4 (fun _ _ h => h)
  have HW4 : Hid (WkAt w4 bk base 512 1) := HW3.out.kept f4 (fun h => h)
  have L4 : Hid (w.heap.size ≤ b1 ∧ w.heap.size ≤ b2 ∧ b1 ≠ bk ∧ b2 ≠ bk) := by
    have := HW3.out.lt
    have := F3.out.size
    exact ⟨by omega, by omega, by omega, by omega⟩
  have C1 : Hid (w4.cell? ⟨b1, 0, none⟩ = some (.int .i64 (numLen (amountOf v nn) : Int))) := c1
  have C2 : Hid (w4.cell? ⟨b2, 0, none⟩ = some (.int .u64 (numWord (signOf v nn) (amountOf v nn) : Int))) := c2
  clear f4 l4 l5 c1 c2
  go_simp
  refine hK.out _ _ ⟨r0, r1⟩ (fun hHeld => ?_)
  clear hK K
  (try simp only [Act.put, List.setIfInBounds_toArray, List.set_cons_zero, List.set_cons_succ])
  refine wpAnyH_ready (rs := [5]) (by kernel_rfl) (by simp) ?_
  refine AllReadyH.cons (o := _) rfl (fun K hK => ?_) AllReadyH.nil
  go_simp
  refine (HF.out w4 bk b1 b2 F4.out HW4.out (Nat.le_of_lt L3.out) L4.out.1 L4.out.2.1 C1.out C2.out L4.out.2.2.1 L4.out.2.2.2).mono ?_
  rintro e w5 ⟨rfl, gb', cb', hc5, hs5, f5⟩
  have HC5 : Hid (CoAt w5 bc gc cc gb' cb' (runL o (decs base 512 1 (numBits v nn)))) := hc5
  have HS5 : Hid (CStep bc gc gb gb' w w5) := hs5
  have lc := HC.out.lt
  have lx := HC.out.xlt
  have lb := HC.out.blt
  have lk := L3.out
  have n5 : ¬ WS bc gc gb bk w.heap.size := by unfold WS; omega
  have t0 := f5.cell r0 n5
  have t1 := f5.cell r1 n5
  clear hc5 hs5 f5 lc lx lb lk n5
  go_simp
  refine hK.out _ _ ⟨t0, t1⟩ (fun hHeld => ?_)
  clear hK K
  (try simp only [Act.put, List.setIfInBounds_toArray, List.set_cons_zero, List.set_cons_succ])
  refine wpAnyH_take (i := 6) (oi := _) (v := ?vv6) rfl (by kernel_rfl) (by kernel_rfl) (by kernel_rfl) (fun _ _ _ h => h) (Or.inl ⟨by kernel_rfl, ?hy6⟩) (by assumption) ?_
  case hy6 => (intro w hSw; (try dsimp only at hSw); obtain ⟨s1, s2⟩ := hSw; go_simp; all_goals (with_reducible rfl))
  (try simp only [Act.put, List.setIfInBounds_toArray, List.set_cons_zero, List.set_cons_succ])
  refine wpAnyH_done (by kernel_rfl) ?_ _
  refine NoPanic.normal ?_
  simp only [List.getElem_toArray, List.getElem_cons_succ, List.getElem_cons_zero, List.setIfInBounds_toArray, List.set_cons_zero, List.set_cons_succ]
  go_wp2_with fail
  go_ret
  exact ⟨by simp, gb', cb', HC5.out, HS5.out⟩

end Go.Proofs.YtllhekkclhcdbaaDoor
