/- 'slices.Equal', 'EqBitmap' and 'Equal', whatever they are given. -/
import Derived.Test.YtcopbjinnegfoabMay
import Derived.Test.YtcopbjinnegfoabMove
namespace Go.Proofs.Ytcopbjinnegfoab
open Go.RowKit

set_option maxRecDepth 100000 in
set_option maxHeartbeats 1000000 in
theorem eqs_len (v u : Value) (la lb : List Nat) (w : World) (ha : Seen w v la) (hb : Seen w u lb) (hl : la.length ≠ lb.length) :
    Calls Try.prog 32 #[v, u] w fun e w' => e = .returned (.bool false) ∧ w' = w := by
  obtain ⟨ao, ca, rfl, hla, _⟩ := ha
  obtain ⟨bo, cb, rfl, hlb, _⟩ := hb
  have ht : ((la.length : Int) != (lb.length : Int)) = true := by rw [bne_iff_ne]; omega
  go_enter Try.func32, Try.ntmps32
  go_wp2
  go_ret
  exact ⟨rfl, rfl⟩

set_option maxRecDepth 100000 in
set_option maxHeartbeats 1000000 in
theorem eqs_same (v u : Value) (la lb : List Nat) (w : World) (ha : Seen w v la) (hb : Seen w u lb) (hl : la.length = lb.length) (bb : Bool) (hbb : Hid (bb = decide (la = lb))) :
    Calls Try.prog 32 #[v, u] w fun e w' => e = .returned (.bool bb) ∧ ∃ q, w' = w.drewN q := by
  obtain ⟨ao, ca, rfl, hla, hca⟩ := ha
  obtain ⟨bo, cb, rfl, hlb, hcb⟩ := hb
  have HA : Hid (la ≠ [] → ∃ b off, ao = some ⟨b, off, none⟩ ∧ ∀ j, j < la.length → w.cell? ⟨b, off + j, none⟩ = some (.int .u64 (la[j]?.getD 0 : Nat))) := hca
  have HB : Hid (lb ≠ [] → ∃ b off, bo = some ⟨b, off, none⟩ ∧ ∀ j, j < lb.length → w.cell? ⟨b, off + j, none⟩ = some (.int .u64 (lb[j]?.getD 0 : Nat))) := hcb
  have HL : Hid (la.length = lb.length) := hl
  clear hca hcb hl hlb
  rw [← HL.out]
  obtain ⟨n, hn⟩ : ∃ n, n = la.length := ⟨_, rfl⟩
  rw [← hn] at hla ⊢
  have Hn : Hid (n = la.length) := hn
  clear hn
  have ht : ((n : Int) != (n : Int)) = false := by simp
  by_cases h0 : n = 0
  · have hbt : bb = true := by
      rw [hbb.out]
      have e1 : la = [] := List.eq_nil_of_length_eq_zero (by have := Hn.out; omega)
      have e2 : lb = [] := List.eq_nil_of_length_eq_zero (by have := Hn.out; have := HL.out; omega)
      simp [e1, e2]
    subst hbt; subst h0
    go_enter Try.func32, Try.ntmps32
    go_wp2
    refine wp_loop_rounds 1 ?_
    rw [rounds_succ]
    go_wp2
    go_ret
    exact ⟨rfl, 0, rfl⟩
  · obtain ⟨b, off, rfl, hca⟩ := HA.out (fun e => h0 (by have := Hn.out; rw [e] at this; simpa using this))
    obtain ⟨b2, off2, rfl, hcb⟩ := HB.out (fun e => h0 (by have := Hn.out; have h2 := HL.out; rw [e] at h2; simp at h2; rw [h2] at this; simpa using this))
    have KA : Hid (∀ j, j < n → w.cell? ⟨b, off + j, none⟩ = some (.int .u64 (la[j]?.getD 0 : Nat))) := fun j hj => hca j (by have := Hn.out; omega)
    have KB : Hid (∀ j, j < n → w.cell? ⟨b2, off2 + j, none⟩ = some (.int .u64 (lb[j]?.getD 0 : Nat))) := fun j hj => hcb j (by have := Hn.out; have := HL.out; omega)
    clear hca hcb HA HB
    go_enter Try.func32, Try.ntmps32
    go_wp2
    go_loopw [13] (fun i wr => ∃ (k q : Nat), k ≤ n ∧ i = .int .i64 k ∧ wr = w.drewN q ∧ Hid (la.take k = lb.take k)) (fun i _ => n - (intOf i).toNat)
    case atStart => exact ⟨0, 0, Nat.zero_le _, rfl, rfl, rfl⟩
    case round =>
      obtain ⟨k, q, hk, rfl, rfl, HT⟩ := hrel
      by_cases hlt : k < n
      · have c1 := KA.out k hlt
        have c2 := KB.out k hlt
        have HE : Hid (la[k]?.getD 0 = lb[k]?.getD 0 → la.take (k + 1) = lb.take (k + 1)) := fun he => take_succ_eq HT.out (by have := Hn.out; omega) (by have := Hn.out; have := HL.out; omega) he
        have HD : Hid (la[k]?.getD 0 ≠ lb[k]?.getD 0 → bb = false) := fun he => by
          rw [hbb.out]; simp; intro e; exact he (by rw [e])
        generalize la[k]?.getD 0 = x at *
        generalize lb[k]?.getD 0 = y at *
        by_cases hxy : x = y
        · subst hxy
          have HE2 : Hid (la.take (k + 1) = lb.take (k + 1)) := HE.out rfl
          clear HE HD
          have hne : ((x : Int) != (x : Int)) = false := by simp
          go_wp2
          go_quiet (fail)
          go_wp2
          go_roundw
          case rel => exact ⟨k + 1, _, by omega, congrArg (Value.int .i64) (by omega), rfl, HE2⟩
          case measure => simp [intOf]; omega
        · have hne : ((x : Int) != (y : Int)) = true := by rw [bne_iff_ne]; omega
          have hbf := HD.out hxy
          subst hbf
          clear HE HD
          go_wp2
          go_quiet (fail)
          go_wp2
          go_ret
          exact ⟨rfl, q + nq, World.drewN_drewN _ _ _⟩
      · have hkn : k = n := by omega
        have hbt : bb = true := by
          rw [hbb.out]
          have h1 := HT.out
          rw [List.take_of_length_le (by have := Hn.out; omega), List.take_of_length_le (by have := Hn.out; have := HL.out; omega)] at h1
          simp [h1]
        subst hbt; subst hkn
        go_wp2
        go_ret
        exact ⟨rfl, q, rfl⟩

theorem eqs_any (v u : Value) (la lb : List Nat) (w : World) (ha : Seen w v la) (hb : Seen w u lb) :
    Calls Try.prog 32 #[v, u] w fun e w' => e = .returned (.bool (decide (la = lb))) ∧ Fr (fun _ => False) w w' := by
  by_cases hl : la.length = lb.length
  · refine (eqs_same v u la lb w ha hb hl _ rfl).mono ?_
    rintro e w' ⟨he, q, rfl⟩
    exact ⟨he, (Fr.refl _ _).drewN q⟩
  · refine (eqs_len v u la lb w ha hb hl).mono ?_
    rintro e w' ⟨he, rfl⟩
    refine ⟨?_, Fr.refl _ _⟩
    rw [decide_eq_false (fun h => hl (by rw [h]))]; exact he
theorem eqw_any (v u : Value) (la lb : List Nat) (w : World) (ha : Seen w v la) (hb : Seen w u lb) :
    Calls Try.prog 33 #[v, u] w fun e w' => e = .returned (.bool (decide (la = lb))) ∧ Fr (fun _ => False) w w' := by
  by_cases hl : la.length = lb.length
  · refine (eqw_same v u la lb w ha hb hl _ rfl).mono ?_
    rintro e w' ⟨he, q, rfl⟩
    exact ⟨he, (Fr.refl _ _).drewN q⟩
  · refine (eqw_len v u la lb w ha hb hl).mono ?_
    rintro e w' ⟨he, rfl⟩
    refine ⟨?_, Fr.refl _ _⟩
    rw [decide_eq_false (fun h => hl (by rw [h]))]; exact he

def eqB (x y x2 y2 : Int) (la lb : List Nat) : Bool := (x == x2) && ((y == y2) && decide (la = lb))

set_option maxRecDepth 100000 in
set_option maxHeartbeats 2000000 in
theorem eqBitmap_any (x y x2 y2 : Int) (v u : Value) (la lb : List Nat) (w : World) (ha : Seen w v la) (hb : Seen w u lb) :
    Calls Try.prog 15 #[.agg #[.int .i64 x, .int .i64 y, v], .agg #[.int .i64 x2, .int .i64 y2, u]] w fun e w' => e = .returned (.bool (eqB x y x2 y2 la lb)) ∧ Fr (fun _ => False) w w' := by
  have HQ : Hid (∀ w', Fr (fun _ => False) w w' → Calls Try.prog 33 #[v, u] w' fun e w'' => e = .returned (.bool (decide (la = lb))) ∧ Fr (fun _ => False) w' w'') := fun w' hf => eqw_any v u la lb w' (ha.kept hf) (hb.kept hf)
  obtain ⟨ao, ca, rfl, hla, _⟩ := ha
  obtain ⟨bo, cb, rfl, hlb, _⟩ := hb
  unfold eqB
  generalize decide (la = lb) = d at *
  generalize la.length = n at *
  generalize lb.length = m at *
  rcases hxb : (x == x2) with _ | _
  · go_enter Try.func15, Try.ntmps15
    go_wp2_with fail
    go_ret
    exact ⟨rfl, ((Fr.refl _ _).alloc _).alloc _⟩
  · rcases hyb : (y == y2) with _ | _
    · go_enter Try.func15, Try.ntmps15
      go_wp2_with fail
      go_ret
      exact ⟨rfl, ((Fr.refl _ _).alloc _).alloc _⟩
    · go_enter Try.func15, Try.ntmps15
      go_wp2_with fail
      refine (HQ.out _ (((Fr.refl _ _).alloc _).alloc _)).mono ?_
      rintro e w1 ⟨rfl, hf1⟩
      have HF : Hid (Fr (fun _ => False) w w1) := (((Fr.refl _ _).alloc _).alloc _).trans hf1 (fun _ _ hh => hh)
      clear hf1
      go_wp2_with fail
      go_ret
      exact ⟨by cases d <;> rfl, HF.out⟩

def qB (x y x2 y2 : Int) (la lb : List Nat) : Bool := validB x y la && (validB x2 y2 lb && eqB x y x2 y2 la lb)

set_option maxRecDepth 100000 in
set_option maxHeartbeats 4000000 in
theorem equal_any (x y x2 y2 : Int) (v u : Value) (la lb : List Nat) (w : World) (hx : -9223372036854775808 ≤ x ∧ x ≤ 9223372036854775807) (hy : -9223372036854775808 ≤ y ∧ y ≤ 9223372036854775807) (hx2 : -9223372036854775808 ≤ x2 ∧ x2 ≤ 9223372036854775807) (hy2 : -9223372036854775808 ≤ y2 ∧ y2 ≤ 9223372036854775807)
    (ha : Seen w v la) (hb : Seen w u lb) (hla : ∀ j : Nat, la[j]?.getD 0 < 18446744073709551616) (hlb : ∀ j : Nat, lb[j]?.getD 0 < 18446744073709551616) :
    Calls Try.prog 14 #[.agg #[.int .i64 x, .int .i64 y, v], .agg #[.int .i64 x2, .int .i64 y2, u]] w fun e w' => e = .returned (.bool (qB x y x2 y2 la lb)) ∧ Fr (fun _ => False) w w' := by
  have HQ : Hid (∀ w', Fr (fun _ => False) w w' → Calls Try.prog 32 #[v, u] w' fun e w'' => e = .returned (.bool (decide (la = lb))) ∧ Fr (fun _ => False) w' w'') := fun w' hf => eqs_any v u la lb w' (ha.kept hf) (hb.kept hf)
  have HC1 : Hid (∀ w', Fr (fun _ => False) w w' → Calls Try.prog 22 #[.agg #[.int .i64 x, .int .i64 y, v]] w' fun e w'' => e = .returned (.bool (validB x y la)) ∧ Fr (fun _ => False) w' w'') := fun w' hf => check_any x y v la w' hx hy (ha.kept hf) hla
  have HC2 : Hid (∀ w', Fr (fun _ => False) w w' → Calls Try.prog 22 #[.agg #[.int .i64 x2, .int .i64 y2, u]] w' fun e w'' => e = .returned (.bool (validB x2 y2 lb)) ∧ Fr (fun _ => False) w' w'') := fun w' hf => check_any x2 y2 u lb w' hx2 hy2 (hb.kept hf) hlb
  clear hx hy hx2 hy2 hla hlb
  obtain ⟨ao, ca, rfl, hl1, _⟩ := ha
  obtain ⟨bo, cb, rfl, hl2, _⟩ := hb
  unfold qB eqB
  generalize decide (la = lb) = d at *
  generalize validB x y la = m1 at *
  generalize validB x2 y2 lb = m2 at *
  generalize la.length = n at *
  generalize lb.length = m at *
  have HBX : Hid (∀ w' : World, Fr (fun _ => False) ((w.alloc (.cells #[.int .i64 x, .int .i64 y, .slice ao n ca] 24)).alloc (.cells #[.int .i64 x2, .int .i64 y2, .slice bo m cb] 24)) w' → (w'.cell? ⟨w.heap.size, 0, none⟩ = some (.int .i64 x) ∧ w'.cell? ⟨w.heap.size, 1, none⟩ = some (.int .i64 y) ∧ w'.cell? ⟨w.heap.size, 2, none⟩ = some (.slice ao n ca)) ∧ (w'.cell? ⟨w.heap.size + 1, 0, none⟩ = some (.int .i64 x2) ∧ w'.cell? ⟨w.heap.size + 1, 1, none⟩ = some (.int .i64 y2) ∧ w'.cell? ⟨w.heap.size + 1, 2, none⟩ = some (.slice bo m cb))) := fun w' hf => by
    have hA : w'.heap[w.heap.size]? = some (.cells #[.int .i64 x, .int .i64 y, .slice ao n ca] 24 (0, 0)) := by
      rw [hf.block _ (by simp; omega) (fun hh => hh), Below.heap_alloc _ _ _ (by simp)]; exact heap_alloc_new _ _
    have hB : w'.heap[w.heap.size + 1]? = some (.cells #[.int .i64 x2, .int .i64 y2, .slice bo m cb] 24 (0, 0)) := by
      rw [hf.block _ (by simp) (fun hh => hh)]; exact heap_new1 _ _ _
    obtain ⟨c0, c1, c2, _⟩ := cell_of_three hA
    obtain ⟨d0, d1, d2, _⟩ := cell_of_three hB
    exact ⟨⟨c0, c1, c2⟩, d0, d1, d2⟩
  go_enter Try.func14, Try.ntmps14
  go_wp2_with fail
  refine (HC1.out _ (((Fr.refl _ _).alloc _).alloc _)).mono ?_
  rintro e w1 ⟨rfl, hf1⟩
  have HF1 : Hid (Fr (fun _ => False) ((w.alloc (.cells #[.int .i64 x, .int .i64 y, .slice ao n ca] 24)).alloc (.cells #[.int .i64 x2, .int .i64 y2, .slice bo m cb] 24)) w1) := hf1
  have HW1 : Hid (Fr (fun _ => False) w w1) := (((Fr.refl _ _).alloc _).alloc _).trans hf1 (fun _ _ hh => hh)
  obtain ⟨⟨c0, c1, c2⟩, d0, d1, d2⟩ := HBX.out w1 hf1
  clear hf1
  cases m1
  · go_wp2_with fail
    go_ret
    exact ⟨rfl, HW1.out⟩
  · go_wp2_with fail
    refine (HC2.out _ HW1.out).mono ?_
    rintro e w2 ⟨rfl, hf2⟩
    have HF2 : Hid (Fr (fun _ => False) ((w.alloc (.cells #[.int .i64 x, .int .i64 y, .slice ao n ca] 24)).alloc (.cells #[.int .i64 x2, .int .i64 y2, .slice bo m cb] 24)) w2) := HF1.out.trans hf2 (fun _ _ hh => hh)
    have HW2 : Hid (Fr (fun _ => False) w w2) := HW1.out.trans hf2 (fun _ _ hh => hh)
    clear c0 c1 c2 d0 d1 d2
    obtain ⟨⟨c0, c1, c2⟩, d0, d1, d2⟩ := HBX.out w2 HF2.out
    clear hf2 HF1 HW1
    cases m2
    · go_wp2_with fail
      go_ret
      exact ⟨rfl, HW2.out⟩
    · rcases hxb : (x == x2) with _ | _
      · go_wp2_with fail
        go_ret
        exact ⟨by rw [hxb]; rfl, HW2.out⟩
      · rcases hyb : (y == y2) with _ | _
        · go_wp2_with fail
          go_ret
          exact ⟨by rw [hxb, hyb]; rfl, HW2.out⟩
        · go_wp2_with fail
          refine (HQ.out _ HW2.out).mono ?_
          rintro e w3 ⟨rfl, hf3⟩
          have HW3 : Hid (Fr (fun _ => False) w w3) := HW2.out.trans hf3 (fun _ _ hh => hh)
          clear hf3
          go_wp2_with fail
          go_ret
          exact ⟨by rw [hxb, hyb]; cases d <;> rfl, HW3.out⟩

end Go.Proofs.Ytcopbjinnegfoab
