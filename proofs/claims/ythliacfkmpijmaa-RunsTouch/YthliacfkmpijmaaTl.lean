/- The law 'RunsTouch'. -/
import Derived.Test.YthliacfkmpijmaaWk
namespace Go.Proofs.Ythliacfkmpijmaa
open Go.RowKit

def nearN (a b c : Int) : Nat → Bool
  | 0 => false
  | k + 1 => nearN a b c k || (decide (b ≤ a + k + 1) && decide (a + k - 1 < c) && decide (b < c))
theorem nearN_iff (a b c : Int) : ∀ n, nearN a b c n = true ↔ ∃ k : Nat, k < n ∧ b ≤ a + k + 1 ∧ a + k - 1 < c ∧ b < c
  | 0 => by simp [nearN]
  | n + 1 => by
    simp only [nearN, Bool.or_eq_true, Bool.and_eq_true, decide_eq_true_eq, nearN_iff a b c n]
    constructor
    · rintro (⟨k, h, r⟩ | ⟨⟨h1, h2⟩, h3⟩)
      · exact ⟨k, by omega, r⟩
      · exact ⟨n, by omega, h1, h2, h3⟩
    · rintro ⟨k, h, h1, h2, h3⟩
      by_cases e : k = n
      · subst e; exact Or.inr ⟨⟨h1, h2⟩, h3⟩
      · exact Or.inl ⟨k, by omega, h1, h2, h3⟩
theorem near_touch (a1 a2 b1 b2 : Int) : nearN a1 b1 b2 (a2 - a1).toNat = touchB a1 a2 b1 b2 := by
  rw [Bool.eq_iff_iff, nearN_iff]
  unfold touchB
  simp only [Bool.and_eq_true, decide_eq_true_eq]
  constructor
  · rintro ⟨k, h, h1, h2, h3⟩
    omega
  · rintro ⟨⟨⟨h1, h2⟩, h3⟩, h4⟩
    rcases Int.le_total b1 (a1 + 1) with h | h
    · exact ⟨0, by omega, by omega, by omega, h2⟩
    · exact ⟨(b1 - 1 - a1).toNat, by omega, by omega, by omega, h2⟩

/-- Numbers that an int holds. -/
def I64 (x : Int) : Prop := -9223372036854775808 ≤ x ∧ x ≤ 9223372036854775807

set_option maxRecDepth 100000 in
set_option maxHeartbeats 8000000 in
theorem touchLaw_any (v : Value) (l : List (Int × Int)) (w : World) (hv : SeenR w v l) :
    Calls Try.prog 7 #[.agg #[v]] w fun e w' => e = .returned (.bool true) ∧ Fr (fun _ => False) w w' := by
  obtain ⟨ao, cap, rfl, hl, hc⟩ := hv
  have HC : Hid (∀ w', Fr (fun _ => False) w w' → ∀ j, j < l.length → ∃ b off, ao = some ⟨b, off, none⟩ ∧ w'.cell? ⟨b, off + j * 2, none⟩ = some (.int .i64 (l[j]?.getD (0, 0)).1) ∧ w'.cell? ⟨b, off + j * 2 + 1, none⟩ = some (.int .i64 (l[j]?.getD (0, 0)).2)) := fun w' f j hj => by
    obtain ⟨b, off, e, hcc⟩ := hc (by intro e; rw [e] at hj; simp at hj)
    obtain ⟨h0, h1⟩ := hcc j hj
    refine ⟨b, off, e, ?_, ?_⟩
    · rw [f.cellEq (seen_lt h0) (fun h => h)]; exact h0
    · rw [f.cellEq (seen_lt h1) (fun h => h)]; exact h1
  clear hc
  generalize l.length = n at *
  have HA : Hid (Fr (fun _ => False) w (w.alloc (.cells #[.slice ao n cap] 51))) := (Fr.refl _ _).alloc _
  have HBX : Hid (∀ w', Fr (fun _ => False) (w.alloc (.cells #[.slice ao n cap] 51)) w' → w'.cell? ⟨w.heap.size, 0, none⟩ = some (.slice ao n cap)) := fun w' hf => by
    have := (hf.block w.heap.size (by simp) (fun hh => hh)).trans (heap_alloc_new w _)
    simp [World.cell?, this]
  go_enter Try.func7, Try.ntmps7
  go_wp2_with fail
  generalize w.alloc (.cells #[.slice ao n cap] 51) = w0 at *
  go_loopg [3, 4, 5, 6, 7, 8] 60 (fun q i _ _ _ _ _ wr => ∃ j : Nat, j + q = 60 ∧ i = .int .i64 ((j + 1 : Nat) : Int) ∧ Fr (fun _ => False) w0 wr)
  case atStart => exact ⟨0, by omega, rfl, Fr.refl _ _⟩
  case round =>
    obtain ⟨j, hjq, rfl, hfr⟩ := hrel
    have HFr : Hid (Fr (fun _ => False) w0 wr) := hfr
    have c0 := HBX.out _ hfr
    clear hfr
    by_cases hjn : j + 1 < n ∧ j < 59
    · obtain ⟨hj1, hj2⟩ := hjn
      have d1 : decide (j + 1 < n) = true := decide_eq_true hj1
      have d2 : decide (j < 59) = true := decide_eq_true hj2
      obtain ⟨b, off, rfl, k0, k1⟩ := HC.out wr (HA.out.trans HFr.out (fun _ _ h => h)) j (by omega)
      have HK : Hid (∀ w', Fr (fun _ => False) w0 w' → w'.cell? ⟨b, off + (j + 1) * 2, none⟩ = some (.int .i64 (l[j + 1]?.getD (0, 0)).1) ∧ w'.cell? ⟨b, off + (j + 1) * 2 + 1, none⟩ = some (.int .i64 (l[j + 1]?.getD (0, 0)).2)) := fun w' f => by
        obtain ⟨b', off', e', k2, k3⟩ := HC.out w' (HA.out.trans f (fun _ _ h => h)) (j + 1) (by omega)
        simp only [Option.some.injEq, Addr.mk.injEq, and_true] at e'
        obtain ⟨rfl, rfl⟩ := e'
        exact ⟨k2, k3⟩
      generalize (l[j]?.getD (0, 0)).1 = A1 at *
      generalize (l[j]?.getD (0, 0)).2 = A2 at *
      generalize (l[j + 1]?.getD (0, 0)).1 = B1 at *
      generalize (l[j + 1]?.getD (0, 0)).2 = B2 at *
      obtain ⟨k2, k3⟩ := HK.out _ (HFr.out.alloc (.cells #[.int .i64 A1, .int .i64 A2] 35))
      have c1 := HBX.out _ (HFr.out.alloc (.cells #[.int .i64 A1, .int .i64 A2] 35))
      have HF2 : Hid (Fr (fun _ => False) w0 ((wr.alloc (.cells #[.int .i64 A1, .int .i64 A2] 35)).alloc (.cells #[.int .i64 B1, .int .i64 B2] 35))) := (HFr.out.alloc _).alloc _
      have HB : Hid (∀ w', Fr (fun _ => False) ((wr.alloc (.cells #[.int .i64 A1, .int .i64 A2] 35)).alloc (.cells #[.int .i64 B1, .int .i64 B2] 35)) w' → w'.cell? ⟨wr.heap.size, 0, none⟩ = some (.int .i64 A1) ∧ w'.cell? ⟨wr.heap.size, 1, none⟩ = some (.int .i64 A2) ∧ w'.cell? ⟨wr.heap.size + 1, 0, none⟩ = some (.int .i64 B1) ∧ w'.cell? ⟨wr.heap.size + 1, 1, none⟩ = some (.int .i64 B2)) := fun w' hf => by
        obtain ⟨a0, a1, _⟩ := cell_of_two (blkOld hf (blkUp (heap_alloc_new wr (.cells #[.int .i64 A1, .int .i64 A2] 35)) _))
        obtain ⟨b0, b1, _⟩ := cell_of_two (blkOld hf (by have := heap_alloc_new (wr.alloc (.cells #[.int .i64 A1, .int .i64 A2] 35)) (.cells #[.int .i64 B1, .int .i64 B2] 35); rwa [World.size_alloc] at this))
        exact ⟨a0, a1, b0, b1⟩
      go_wp2_with fail
      generalize (wr.alloc (.cells #[.int .i64 A1, .int .i64 A2] 35)).alloc (.cells #[.int .i64 B1, .int .i64 B2] 35) = w2 at *
      clear k0 k1 k2 k3 c0 c1
      refine (touch_any A1 A2 B1 B2 _).mono ?_
      rintro e w3 ⟨rfl, hf3⟩
      have HF3 : Hid (Fr (fun _ => False) w2 w3) := hf3
      obtain ⟨k0, k1, k2, k3⟩ := HB.out _ hf3
      have HTC : Hid (touchB A1 A2 B1 B2 = touchB B1 B2 A1 A2) := touchB_comm _ _ _ _
      have HT0 := touchB_comm A1 A2 B1 B2
      have HT1 : Hid (nearN A1 B1 B2 (A2 - A1).toNat = touchB A1 A2 B1 B2) := near_touch _ _ _ _
      clear hf3
      generalize hT : touchB A1 A2 B1 B2 = T at *
      have HR1 : Hid (∀ w', Calls Try.prog 26 #[.agg #[.int .i64 A1, .int .i64 A2], .agg #[.int .i64 B1, .int .i64 B2]] w' fun e w'' => e = .returned (.bool T) ∧ Fr (fun _ => False) w' w'') := fun w' => by rw [← hT]; exact rtouch_any A1 A2 B1 B2 w'
      have HR2 : Hid (∀ w', Calls Try.prog 25 #[.agg #[.int .i64 B1, .int .i64 B2], .agg #[.int .i64 A1, .int .i64 A2]] w' fun e w'' => e = .returned (.bool T) ∧ Fr (fun _ => False) w' w'') := fun w' => by rw [HT0]; exact touch_any B1 B2 A1 A2 w'
      have hTT : (T != T) = false := by simp
      clear hT HT0 HTC
      go_wp2_with fail
      refine (HR1.out _).mono ?_
      rintro e w4 ⟨rfl, hf4⟩
      have HF4 : Hid (Fr (fun _ => False) w2 w4) := HF3.out.trans hf4 (fun _ _ h => h)
      clear hf4 k0 k1 k2 k3
      obtain ⟨k0, k1, k2, k3⟩ := HB.out _ HF4.out
      go_wp2_with fail
      refine (HR2.out _).mono ?_
      rintro e w5 ⟨rfl, hf5⟩
      have HF5 : Hid (Fr (fun _ => False) w2 w5) := HF4.out.trans hf5 (fun _ _ h => h)
      clear hf5 k0 k1 k2 k3 HF3 HF4 HR1 HR2
      obtain ⟨k0, k1, k2, k3⟩ := HB.out _ HF5.out
      by_cases hfar : A1 < -1000 ∨ 1000 < A2 ∨ B1 < -1000 ∨ 1000 < B2
      · have HN : Hid (Fr (fun _ => False) w0 w5) := HF2.out.trans HF5.out (fun _ _ h => h)
        by_cases g1 : A1 < -1000
        · have e1 : decide (A1 < -1000) = true := decide_eq_true g1
          go_wp2_with fail
          go_roundg (60 - (j + 1))
          case measure => omega
          case rel => exact ⟨j + 1, by omega, congrArg (Value.int .i64) (by omega), HN.out⟩
        · have e1 : decide (A1 < -1000) = false := decide_eq_false g1
          by_cases g2 : 1000 < A2
          · have e2 : decide (1000 < A2) = true := decide_eq_true g2
            go_wp2_with fail
            go_roundg (60 - (j + 1))
            case measure => omega
            case rel => exact ⟨j + 1, by omega, congrArg (Value.int .i64) (by omega), HN.out⟩
          · have e2 : decide (1000 < A2) = false := decide_eq_false g2
            by_cases g3 : B1 < -1000
            · have e3 : decide (B1 < -1000) = true := decide_eq_true g3
              go_wp2_with fail
              go_roundg (60 - (j + 1))
              case measure => omega
              case rel => exact ⟨j + 1, by omega, congrArg (Value.int .i64) (by omega), HN.out⟩
            · have e3 : decide (B1 < -1000) = false := decide_eq_false g3
              have e4 : decide (1000 < B2) = true := decide_eq_true (by omega)
              go_wp2_with fail
              go_roundg (60 - (j + 1))
              case measure => omega
              case rel => exact ⟨j + 1, by omega, congrArg (Value.int .i64) (by omega), HN.out⟩
      · have e1 : decide (A1 < -1000) = false := decide_eq_false (by omega)
        have e2 : decide (1000 < A2) = false := decide_eq_false (by omega)
        have e3 : decide (B1 < -1000) = false := decide_eq_false (by omega)
        have e4 : decide (1000 < B2) = false := decide_eq_false (by omega)
        go_wp2_with fail
        go_loopg [7, 8] (A2 - A1).toNat (fun q nb x wq => ∃ k : Nat, k + q = (A2 - A1).toNat ∧ x = .int .i64 (A1 + (k : Int)) ∧ nb = .bool (nearN A1 B1 B2 k) ∧ wq = w5)
        case atStart => exact ⟨0, by omega, by simp, rfl, rfl⟩
        case round =>
          obtain ⟨k, hkq, rfl, rfl, rfl⟩ := hrel
          by_cases hk : A1 + (k : Int) < A2
          · have dk : decide (A1 + (k : Int) < A2) = true := decide_eq_true hk
            obtain ⟨X, hX⟩ : ∃ X, X = A1 + (k : Int) := ⟨_, rfl⟩
            rw [← hX] at dk hk ⊢
            have HNS : Hid (nearN A1 B1 B2 (k + 1) = (nearN A1 B1 B2 k || (decide (B1 ≤ X + 1) && decide (X - 1 < B2) && decide (B1 < B2)))) := by rw [hX]; rfl
            have HX : Hid (X = A1 + (k : Int)) := hX
            have hX1 : -1000 ≤ X := by omega
            have hX2 : X < 1000 := by omega
            clear hX
            cases hnb : nearN A1 B1 B2 k with
            | true =>
              have HNE : Hid (nearN A1 B1 B2 (k + 1) = true) := by show _ = _; rw [HNS.out, hnb]; rfl
              clear hnb HNS
              go_wp2_with fail
              go_roundg ((A2 - A1).toNat - (k + 1))
              case measure => (have := HX.out; omega)
              case rel => exact ⟨k + 1, by have := HX.out; omega, congrArg (Value.int .i64) (by have := HX.out; omega), congrArg Value.bool (HNE.out.symm), rfl⟩
            | false =>
              by_cases p1 : B1 ≤ X + 1
              · have q1 : decide (B1 ≤ X + 1) = true := decide_eq_true p1
                by_cases p2 : X - 1 < B2
                · have q2 : decide (X - 1 < B2) = true := decide_eq_true p2
                  have HNE : Hid (nearN A1 B1 B2 (k + 1) = decide (B1 < B2)) := by show _ = _; rw [HNS.out, hnb, q1, q2]; rfl
                  clear hnb HNS
                  go_wp2_with fail
                  go_roundg ((A2 - A1).toNat - (k + 1))
                  case measure => (have := HX.out; omega)
                  case rel => exact ⟨k + 1, by have := HX.out; omega, congrArg (Value.int .i64) (by have := HX.out; omega), congrArg Value.bool (HNE.out.symm), rfl⟩
                · have q2 : decide (X - 1 < B2) = false := decide_eq_false p2
                  have HNE : Hid (nearN A1 B1 B2 (k + 1) = false) := by show _ = _; rw [HNS.out, hnb, q1, q2]; rfl
                  clear hnb HNS
                  go_wp2_with fail
                  go_roundg ((A2 - A1).toNat - (k + 1))
                  case measure => (have := HX.out; omega)
                  case rel => exact ⟨k + 1, by have := HX.out; omega, congrArg (Value.int .i64) (by have := HX.out; omega), congrArg Value.bool (HNE.out.symm), rfl⟩
              · have q1 : decide (B1 ≤ X + 1) = false := decide_eq_false p1
                have HNE : Hid (nearN A1 B1 B2 (k + 1) = false) := by show _ = _; rw [HNS.out, hnb, q1]; rfl
                clear hnb HNS
                go_wp2_with fail
                go_roundg ((A2 - A1).toNat - (k + 1))
                case measure => (have := HX.out; omega)
                case rel => exact ⟨k + 1, by have := HX.out; omega, congrArg (Value.int .i64) (by have := HX.out; omega), congrArg Value.bool (HNE.out.symm), rfl⟩
          · have dk : decide (A1 + (k : Int) < A2) = false := decide_eq_false hk
            have hke : (A2 - A1).toNat = k := by omega
            have HNE : Hid (nearN A1 B1 B2 k = T) := by have := HT1.out; rwa [hke] at this
            rw [HNE.out]
            have HN : Hid (Fr (fun _ => False) w0 wr) := HF2.out.trans HF5.out (fun _ _ h => h)
            clear hke
            go_wp2_with fail
            go_roundg (60 - (j + 1))
            case measure => omega
            case rel => exact ⟨j + 1, by omega, congrArg (Value.int .i64) (by omega), HN.out⟩
    · by_cases hj1 : j + 1 < n
      · have d1 : decide (j + 1 < n) = true := decide_eq_true hj1
        have d2 : decide ((j : Int) + 1 < 60) = false := decide_eq_false (by omega)
        go_wp2_with fail
        refine (wakes_any _).mono ?_
        rintro e wz ⟨rfl, hfz⟩
        have HFz : Hid (Fr (fun _ => False) w wz) := (HA.out.trans HFr.out (fun _ _ h => h)).trans hfz (fun _ _ h => h)
        clear hfz
        go_wp2_with fail
        go_ret
        exact ⟨rfl, HFz.out⟩
      · have d1 : decide (j + 1 < n) = false := decide_eq_false hj1
        go_wp2_with fail
        refine (wakes_any _).mono ?_
        rintro e wz ⟨rfl, hfz⟩
        have HFz : Hid (Fr (fun _ => False) w wz) := (HA.out.trans HFr.out (fun _ _ h => h)).trans hfz (fun _ _ h => h)
        clear hfz
        go_wp2_with fail
        go_ret
        exact ⟨rfl, HFz.out⟩

end Go.Proofs.Ythliacfkmpijmaa
