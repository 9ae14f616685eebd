/- Segments' headers: lists that are handed in; rising references; equal lists. -/
import Derived.Test.YtamonbkhpbdojaaDoorSm
import Derived.BigQuiet
namespace Go.Proofs.YtamonbkhpbdojaaDoor
set_option maxRecDepth 100000
open Go.RowKit

/-- A slice that shows these cells. -/
def RowS (w : World) (v : Value) (xs : List Value) : Prop :=
  ∃ ao cap, v = .slice ao xs.length cap ∧ xs.length ≤ 9223372036854775807 ∧ (xs ≠ [] → ∃ b off, ao = some ⟨b, off, none⟩ ∧ ∀ j, j < xs.length → w.cell? ⟨b, off + j, none⟩ = xs[j]?)
theorem RowS.keptB {w w' : World} {v : Value} {xs : List Value} {S : Nat → Prop} (h : RowS w v xs) (f : Fr S w w') (hs : ∀ b off n c, v = .slice (some ⟨b, off, none⟩) n c → ¬ S b) : RowS w' v xs := by
  obtain ⟨ao, cap, rfl, h1, h2⟩ := h
  refine ⟨ao, cap, rfl, h1, fun hx => ?_⟩
  obtain ⟨b, off, rfl, hc⟩ := h2 hx
  refine ⟨b, off, rfl, fun j hj => ?_⟩
  have h3 := hc j hj
  rw [List.getElem?_eq_getElem hj] at h3 ⊢
  exact f.cell h3 (hs b off _ _ rfl)
theorem RowS.kept {w w' : World} {v : Value} {xs : List Value} (h : RowS w v xs) (f : Fr (fun _ => False) w w') : RowS w' v xs := h.keptB f (fun _ _ _ _ _ h => h)
theorem RowS.of_own {w : World} {b e : Nat} {v : Value} {xs : List Value} (h : w.ownsRow b e 1 v xs.length xs) (hl : xs.length ≤ 9223372036854775807) : RowS w v xs := by
  obtain ⟨ao, c, rfl⟩ := own_slice h
  refine ⟨ao, c, rfl, hl, fun hx => ?_⟩
  obtain ⟨g, cap, hv, _⟩ := row_form h (List.length_pos_iff.2 hx)
  simp at hv
  obtain ⟨rfl, rfl⟩ := hv
  refine ⟨g, 0, rfl, fun j hj => ?_⟩
  have := h.cells rfl j xs[j] (List.getElem?_eq_getElem hj)
  rw [List.getElem?_eq_getElem hj]
  have h2 : (⟨g, 0, none⟩ : Addr).add j = ⟨g, 0 + j, none⟩ := by unfold Addr.add; split <;> simp_all
  rw [h2] at this; exact this

def iCells (l : List Int) : List Value := l.map fun x => Value.int .i64 x
theorem length_iCells (l : List Int) : (iCells l).length = l.length := by simp [iCells]
theorem iCells_get (l : List Int) (j : Nat) (h : j < l.length) : (iCells l)[j]? = some (.int .i64 (l[j]?.getD 0)) := by simp [iCells, h]
theorem intCells_i (l : List Nat) : intCells l = iCells (l.map fun (n : Nat) => (n : Int)) := by simp [intCells, iCells]
theorem length_boolCells (l : List Bool) : (boolCells l).length = l.length := by simp [boolCells]
theorem boolCells_get (l : List Bool) (j : Nat) (h : j < l.length) : (boolCells l)[j]? = some (.bool (l[j]?.getD false)) := by simp [boolCells, h]

def risB (last : Int) : List Int → Int → Bool
  | [], _ => true
  | r :: t, least => decide (least ≤ r) && decide (r ≤ last) && risB last t (r + 1)
theorem risB_drop (last : Int) (l : List Int) (k : Nat) (h : k < l.length) (least : Int) : risB last (l.drop k) least = (decide (least ≤ l[k]?.getD 0) && decide (l[k]?.getD 0 ≤ last) && risB last (l.drop (k + 1)) (l[k]?.getD 0 + 1)) := by
  rw [← List.getElem_cons_drop h, List.getElem?_eq_getElem h]; rfl

set_option maxHeartbeats 2000000 in
theorem rising28 (v : Value) (Rs : List Int) (last : Int) (w : World) (h : RowS w v (iCells Rs)) (hl : last ≤ 40000) :
    Calls Tryd.prog 28 #[v, .int .i64 last] w fun e w' => e = .returned (.bool (risB last Rs 0)) ∧ w' = w := by
  obtain ⟨ao, cap, rfl, hlen, hc⟩ := h
  rw [length_iCells] at *
  have HC : Hid (Rs ≠ [] → ∃ b off, ao = some ⟨b, off, none⟩ ∧ ∀ j, j < Rs.length → w.cell? ⟨b, off + j, none⟩ = some (.int .i64 (Rs[j]?.getD 0))) := fun hx => by
    obtain ⟨b, off, e, hc⟩ := hc (fun e => hx (by cases Rs with | nil => rfl | cons a t => simp [iCells] at e))
    exact ⟨b, off, e, fun j hj => by rw [hc j hj, iCells_get Rs j hj]⟩
  clear hc
  obtain ⟨n, hn⟩ : ∃ n, n = Rs.length := ⟨_, rfl⟩
  rw [← hn] at hlen ⊢
  obtain ⟨B, hB⟩ : ∃ B, B = risB last Rs 0 := ⟨_, rfl⟩
  have HB : Hid (B = risB last (Rs.drop 0) 0) := hB
  rw [← hB]
  have HN : Hid (n = Rs.length) := hn
  clear hB hn
  by_cases h0 : n = 0
  · have e1 : Rs = [] := List.eq_nil_of_length_eq_zero (by rw [← HN.out]; exact h0)
    have e2 : B = true := by rw [HB.out, e1]; rfl
    subst h0 e2
    go_enter Tryd.func28, Tryd.ntmps28
    go_wp2
    refine wp_loop_rounds 1 ?_
    rw [rounds_succ]
    go_wp2
    go_ret
    exact ⟨rfl, rfl⟩
  · obtain ⟨b, off, rfl, hc⟩ := HC.out (fun e => h0 (by rw [HN.out, e]; rfl))
    have HD : Hid (∀ j, j < n → w.cell? ⟨b, off + j, none⟩ = some (.int .i64 (Rs[j]?.getD 0))) := fun j hj => hc j (by have := HN.out; omega)
    clear hc HC
    go_enter Tryd.func28, Tryd.ntmps28
    go_wp2_with fail
    go_loopw [5, 7, 10] (fun s _ u wr => ∃ (k : Nat) (lk : Int), k ≤ n ∧ 0 ≤ lk ∧ lk ≤ 40001 ∧ s = .int .i64 lk ∧ u = .int .i64 (k : Int) ∧ wr = w ∧ Hid (B = risB last (Rs.drop k) lk)) (fun _ _ u _ => (n - (intOf u).toNat))
    case atStart => exact ⟨0, 0, by omega, by omega, by omega, rfl, rfl, rfl, HB.out⟩
    case round =>
      obtain ⟨k, lk, hk, hl0, hlk, rfl, rfl, rfl, HQ⟩ := hrel
      by_cases hlt : k < n
      · have c1 := HD.out k hlt
        have hd : decide ((k : Int) < (n : Int)) = true := decide_eq_true (by omega)
        have HE : Hid (B = (decide (lk ≤ Rs[k]?.getD 0) && decide (Rs[k]?.getD 0 ≤ last) && risB last (Rs.drop (k + 1)) (Rs[k]?.getD 0 + 1))) := by
          show _ = _; rw [HQ.out, risB_drop last Rs k (by have := HN.out; omega)]
        generalize Rs[k]?.getD 0 = x at *
        go_wp2_with fail
        refine (between_any _ _ _ _).mono ?_
        rintro e w1 ⟨rfl, rfl⟩
        by_cases hb : lk ≤ x ∧ x ≤ last
        · have d1 : (decide (lk ≤ x) && decide (x ≤ last)) = true := by rw [decide_eq_true hb.1, decide_eq_true hb.2]; rfl
          have hwn : IntKind.i64.wrap (x + 1) = x + 1 := by rw [IntKind.wrap_i64]; omega
          have HE2 : Hid (B = risB last (Rs.drop (k + 1)) (x + 1)) := by show _ = _; rw [HE.out, d1]; rfl
          rw [d1]
          go_wp2_with fail
          go_roundw
          case rel => exact ⟨k + 1, x + 1, by omega, by omega, by omega, (by first | rfl | trivial), (by first | exact congrArg (Value.int .i64) (by omega) | trivial), (by first | rfl | trivial), HE2.out⟩
          case measure => simp [intOf]; omega
        · have d1 : (decide (lk ≤ x) && decide (x ≤ last)) = false := by
            rcases Int.lt_or_le x lk with h | h
            · rw [decide_eq_false (by omega), Bool.false_and]
            · rw [decide_eq_false (by omega : ¬ x ≤ last), Bool.and_false]
          have e2 : B = false := by rw [HE.out, d1]; rfl
          subst e2
          rw [d1]
          go_wp2_with fail
          go_ret
          exact ⟨rfl, rfl⟩
      · obtain rfl : k = n := by omega
        have hd : decide ((k : Int) < (k : Int)) = false := decide_eq_false (by omega)
        have e2 : B = true := by rw [HQ.out, List.drop_of_length_le (by have := HN.out; omega)]; rfl
        subst e2
        go_wp2_with fail
        go_ret
        exact ⟨rfl, rfl⟩

theorem ne_nil_i {Rs : List Int} (h : Rs ≠ []) : iCells Rs ≠ [] := fun e => h (by cases Rs with | nil => rfl | cons a t => simp [iCells] at e)
theorem ne_nil_b {Rs : List Bool} (h : Rs ≠ []) : boolCells Rs ≠ [] := fun e => h (by cases Rs with | nil => rfl | cons a t => simp [boolCells] at e)

set_option maxHeartbeats 2000000 in
theorem eqInts_same (v u : Value) (l : List Int) (w : World) (ha : RowS w v (iCells l)) (hb : RowS w u (iCells l)) :
    Calls Tryd.prog 31 #[v, u] w fun e w' => e = .returned (.bool true) ∧ ∃ q, w' = w.drewN q := by
  obtain ⟨ao, ca, rfl, hla, hca⟩ := ha
  obtain ⟨bo, cb, rfl, hlb, hcb⟩ := hb
  rw [length_iCells] at *
  obtain ⟨n, hn⟩ : ∃ n, n = l.length := ⟨_, rfl⟩
  rw [← hn] at hla ⊢
  have HN : Hid (n = l.length) := hn
  have ht : ((n : Int) != (n : Int)) = false := by simp
  by_cases h0 : n = 0
  · subst h0
    clear hca hcb hn hlb
    go_enter Tryd.func31, Tryd.ntmps31
    go_wp2
    refine wp_loop_rounds 1 ?_
    rw [rounds_succ]
    go_wp2
    go_ret
    exact ⟨rfl, 0, rfl⟩
  · have hne := ne_nil_i (Rs := l) (fun e => h0 (by rw [hn, e]; rfl))
    obtain ⟨b, off, rfl, ka⟩ := hca hne
    obtain ⟨b2, off2, rfl, kb⟩ := hcb hne
    have KA : Hid (∀ j, j < n → w.cell? ⟨b, off + j, none⟩ = some (.int .i64 (l[j]?.getD 0))) := fun j hj => by rw [ka j (by omega), iCells_get l j (by omega)]
    have KB : Hid (∀ j, j < n → w.cell? ⟨b2, off2 + j, none⟩ = some (.int .i64 (l[j]?.getD 0))) := fun j hj => by rw [kb j (by omega), iCells_get l j (by omega)]
    clear hca hcb hne hn hlb ka kb
    go_enter Tryd.func31, Tryd.ntmps31
    go_wp2
    go_loopw [5] (fun i wr => ∃ (k q : Nat), k ≤ n ∧ i = .int .i64 k ∧ wr = w.drewN q) (fun i _ => n - (intOf i).toNat)
    case atStart => exact ⟨0, 0, Nat.zero_le _, rfl, rfl⟩
    case round =>
      obtain ⟨k, q, hk, rfl, rfl⟩ := hrel
      by_cases hlt : k < n
      · have c1 := KA.out k hlt
        have c2 := KB.out k hlt
        generalize l[k]?.getD 0 = x at *
        have hne : (x != x) = false := by simp
        go_wp2
        go_quiet (fail)
        go_wp2
        go_roundw
        case rel => exact ⟨k + 1, _, by omega, congrArg (Value.int .i64) (by omega), rfl⟩
        case measure => simp [intOf]; omega
      · obtain rfl : k = n := by omega
        go_wp2
        go_ret
        exact ⟨rfl, q, rfl⟩

set_option maxHeartbeats 2000000 in
theorem eqFlags_same (v u : Value) (l : List Bool) (w : World) (ha : RowS w v (boolCells l)) (hb : RowS w u (boolCells l)) :
    Calls Tryd.prog 32 #[v, u] w fun e w' => e = .returned (.bool true) ∧ ∃ q, w' = w.drewN q := by
  obtain ⟨ao, ca, rfl, hla, hca⟩ := ha
  obtain ⟨bo, cb, rfl, hlb, hcb⟩ := hb
  rw [length_boolCells] at *
  obtain ⟨n, hn⟩ : ∃ n, n = l.length := ⟨_, rfl⟩
  rw [← hn] at hla ⊢
  have HN : Hid (n = l.length) := hn
  have ht : ((n : Int) != (n : Int)) = false := by simp
  by_cases h0 : n = 0
  · subst h0
    clear hca hcb hn hlb
    go_enter Tryd.func32, Tryd.ntmps32
    go_wp2
    refine wp_loop_rounds 1 ?_
    rw [rounds_succ]
    go_wp2
    go_ret
    exact ⟨rfl, 0, rfl⟩
  · have hne := ne_nil_b (Rs := l) (fun e => h0 (by rw [hn, e]; rfl))
    obtain ⟨b, off, rfl, ka⟩ := hca hne
    obtain ⟨b2, off2, rfl, kb⟩ := hcb hne
    have KA : Hid (∀ j, j < n → w.cell? ⟨b, off + j, none⟩ = some (.bool (l[j]?.getD false))) := fun j hj => by rw [ka j (by omega), boolCells_get l j (by omega)]
    have KB : Hid (∀ j, j < n → w.cell? ⟨b2, off2 + j, none⟩ = some (.bool (l[j]?.getD false))) := fun j hj => by rw [kb j (by omega), boolCells_get l j (by omega)]
    clear hca hcb hne hn hlb ka kb
    go_enter Tryd.func32, Tryd.ntmps32
    go_wp2
    go_loopw [5] (fun i wr => ∃ (k q : Nat), k ≤ n ∧ i = .int .i64 k ∧ wr = w.drewN q) (fun i _ => n - (intOf i).toNat)
    case atStart => exact ⟨0, 0, Nat.zero_le _, rfl, rfl⟩
    case round =>
      obtain ⟨k, q, hk, rfl, rfl⟩ := hrel
      by_cases hlt : k < n
      · have c1 := KA.out k hlt
        have c2 := KB.out k hlt
        generalize l[k]?.getD false = x at *
        cases x
        all_goals
          go_wp2
          go_quiet (fail)
          go_wp2
          go_roundw
          case rel => exact ⟨k + 1, _, by omega, congrArg (Value.int .i64) (by omega), rfl⟩
          case measure => simp [intOf]; omega
      · obtain rfl : k = n := by omega
        go_wp2
        go_ret
        exact ⟨rfl, q, rfl⟩
end Go.Proofs.YtamonbkhpbdojaaDoor
