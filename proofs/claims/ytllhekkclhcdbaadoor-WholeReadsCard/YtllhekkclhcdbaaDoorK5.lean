/- Numbers that were put are got. -/
import Derived.Test.YtllhekkclhcdbaaDoorKDc
import Derived.Great.BuildSlice
import Derived.Deep.RegionHeld3
namespace Go.Proofs.YtllhekkclhcdbaaDoor

theorem take_pref {n : Nat} (h1 : 1 ≤ n) (h2 : n ≤ 131072) {L : List (Int × Nat)} (hL : ∀ p ∈ L, p.2 < 2) (hm : L.length ≤ 16777216) (base size : Nat) (a b : List Nat) (pre post : List (Int × Nat)) (v : Nat) (e : L = pre ++ decs base size v (a ++ b) ++ post) :
    takeD (codedB n L) base size a.length (decL n L pre.length, v) 0 = (joinB 0 a, (decL n L (pre.length + a.length), vEnd size v a)) := by
  refine take_back h1 h2 hL hm base size a pre (decs base size (vEnd size v a) b ++ post) v 0 ?_
  rw [e, decs_cat, List.append_assoc, List.append_assoc, List.append_assoc]

/-- The bits of a head. -/
def hbK (k : Nat) : List Nat := hiBits (rowH k) (rowX k)
theorem hbK_no : ∀ k, k < 6 → ∀ j, j < k → joinB 0 ((hbK k).take (hdN (j + 1))) ≠ rowH j := by decide
theorem hbK_yes : ∀ k, k < 6 → (k = 5 ∨ joinB 0 ((hbK k).take (hdN (k + 1))) = rowH k) := by decide
theorem hdN_le : ∀ k, k < 6 → ∀ j, j ≤ k → hdN (j + 1) ≤ rowX k := by decide

theorem head_back {n : Nat} (h1 : 1 ≤ n) (h2 : n ≤ 131072) {L : List (Int × Nat)} (hL : ∀ p ∈ L, p.2 < 2) (hm : L.length ≤ 16777216) (base : Nat) (pre post : List (Int × Nat)) (v k : Nat) (hk : k < 6) (e : L = pre ++ decs base 512 v (hbK k) ++ post) :
    headK (codedB n L) base 512 (decL n L pre.length, v) = k := by
  have key : ∀ j, j ≤ rowX k → (takeD (codedB n L) base 512 j (decL n L pre.length, v) 0).1 = joinB 0 ((hbK k).take j) := by
    intro j hj
    have hl : ((hbK k).take j).length = j := by
      rw [List.length_take, hbK, hiBits_len]; omega
    have := take_pref h1 h2 hL hm base 512 ((hbK k).take j) ((hbK k).drop j) pre post v (by rw [List.take_append_drop]; exact e)
    rw [hl] at this
    rw [this]
  refine headK_at hk (fun j hj => ?_) ?_
  · rw [key _ (hdN_le k hk j (by omega))]
    exact hbK_no k hk j hj
  · rcases hbK_yes k hk with h | h
    · exact .inl h
    · exact .inr (by rw [key _ (hdN_le k hk k (Nat.le_refl _))]; exact h)

theorem numBits_cat {v : Int} {nn : Bool} (h : mayP v nn = true) : numBits v nn = hiBits (signOf v nn) 1 ++ hbK (rowIx (amountOf v nn)) ++ hiBits (amountOf v nn - rowL (rowIx (amountOf v nn))) (rowW (rowIx (amountOf v nn))) := by
  obtain ⟨_, a2⟩ := row_above (amountOf_le h)
  obtain ⟨_, _, _, _, _, b6⟩ := row_small (amountOf v nn)
  unfold numBits numWord numLen hbK
  rw [hiBits_cat _ _ _ a2, hiBits_cat _ _ _ b6]

/-- A number that was put is got. -/
theorem number_back {n : Nat} (h1 : 1 ≤ n) (h2 : n ≤ 131072) {L : List (Int × Nat)} (hL : ∀ p ∈ L, p.2 < 2) (hm : L.length ≤ 16777216) (base : Nat) (pre post : List (Int × Nat)) {v : Int} {nn : Bool} (hmay : mayP v nn = true) (e : L = pre ++ decs base 512 1 (numBits v nn) ++ post) :
    (numD (codedB n L) base (decL n L pre.length, 1)).1 = signOf v nn ∧ (numD (codedB n L) base (decL n L pre.length, 1)).2.1 = amountOf v nn ∧ (numD (codedB n L) base (decL n L pre.length, 1)).2.2.1 = decL n L (pre.length + (decs base 512 1 (numBits v nn)).length) := by
  obtain ⟨a1, a2⟩ := row_above (amountOf_le hmay)
  have hk := rowIx_lt (amountOf v nn)
  have hs := signOf_lt v nn
  rw [numBits_cat hmay] at e
  rw [numBits_cat hmay]
  generalize amountOf v nn = m at *
  generalize rowIx m = k at *
  generalize signOf v nn = s at *
  have e1 : L = pre ++ decs base 512 1 (hiBits s 1 ++ (hbK k ++ hiBits (m - rowL k) (rowW k))) ++ post := by rw [e]; simp
  have t1 := take_pref h1 h2 hL hm base 512 (hiBits s 1) _ pre post 1 e1
  rw [hiBits_len, joinB_hi] at t1
  have hs2 : 0 * 2 ^ 1 + s % 2 ^ 1 = s := by omega
  rw [hs2] at t1
  have hp1 : (pre ++ decs base 512 1 (hiBits s 1)).length = pre.length + 1 := by rw [List.length_append, decs_len, hiBits_len]
  have e2 : L = (pre ++ decs base 512 1 (hiBits s 1)) ++ decs base 512 (vEnd 512 1 (hiBits s 1)) (hbK k ++ hiBits (m - rowL k) (rowW k)) ++ post := by
    rw [e1, decs_cat]; simp
  have t2 := take_pref h1 h2 hL hm base 512 (hbK k) (hiBits (m - rowL k) (rowW k)) _ post _ e2
  rw [hp1] at t2
  have e2' : L = (pre ++ decs base 512 1 (hiBits s 1)) ++ decs base 512 (vEnd 512 1 (hiBits s 1)) (hbK k) ++ (decs base 512 (vEnd 512 (vEnd 512 1 (hiBits s 1)) (hbK k)) (hiBits (m - rowL k) (rowW k)) ++ post) := by
    rw [e2, decs_cat]; simp
  have t3 := head_back h1 h2 hL hm base _ _ _ k hk e2'
  rw [hp1] at t3
  have hlen2 : (hbK k).length = rowX k := hiBits_len _ _
  have hp2 : (pre ++ decs base 512 1 (hiBits s 1) ++ decs base 512 (vEnd 512 1 (hiBits s 1)) (hbK k)).length = pre.length + 1 + rowX k := by rw [List.length_append, hp1, decs_len, hlen2]
  have e3 : L = (pre ++ decs base 512 1 (hiBits s 1) ++ decs base 512 (vEnd 512 1 (hiBits s 1)) (hbK k)) ++ decs base 512 (vEnd 512 (vEnd 512 1 (hiBits s 1)) (hbK k)) (hiBits (m - rowL k) (rowW k)) ++ post := by
    rw [e2']; simp
  have t4 := take_back h1 h2 hL hm base 512 (hiBits (m - rowL k) (rowW k)) _ post _ 0 e3
  rw [hp2, hiBits_len, joinB_hi, Nat.mod_eq_of_lt a2] at t4
  rw [hlen2] at t2
  unfold numD
  dsimp only
  rw [t1]
  dsimp only
  rw [t3, t2]
  dsimp only
  rw [t4]
  refine ⟨rfl, by show rowL k + (0 * 2 ^ rowW k + (m - rowL k)) = m; omega, ?_⟩
  show decL n L _ = decL n L _
  congr 1
  rw [decs_len, List.length_append, List.length_append, hiBits_len, hiBits_len, hlen2]
  omega

theorem join_back {v : Int} {nn : Bool} (h : mayP v nn = true) : joinI (signOf v nn) (amountOf v nn) = (if nn then 0 else v) ∧ joinN (signOf v nn) (amountOf v nn) = nn ∧ amountOf v nn ≤ 2147483648 := by
  have hle := amountOf_le h
  refine ⟨?_, ?_, hle⟩
  · unfold joinI
    rw [if_neg (by omega)]
    unfold signOf amountOf
    cases nn
    · by_cases hv : v < 0
      · simp [hv]; omega
      · simp [hv]; omega
    · simp
  · unfold joinN
    rw [if_neg (by omega)]
    unfold signOf amountOf
    cases nn
    · by_cases hv : v < 0
      · simp [hv]; omega
      · simp [hv]
    · simp

theorem numsL_pre (V : Nat → Int) (N : Nat → Bool) (n : Nat) : ∀ m, n ≤ m → ∃ post, numsL V N m = numsL V N n ++ post
  | 0, h => ⟨[], by
    obtain rfl : n = 0 := (by omega)
    simp⟩
  | m + 1, h => by
    rcases Nat.lt_or_ge n (m + 1) with e | e
    · obtain ⟨post, hp⟩ := numsL_pre V N n m (by omega)
      exact ⟨post ++ decs 0 512 1 (numBits (V m) (N m)), by simp [numsL, hp]⟩
    · obtain rfl : n = m + 1 := by omega
      exact ⟨[], by simp⟩

/-- A row of numbers is read again. -/
theorem nums_back (V : Nat → Int) (N : Nat → Bool) (n : Nat) (hn : n ≤ 200) (hmay : ∀ j, j < n → mayP (V j) (N j) = true) :
    ∀ i, i ≤ n → dN (codedB 512 (numsL V N n)) i = decL 512 (numsL V N n) (numsL V N i).length ∧ (i < n → sgN (codedB 512 (numsL V N n)) i = signOf (V i) (N i) ∧ amN (codedB 512 (numsL V N n)) i = amountOf (V i) (N i)) := by
  have hlen := numsL_len V N n
  have step : ∀ i, i < n → dN (codedB 512 (numsL V N n)) i = decL 512 (numsL V N n) (numsL V N i).length → sgN (codedB 512 (numsL V N n)) i = signOf (V i) (N i) ∧ amN (codedB 512 (numsL V N n)) i = amountOf (V i) (N i) ∧ dN (codedB 512 (numsL V N n)) (i + 1) = decL 512 (numsL V N n) (numsL V N (i + 1)).length := by
    intro i hi hd
    obtain ⟨post, hp⟩ := numsL_pre V N (i + 1) n (by omega)
    have hb := number_back (n := 512) (by omega) (by omega) (numsL_bit V N n) (by omega) 0 (numsL V N i) post (hmay i hi) (by rw [hp]; rfl)
    unfold sgN amN
    rw [hd]
    refine ⟨hb.1, hb.2.1, ?_⟩
    show (numD _ 0 (dN _ i, 1)).2.2.1 = _
    rw [hd, hb.2.2]
    congr 1
    simp [numsL]
  have all : ∀ i, i ≤ n → dN (codedB 512 (numsL V N n)) i = decL 512 (numsL V N n) (numsL V N i).length := by
    intro i
    induction i with
    | zero => intro _; rfl
    | succ i ih => intro hi; exact (step i (by omega) (ih (by omega))).2.2
  intro i hi
  exact ⟨all i hi, fun h => ⟨(step i h (all i hi)).1, (step i h (all i hi)).2.1⟩⟩

end Go.Proofs.YtllhekkclhcdbaaDoor

/- 'EqWholes' of equal numbers; 'wakes'. -/
namespace Go.Proofs.YtllhekkclhcdbaaDoor
open Go.RowKit

set_option maxRecDepth 100000 in
set_option maxHeartbeats 2000000 in
set_option linter.unusedSimpArgs false in
theorem eqw_same (w : World) (ao bo : Option Addr) (n c1 c2 : Nat) (V : Nat → Int) (N : Nat → Bool) (ha : NumsAt w ao n V N) (hb : NumsAt w bo n V N) (hn : n ≤ 200) :
    Calls Tryd.prog 13 #[.slice ao n c1, .slice bo n c2] w fun e w' => e = .returned (.bool true) ∧ ∃ q, w' = w.drewN q := by
  have HA : Hid (NumsAt w ao n V N) := ha
  have HB : Hid (NumsAt w bo n V N) := hb
  have HN : Hid (n ≤ 200) := hn
  have hne : ((n : Int) != (n : Int)) = false := by simp
  clear ha hb hn
  go_enter Tryd.func13, Tryd.ntmps13
  go_wp2_with fail
  go_loopw [5] (fun p wr => ∃ i q : Nat, i ≤ n ∧ p = .int .i64 (i : Int) ∧ wr = w.drewN q)
    (fun p _ => ((n : Int) - intOf p).toNat)
  case atStart => exact ⟨0, 0, Nat.zero_le _, rfl, rfl⟩
  case round =>
    obtain ⟨i, q, hi, rfl, rfl⟩ := hrel
    by_cases hin : i < n
    · have hdec : decide (i < n) = true := decide_eq_true hin
      obtain ⟨b, off, eao, hc⟩ := HA.out.at_ (by omega)
      obtain ⟨b2, off2, ebo, hc2⟩ := HB.out.at_ (by omega)
      obtain ⟨x0, x1⟩ := hc i hin
      obtain ⟨y0, y1⟩ := hc2 i hin
      obtain ⟨v, ev⟩ : ∃ v, V i = v := ⟨_, rfl⟩
      obtain ⟨nn, en⟩ : ∃ nn, N i = nn := ⟨_, rfl⟩
      rw [ev] at x0 y0
      rw [en] at x1 y1
      have z0 : (w.drewN q).cell? ⟨b, off + i * 2, none⟩ = some (.int .i64 v) := x0
      have z1 : (w.drewN q).cell? ⟨b, off + i * 2 + 1, none⟩ = some (.bool nn) := x1
      have t0 : (w.drewN q).cell? ⟨b2, off2 + i * 2, none⟩ = some (.int .i64 v) := y0
      have t1 : (w.drewN q).cell? ⟨b2, off2 + i * 2 + 1, none⟩ = some (.bool nn) := y1
      have k2 : IntKind.i64.wrap ((i : Int) + 1) = (i : Int) + 1 := by have := HN.out; rw [IntKind.wrap_i64]; omega
      subst eao; subst ebo
      clear hc hc2 ev en x0 x1 y0 y1
      go_wp2_with fail
      refine wp_region_noPanic (wp_region_held_drew (S := fun W => W.cell? ⟨b, off + i * 2, none⟩ = some (.int .i64 v) ∧ W.cell? ⟨b, off + i * 2 + 1, none⟩ = some (.bool nn) ∧ W.cell? ⟨b2, off2 + i * 2, none⟩ = some (.int .i64 v) ∧ W.cell? ⟨b2, off2 + i * 2 + 1, none⟩ = some (.bool nn)) (by kernel_rfl) ⟨z0, z1, t0, t1⟩ (fun hHeld => ?_))
      refine wpAnyH_take (i := 0) (oi := _) (v := ?vv0) rfl (by kernel_rfl) (by kernel_rfl) (by kernel_rfl) (fun _ _ _ h => h) (Or.inl ⟨by kernel_rfl, ?hy0⟩) (by assumption) ?_
      case hy0 => (intro w hSw; (try dsimp only at hSw); obtain ⟨s1, s2, s3, s4⟩ := hSw; go_simp; all_goals (with_reducible rfl))
      (try simp only [Act.put, List.setIfInBounds_toArray, List.set_cons_zero, List.set_cons_succ])
      refine wpAnyH_take (i := 1) (oi := _) (v := ?vv1) rfl (by kernel_rfl) (by kernel_rfl) (by kernel_rfl) (fun _ _ _ h => h) (Or.inl ⟨by kernel_rfl, ?hy1⟩) (by assumption) ?_
      case hy1 => (intro w hSw; (try dsimp only at hSw); obtain ⟨s1, s2, s3, s4⟩ := hSw; go_simp; all_goals (with_reducible rfl))
      (try simp only [Act.put, List.setIfInBounds_toArray, List.set_cons_zero, List.set_cons_succ])
      refine wpAnyH_take (i := 2) (oi := _) (v := ?vv2) rfl (by kernel_rfl) (by kernel_rfl) (by kernel_rfl) (fun _ _ _ h => h) (Or.inl ⟨by kernel_rfl, ?hy2⟩) (by assumption) ?_
      case hy2 => (intro w hSw; (try dsimp only at hSw); obtain ⟨s1, s2, s3, s4⟩ := hSw; go_simp; all_goals (with_reducible rfl))
      (try simp only [Act.put, List.setIfInBounds_toArray, List.set_cons_zero, List.set_cons_succ])
      refine wpAnyH_take (i := 3) (oi := _) (v := ?vv3) rfl (by kernel_rfl) (by kernel_rfl) (by kernel_rfl) (fun _ _ _ h => h) (Or.inl ⟨by kernel_rfl, ?hy3⟩) (by assumption) ?_
      case hy3 => (intro w hSw; (try dsimp only at hSw); obtain ⟨s1, s2, s3, s4⟩ := hSw; go_simp; all_goals (with_reducible rfl))
      (try simp only [Act.put, List.setIfInBounds_toArray, List.set_cons_zero, List.set_cons_succ])
      refine wpAnyH_take (i := 4) (oi := _) (v := ?vv4) rfl (by kernel_rfl) (by kernel_rfl) (by kernel_rfl) (fun _ _ _ h => h) (Or.inl ⟨by kernel_rfl, ?hy4⟩) (by assumption) ?_
      case hy4 => (intro w hSw; (try dsimp only at hSw); obtain ⟨s1, s2, s3, s4⟩ := hSw; go_simp; all_goals (with_reducible rfl))
      (try simp only [Act.put, List.setIfInBounds_toArray, List.set_cons_zero, List.set_cons_succ])
      refine wpAnyH_take (i := 5) (oi := _) (v := ?vv5) rfl (by kernel_rfl) (by kernel_rfl) (by kernel_rfl) (fun _ _ _ h => h) (Or.inl ⟨by kernel_rfl, ?hy5⟩) (by assumption) ?_
      case hy5 => (intro w hSw; (try dsimp only at hSw); obtain ⟨s1, s2, s3, s4⟩ := hSw; go_simp; all_goals (with_reducible rfl))
      (try simp only [Act.put, List.setIfInBounds_toArray, List.set_cons_zero, List.set_cons_succ])
      refine wpAnyH_take (i := 6) (oi := _) (v := ?vv6) rfl (by kernel_rfl) (by kernel_rfl) (by kernel_rfl) (fun _ _ _ h => h) (Or.inl ⟨by kernel_rfl, ?hy6⟩) (by assumption) ?_
      case hy6 => (intro w hSw; (try dsimp only at hSw); obtain ⟨s1, s2, s3, s4⟩ := hSw; go_simp; all_goals (with_reducible rfl))
      (try simp only [Act.put, List.setIfInBounds_toArray, List.set_cons_zero, List.set_cons_succ])
      refine wpAnyH_take (i := 7) (oi := _) (v := ?vv7) rfl (by kernel_rfl) (by kernel_rfl) (by kernel_rfl) (fun _ _ _ h => h) (Or.inl ⟨by kernel_rfl, ?hy7⟩) (by assumption) ?_
      case hy7 => (intro w hSw; (try dsimp only at hSw); obtain ⟨s1, s2, s3, s4⟩ := hSw; go_simp; all_goals (with_reducible rfl))
      (try simp only [Act.put, List.setIfInBounds_toArray, List.set_cons_zero, List.set_cons_succ])
      refine wpAnyH_take (i := 8) (oi := _) (v := ?vv8) rfl (by kernel_rfl) (by kernel_rfl) (by kernel_rfl) (fun _ _ _ h => h) (Or.inl ⟨by kernel_rfl, ?hy8⟩) (by assumption) ?_
      case hy8 => (intro w hSw; (try dsimp only at hSw); obtain ⟨s1, s2, s3, s4⟩ := hSw; go_simp; all_goals (with_reducible rfl))
      (try simp only [Act.put, List.setIfInBounds_toArray, List.set_cons_zero, List.set_cons_succ])
      refine wpAnyH_done (by kernel_rfl) ?_ _
      refine NoPanic.normal ?_
      simp only [List.getElem_toArray, List.getElem_cons_succ, List.getElem_cons_zero, List.setIfInBounds_toArray, List.set_cons_zero, List.set_cons_succ]
      go_wp2_with fail
      go_roundw
      case rel => exact ⟨i + 1, q + 1, by omega, by push_cast; rfl, rfl⟩
      case measure => simp [intOf]; omega
    · obtain rfl : i = n := by omega
      have hdec : decide (i < i) = false := decide_eq_false (by omega)
      go_wp2_with fail
      go_ret
      exact ⟨rfl, q, rfl⟩
theorem NumsAt.congr {w : World} {ao : Option Addr} {n : Nat} {V V' : Nat → Int} {N N' : Nat → Bool} (h : NumsAt w ao n V N) (e : ∀ j, j < n → V j = V' j ∧ N j = N' j) : NumsAt w ao n V' N' := by
  refine ⟨h.lim, fun hn => ?_⟩
  obtain ⟨b, off, e1, hc⟩ := h.at_ hn
  exact ⟨b, off, e1, fun j hj => by rw [← (e j hj).1, ← (e j hj).2]; exact hc j hj⟩
theorem codedB_lt {n : Nat} (h1 : 1 ≤ n) (h2 : n ≤ 131072) {L : List (Int × Nat)} (hm : L.length ≤ 16777216) : ∀ y ∈ codedB n L, y < 256 := by
  obtain ⟨ok, _, _⟩ := runL_ok (newP_ok (n := n) (by omega) h2) L (by show 0 + _ ≤ _; omega)
  have hc := (flush_cw ok.ok.cw).2
  intro y hy
  unfold codedB flushP at hy
  split at hy
  · exact hc.blt y (List.mem_of_mem_drop hy)
  · have := List.mem_of_mem_drop hy
    rcases List.mem_append.1 this with h | h
    · exact hc.blt y h
    · simp at h; rw [h]; exact hc.llt

def wkV (j : Nat) : Int := [0, -1, 0, 5000, 84].getD j 0
def wkN (j : Nat) : Bool := [false, false, true, false, false].getD j false
theorem wk_may : ∀ j, j < 5 → mayP (wkV j) (wkN j) = true := by decide
theorem wk_pos : 0 < (codedB 512 (numsL wkV wkN 5)).length := by decide +kernel

set_option maxRecDepth 100000 in
set_option maxHeartbeats 2000000 in
theorem wakes5_any (w : World) (hr : RowsAt w) : Calls Tryd.prog 9 #[] w fun e w' => e = .returned (.bool true) ∧ Fr (fun _ => False) w w' := by
  have HR : Hid (RowsAt w) := hr
  clear hr
  have hb := heap_alloc_new w (.cells #[.int .i64 0, .bool false, .int .i64 (-1), .bool false, .int .i64 0, .bool true, .int .i64 5000, .bool false, .int .i64 84, .bool false] 46)
  have hna : NumsAt (w.alloc (.cells #[.int .i64 0, .bool false, .int .i64 (-1), .bool false, .int .i64 0, .bool true, .int .i64 5000, .bool false, .int .i64 84, .bool false] 46)) (some ⟨w.heap.size, 0, none⟩) 5 wkV wkN := by
    refine ⟨by omega, fun _ => ⟨w.heap.size, 0, rfl, fun j hj => ?_⟩⟩
    rcases (by omega : j = 0 ∨ j = 1 ∨ j = 2 ∨ j = 3 ∨ j = 4) with rfl | rfl | rfl | rfl | rfl <;> (constructor <;> (simp only [World.cell?, hb]; rfl))
  have HNA : Hid (NumsAt (w.alloc (.cells #[.int .i64 0, .bool false, .int .i64 (-1), .bool false, .int .i64 0, .bool true, .int .i64 5000, .bool false, .int .i64 84, .bool false] 46)) (some ⟨w.heap.size, 0, none⟩) 5 wkV wkN) := hna
  have F0 : Hid (Fr (fun _ => False) w (w.alloc (.cells #[.int .i64 0, .bool false, .int .i64 (-1), .bool false, .int .i64 0, .bool true, .int .i64 5000, .bool false, .int .i64 84, .bool false] 46))) := (Fr.refl _ _).alloc _
  clear hb hna
  go_enter Tryd.func9, Tryd.ntmps9
  go_wp2_with fail
  refine (encode_any _ _ 5 5 wkV wkN HNA.out (by omega) (HR.out.kept F0.out (fun h => h))).mono ?_
  rintro e w1 ⟨f1, (⟨hall, g, k, c, rfl, hse, hg⟩ | ⟨⟨j, hj, hm⟩, _⟩)⟩
  rotate_left
  · exact absurd (wk_may j hj) (by rw [hm]; decide)
  have F1 : Hid (Fr (fun _ => False) w w1) := Fr.trans F0.out f1 (fun _ _ h => h)
  have HN1 : Hid (NumsAt w1 (some ⟨w.heap.size, 0, none⟩) 5 wkV wkN) := HNA.out.kept f1
  have HSe : Hid (SeenAt w1 (.slice (some ⟨g, 1, none⟩) k c) (codedB 512 (numsL wkV wkN 5))) := hse
  have hk : 0 < k := by
    obtain ⟨_, _, e, _, _⟩ := hse
    injection e with _ e2 _
    rw [e2]; exact wk_pos
  have hkd : decide ((0 : Int) < (k : Int)) = true := decide_eq_true (by omega)
  have hkd2 : decide (0 < k) = true := decide_eq_true hk
  clear f1 hall hse hg hk
  go_wp2_with fail
  have hln := numsL_len wkV wkN 5
  refine (wdecode_any _ _ _ 5 (by omega) HSe.out (.inr ⟨_, _, _, rfl⟩) (codedB_lt (by omega) (by omega) (by omega)) (HR.out.kept F1.out (fun h => h))).mono ?_
  rintro e w2 ⟨f2, (⟨hall, g2, rfl, hnu, hg2⟩ | ⟨⟨j, hj, hm⟩, _⟩)⟩
  rotate_left
  · have hb := (nums_back wkV wkN 5 (by omega) wk_may j (by omega)).2 hj
    have := (join_back (wk_may j hj)).2.2
    omega
  have F2 : Hid (Fr (fun _ => False) w w2) := Fr.trans F1.out f2 (fun _ _ h => h)
  have HN2 : Hid (NumsAt w2 (some ⟨w.heap.size, 0, none⟩) 5 wkV wkN) := HN1.out.kept f2
  have hv : ∀ j, j < 5 → joinI (sgN (codedB 512 (numsL wkV wkN 5)) j) (amN (codedB 512 (numsL wkV wkN 5)) j) = wkV j ∧ joinN (sgN (codedB 512 (numsL wkV wkN 5)) j) (amN (codedB 512 (numsL wkV wkN 5)) j) = wkN j := by
    intro j hj
    obtain ⟨q1, q2⟩ := (nums_back wkV wkN 5 (by omega) wk_may j (by omega)).2 hj
    obtain ⟨q3, q4, _⟩ := join_back (wk_may j hj)
    rw [q1, q2, q3, q4]
    rcases (by omega : j = 0 ∨ j = 1 ∨ j = 2 ∨ j = 3 ∨ j = 4) with rfl | rfl | rfl | rfl | rfl <;> decide
  have HNu : Hid (NumsAt w2 (some ⟨g2, 0, none⟩) 5 wkV wkN) := hnu.congr hv
  clear f2 hall hnu hg2 hv hln
  go_wp2_with fail
  refine (eqw_same _ _ _ 5 _ _ wkV wkN HN2.out HNu.out (by omega)).mono ?_
  rintro e w3 ⟨rfl, q, rfl⟩
  go_wp2_with fail
  go_ret
  exact ⟨rfl, F2.out.drewN q⟩

end Go.Proofs.YtllhekkclhcdbaaDoor
