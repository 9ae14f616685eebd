/- What 'Set', 'Fill', 'Blit' refuse. -/
import Derived.Test.YtpblenebmjmijaaFa
namespace Go.Proofs.Ytpblenebmjmijaa
set_option maxRecDepth 100000
open Go.RowKit

set_option maxHeartbeats 1000000 in
theorem docSet_nopage (base d : Nat) (n x y bit : Int) (pv sv : Value) (ps ss : List Value) (w : World) (h : DocAt w base d pv sv ps ss) (hv : n < 0 ∨ (ps.length : Int) ≤ n) :
    Calls Try.prog 9 #[.pointer (some ⟨d, 0, none⟩), .int .i64 n, .int .i64 x, .int .i64 y, .int .i64 bit] w fun e w' => e = .returned (.int .i64 182) ∧ Fr (fun _ => False) w w' := by
  go_enter Try.func9, Try.ntmps9
  go_wp2_with fail
  refine (page_out base d pv sv ps ss n _ h hv).mono ?_
  rintro e w1 ⟨rfl, rfl⟩
  go_wp2_with fail
  go_ret
  exact ⟨rfl, Fr.refl _ _⟩

set_option maxHeartbeats 1000000 in
theorem docSet_bit (base d b g cap W H n : Nat) (x y bit : Int) (P : Nat → Nat → Bool) (pv sv : Value) (ps ss : List Value) (w : World) (h : DocAt w base d pv sv ps ss) (hm : MapAt w b g cap W H P) (hv : ps[n]? = some (.pointer (some ⟨b, 0, none⟩))) (hb : ps.length ≤ 64) (hx : 0 ≤ x ∧ x < W ∧ 0 ≤ y ∧ y < H) (hbit : ¬ (bit = 0 ∨ bit = 1)) :
    Calls Try.prog 9 #[.pointer (some ⟨d, 0, none⟩), .int .i64 n, .int .i64 x, .int .i64 y, .int .i64 bit] w fun e w' => e = .returned (.int .i64 183) ∧ Fr (fun _ => False) w w' := by
  have HD : Hid (DocAt w base d pv sv ps ss) := h
  have HM : Hid (MapAt w b g cap W H P) := hm
  clear h hm
  go_enter Try.func9, Try.ntmps9
  go_wp2_with fail
  refine (page_in base d pv sv ps ss n _ _ HD.out hv hb).mono ?_
  rintro e w1 ⟨rfl, rfl⟩
  go_wp2_with fail
  refine (dinside_any b g cap W H P x y _ HM.out).mono ?_
  rintro e w2 ⟨rfl, q, rfl⟩
  rw [decide_eq_true hx]
  go_wp2_with fail
  refine (dbit_any bit _).mono ?_
  rintro e w3 ⟨rfl, rfl⟩
  rw [decide_eq_false hbit]
  go_wp2_with fail
  go_ret
  exact ⟨rfl, (Fr.refl _ _).drewN q⟩

set_option maxHeartbeats 1000000 in
theorem docFill_nopage (base d : Nat) (n x y ww hh bit : Int) (pv sv : Value) (ps ss : List Value) (w : World) (h : DocAt w base d pv sv ps ss) (hv : n < 0 ∨ (ps.length : Int) ≤ n) :
    Calls Try.prog 10 #[.pointer (some ⟨d, 0, none⟩), .int .i64 n, .int .i64 x, .int .i64 y, .int .i64 ww, .int .i64 hh, .int .i64 bit] w fun e w' => e = .returned (.int .i64 182) ∧ Fr (fun _ => False) w w' := by
  go_enter Try.func10, Try.ntmps10
  go_wp2_with fail
  refine (page_out base d pv sv ps ss n _ h hv).mono ?_
  rintro e w1 ⟨rfl, rfl⟩
  go_wp2_with fail
  go_ret
  exact ⟨rfl, Fr.refl _ _⟩

set_option maxHeartbeats 1000000 in
theorem docFill_neg (base d b n : Nat) (x y ww hh bit : Int) (pv sv : Value) (ps ss : List Value) (w : World) (h : DocAt w base d pv sv ps ss) (hv : ps[n]? = some (.pointer (some ⟨b, 0, none⟩))) (hb : ps.length ≤ 64) (hn : ww < 0 ∨ hh < 0) :
    Calls Try.prog 10 #[.pointer (some ⟨d, 0, none⟩), .int .i64 n, .int .i64 x, .int .i64 y, .int .i64 ww, .int .i64 hh, .int .i64 bit] w fun e w' => e = .returned (.int .i64 183) ∧ Fr (fun _ => False) w w' := by
  by_cases h0 : ww < 0
  · clear hn
    go_enter Try.func10, Try.ntmps10
    go_wp2_with fail
    refine (page_in base d pv sv ps ss n _ _ h hv hb).mono ?_
    rintro e w1 ⟨rfl, rfl⟩
    go_wp2_with fail
    go_ret
    exact ⟨rfl, Fr.refl _ _⟩
  · have h1 : hh < 0 := by omega
    clear hn
    go_enter Try.func10, Try.ntmps10
    go_wp2_with fail
    refine (page_in base d pv sv ps ss n _ _ h hv hb).mono ?_
    rintro e w1 ⟨rfl, rfl⟩
    go_wp2_with fail
    go_ret
    exact ⟨rfl, Fr.refl _ _⟩

set_option maxHeartbeats 1000000 in
theorem docFill_bit (base d b n : Nat) (x y ww hh bit : Int) (pv sv : Value) (ps ss : List Value) (w : World) (h : DocAt w base d pv sv ps ss) (hv : ps[n]? = some (.pointer (some ⟨b, 0, none⟩))) (hb : ps.length ≤ 64) (h0 : 0 ≤ ww) (h1 : 0 ≤ hh) (hbit : ¬ (bit = 0 ∨ bit = 1)) :
    Calls Try.prog 10 #[.pointer (some ⟨d, 0, none⟩), .int .i64 n, .int .i64 x, .int .i64 y, .int .i64 ww, .int .i64 hh, .int .i64 bit] w fun e w' => e = .returned (.int .i64 183) ∧ Fr (fun _ => False) w w' := by
  go_enter Try.func10, Try.ntmps10
  go_wp2_with fail
  refine (page_in base d pv sv ps ss n _ _ h hv hb).mono ?_
  rintro e w1 ⟨rfl, rfl⟩
  go_wp2_with fail
  refine (dbit_any bit _).mono ?_
  rintro e w3 ⟨rfl, rfl⟩
  rw [decide_eq_false hbit]
  go_wp2_with fail
  go_ret
  exact ⟨rfl, Fr.refl _ _⟩

set_option maxHeartbeats 1000000 in
theorem isOp_int (op : Int) (w : World) :
    Calls Try.prog 30 #[.int .i64 op] w fun e w' => e = .returned (.bool (decide (0 ≤ op ∧ op ≤ 4))) ∧ w' = w := by
  go_enter Try.func30, Try.ntmps30
  by_cases h : 0 ≤ op
  · go_wp2
    go_ret
    exact ⟨by simp [h], rfl⟩
  · go_wp2
    go_ret
    exact ⟨by simp; omega, rfl⟩

/-- A page's pointer, or none. -/
theorem page_or (base d : Nat) (n : Int) (pv sv : Value) (ps ss : List Value) (w : World) (h : DocAt w base d pv sv ps ss) (hb : ps.length ≤ 64) (hall : ∀ (j : Nat) (v : Value), ps[j]? = some v → ∃ b : Nat, v = Value.pointer (some ⟨b, 0, none⟩)) :
    Calls Try.prog 21 #[.pointer (some ⟨d, 0, none⟩), .int .i64 n] w fun e w' => (∃ a, e = .returned (.pointer a)) ∧ w' = w := by
  by_cases hn : n < 0 ∨ (ps.length : Int) ≤ n
  · refine (page_out base d pv sv ps ss n w h hn).mono ?_
    rintro e w' ⟨rfl, rfl⟩
    exact ⟨⟨none, rfl⟩, rfl⟩
  · obtain ⟨j, rfl⟩ : ∃ j : Nat, n = j := ⟨n.toNat, by omega⟩
    obtain ⟨b, hb2⟩ := hall j (ps[j]'(by omega)) (List.getElem?_eq_getElem (by omega))
    refine (page_in base d pv sv ps ss j (some ⟨b, 0, none⟩) w h (by rw [List.getElem?_eq_getElem (by omega), hb2]) hb).mono ?_
    rintro e w' ⟨rfl, rfl⟩
    exact ⟨⟨_, rfl⟩, rfl⟩

set_option maxHeartbeats 1000000 in
theorem docBlit_nofrom (base d : Nat) (n0 sx sy ww hh n1 dx dy op : Int) (pv sv : Value) (ps ss : List Value) (w : World) (h : DocAt w base d pv sv ps ss) (hb : ps.length ≤ 64) (hall : ∀ (j : Nat) (v : Value), ps[j]? = some v → ∃ b : Nat, v = Value.pointer (some ⟨b, 0, none⟩)) (hv : n0 < 0 ∨ (ps.length : Int) ≤ n0) :
    Calls Try.prog 11 #[.pointer (some ⟨d, 0, none⟩), .int .i64 n0, .int .i64 sx, .int .i64 sy, .int .i64 ww, .int .i64 hh, .int .i64 n1, .int .i64 dx, .int .i64 dy, .int .i64 op] w fun e w' => e = .returned (.int .i64 182) ∧ Fr (fun _ => False) w w' := by
  have HA : Hid (∀ (j : Nat) (v : Value), ps[j]? = some v → ∃ b : Nat, v = Value.pointer (some ⟨b, 0, none⟩)) := hall
  clear hall
  go_enter Try.func11, Try.ntmps11
  go_wp2_with fail
  refine (page_out base d pv sv ps ss n0 _ h hv).mono ?_
  rintro e w1 ⟨rfl, rfl⟩
  go_wp2_with fail
  refine (page_or base d n1 pv sv ps ss _ h hb HA.out).mono ?_
  rintro e w1 ⟨⟨a, rfl⟩, rfl⟩
  go_wp2_with fail
  go_ret
  exact ⟨rfl, Fr.refl _ _⟩

set_option maxHeartbeats 1000000 in
theorem docBlit_noto (base d b n0 : Nat) (sx sy ww hh n1 dx dy op : Int) (pv sv : Value) (ps ss : List Value) (w : World) (h : DocAt w base d pv sv ps ss) (hb : ps.length ≤ 64) (hv : ps[n0]? = some (.pointer (some ⟨b, 0, none⟩))) (hv1 : n1 < 0 ∨ (ps.length : Int) ≤ n1) :
    Calls Try.prog 11 #[.pointer (some ⟨d, 0, none⟩), .int .i64 n0, .int .i64 sx, .int .i64 sy, .int .i64 ww, .int .i64 hh, .int .i64 n1, .int .i64 dx, .int .i64 dy, .int .i64 op] w fun e w' => e = .returned (.int .i64 182) ∧ Fr (fun _ => False) w w' := by
  go_enter Try.func11, Try.ntmps11
  go_wp2_with fail
  refine (page_in base d pv sv ps ss n0 _ _ h hv hb).mono ?_
  rintro e w1 ⟨rfl, rfl⟩
  go_wp2_with fail
  refine (page_out base d pv sv ps ss n1 _ h hv1).mono ?_
  rintro e w1 ⟨rfl, rfl⟩
  go_wp2_with fail
  go_ret
  exact ⟨rfl, Fr.refl _ _⟩

set_option maxHeartbeats 1000000 in
theorem docBlit_neg (base d b b1 n0 n1 : Nat) (sx sy ww hh dx dy op : Int) (pv sv : Value) (ps ss : List Value) (w : World) (h : DocAt w base d pv sv ps ss) (hb : ps.length ≤ 64) (hv : ps[n0]? = some (.pointer (some ⟨b, 0, none⟩))) (hv1 : ps[n1]? = some (.pointer (some ⟨b1, 0, none⟩))) (hn : ww < 0 ∨ hh < 0) :
    Calls Try.prog 11 #[.pointer (some ⟨d, 0, none⟩), .int .i64 n0, .int .i64 sx, .int .i64 sy, .int .i64 ww, .int .i64 hh, .int .i64 n1, .int .i64 dx, .int .i64 dy, .int .i64 op] w fun e w' => e = .returned (.int .i64 183) ∧ Fr (fun _ => False) w w' := by
  by_cases h0 : ww < 0
  · clear hn
    go_enter Try.func11, Try.ntmps11
    go_wp2_with fail
    refine (page_in base d pv sv ps ss n0 _ _ h hv hb).mono ?_
    rintro e w1 ⟨rfl, rfl⟩
    go_wp2_with fail
    refine (page_in base d pv sv ps ss n1 _ _ h hv1 hb).mono ?_
    rintro e w1 ⟨rfl, rfl⟩
    go_wp2_with fail
    go_ret
    exact ⟨rfl, Fr.refl _ _⟩
  · have h1 : hh < 0 := by omega
    clear hn
    go_enter Try.func11, Try.ntmps11
    go_wp2_with fail
    refine (page_in base d pv sv ps ss n0 _ _ h hv hb).mono ?_
    rintro e w1 ⟨rfl, rfl⟩
    go_wp2_with fail
    refine (page_in base d pv sv ps ss n1 _ _ h hv1 hb).mono ?_
    rintro e w1 ⟨rfl, rfl⟩
    go_wp2_with fail
    go_ret
    exact ⟨rfl, Fr.refl _ _⟩

set_option maxHeartbeats 1000000 in
theorem docBlit_op (base d b b1 n0 n1 : Nat) (sx sy ww hh dx dy op : Int) (pv sv : Value) (ps ss : List Value) (w : World) (h : DocAt w base d pv sv ps ss) (hb : ps.length ≤ 64) (hv : ps[n0]? = some (.pointer (some ⟨b, 0, none⟩))) (hv1 : ps[n1]? = some (.pointer (some ⟨b1, 0, none⟩))) (h0 : 0 ≤ ww) (h1 : 0 ≤ hh) (hop : ¬ (0 ≤ op ∧ op ≤ 4)) :
    Calls Try.prog 11 #[.pointer (some ⟨d, 0, none⟩), .int .i64 n0, .int .i64 sx, .int .i64 sy, .int .i64 ww, .int .i64 hh, .int .i64 n1, .int .i64 dx, .int .i64 dy, .int .i64 op] w fun e w' => e = .returned (.int .i64 183) ∧ Fr (fun _ => False) w w' := by
  go_enter Try.func11, Try.ntmps11
  go_wp2_with fail
  refine (page_in base d pv sv ps ss n0 _ _ h hv hb).mono ?_
  rintro e w1 ⟨rfl, rfl⟩
  go_wp2_with fail
  refine (page_in base d pv sv ps ss n1 _ _ h hv1 hb).mono ?_
  rintro e w1 ⟨rfl, rfl⟩
  go_wp2_with fail
  refine (isOp_int op _).mono ?_
  rintro e w3 ⟨rfl, rfl⟩
  rw [decide_eq_false hop]
  go_wp2_with fail
  go_ret
  exact ⟨rfl, Fr.refl _ _⟩
end Go.Proofs.Ytpblenebmjmijaa
