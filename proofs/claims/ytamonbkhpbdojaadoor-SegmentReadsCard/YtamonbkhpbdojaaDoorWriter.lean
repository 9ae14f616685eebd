/- A writer's methods, by contracts. -/
import Derived.Test.YtamonbkhpbdojaaDoorVar3
namespace Go.Proofs.YtamonbkhpbdojaaDoor
set_option maxRecDepth 100000
open Go.RowKit

set_option maxRecDepth 100000 in
set_option maxHeartbeats 1000000 in
theorem wvar_fits (bw : Nat) (v : Value) (most : Nat) (bs : List Bool) (n : Nat) (w : World) (h : WAt w bw v most bs) (hn : n < 18446744073709551616) (hf : bs.length + (varBits n).length ≤ 8 * most) :
    Calls Tryd.prog 39 #[.pointer (some ⟨bw, 0, none⟩), .int .u64 n] w fun e w' => e = .returned (.int .i64 0) ∧ ∃ v', WAt w' bw v' most (bs ++ varBits n) ∧ WStep bw v v' w w' := by
  have HN : Hid (n < 18446744073709551616) := hn
  have HF : Hid (bs.length + (varBits n).length ≤ 8 * most) := hf
  have HW : Hid (WAt w bw v most bs) := h
  clear hn hf h
  have hmf : ∀ (fn : Fn) (first cap : Array Value) (w : World), (Instr.makeFunc fn first cap).run Tryd.prog w = .ok (.func fn first cap) w := fun _ _ _ _ => rfl
  go_enter Tryd.func39, Tryd.ntmps39
  go_wp2_with fail
  obtain ⟨a1, a2, a3, a5⟩ := allocs2 w (.cells #[.pointer (some ⟨bw, 0, none⟩)] 77) (.cells #[.int .u64 n] 50)
  refine (orBack_fits bw w.heap.size (w.heap.size + 1) v most bs n _ (HW.out.kept a5 (fun hh => hh) (fun _ _ hh => hh)) HN.out HF.out (cell_of_one a2) (cell_of_one a3)).mono ?_
  rintro e w1 ⟨rfl, v', hat, hst⟩
  have HS : Hid (WStep bw v v' w w1) := hst.from a5
  clear hst a1 a2 a3 a5
  go_wp2_with fail
  go_ret
  exact ⟨rfl, v', hat, HS.out⟩

set_option maxRecDepth 100000 in
set_option maxHeartbeats 1000000 in
theorem wvar_full (bw : Nat) (v : Value) (most : Nat) (bs : List Bool) (n : Nat) (w : World) (h : WAt w bw v most bs) (hn : n < 18446744073709551616) (hf : 8 * most < bs.length + (varBits n).length) :
    Calls Tryd.prog 39 #[.pointer (some ⟨bw, 0, none⟩), .int .u64 n] w fun e w' => e = .returned (.int .i64 13) ∧ ∃ v', WAt w' bw v' most bs ∧ WStep bw v v' w w' := by
  have HN : Hid (n < 18446744073709551616) := hn
  have HF : Hid (8 * most < bs.length + (varBits n).length) := hf
  have HW : Hid (WAt w bw v most bs) := h
  clear hn hf h
  have hmf : ∀ (fn : Fn) (first cap : Array Value) (w : World), (Instr.makeFunc fn first cap).run Tryd.prog w = .ok (.func fn first cap) w := fun _ _ _ _ => rfl
  go_enter Tryd.func39, Tryd.ntmps39
  go_wp2_with fail
  obtain ⟨a1, a2, a3, a5⟩ := allocs2 w (.cells #[.pointer (some ⟨bw, 0, none⟩)] 77) (.cells #[.int .u64 n] 50)
  refine (orBack_full bw w.heap.size (w.heap.size + 1) v most bs n _ (HW.out.kept a5 (fun hh => hh) (fun _ _ hh => hh)) HN.out HF.out (cell_of_one a2) (cell_of_one a3)).mono ?_
  rintro e w1 ⟨rfl, v', hat, hst⟩
  have HS : Hid (WStep bw v v' w w1) := hst.from a5
  clear hst a1 a2 a3 a5
  go_wp2_with fail
  go_ret
  exact ⟨rfl, v', hat, HS.out⟩

set_option maxHeartbeats 400000 in
theorem isWidth_yes (n : Int) (w : World) (h0 : 0 ≤ n) (h1 : n ≤ 64) : Calls Tryd.prog 52 #[.int .i64 n] w fun e w' => e = .returned (.bool true) ∧ w' = w := by
  go_enter Tryd.func52, Tryd.ntmps52
  go_wp2
  go_ret
  exact ⟨rfl, rfl⟩
set_option maxHeartbeats 400000 in
theorem isWidth_no (n : Int) (w : World) (h : n < 0 ∨ 64 < n) : Calls Tryd.prog 52 #[.int .i64 n] w fun e w' => e = .returned (.bool false) ∧ w' = w := by
  rcases h with h | h
  · go_enter Tryd.func52, Tryd.ntmps52
    go_wp2
    go_ret
    exact ⟨rfl, rfl⟩
  · have hd : decide (n ≤ 64) = false := by simp; omega
    go_enter Tryd.func52, Tryd.ntmps52
    go_wp2
    go_ret
    exact ⟨rfl, rfl⟩

set_option maxRecDepth 100000 in
set_option maxHeartbeats 1000000 in
theorem put_width (p : Value) (n : Int) (wd : Int) (w : World) (h : wd < 0 ∨ 64 < wd) :
    Calls Tryd.prog 40 #[p, .int .u64 n, .int .i64 wd] w fun e w' => e = .returned (.int .i64 11) ∧ w' = w := by
  have HF : Hid (wd < 0 ∨ 64 < wd) := h
  clear h
  have hnot : ∀ (x : Bool) (w : World), (Op.unary .not (.bool x)).run Tryd.prog w = .ok (.bool (!x)) w := fun _ _ => rfl
  go_enter Tryd.func40, Tryd.ntmps40
  go_wp2_with fail
  refine (isWidth_no wd _ HF.out).mono ?_
  rintro e w1 ⟨rfl, rfl⟩
  go_wp2_with fail
  go_ret
  exact ⟨rfl, rfl⟩

theorem value_test (n wd : Nat) (h : 2 ^ wd ≤ n) : ((n : Int) / 2 ^ wd != 0) = true := by
  rw [bne_iff_ne]
  have : 0 < n / 2 ^ wd := Nat.div_pos h (Nat.pow_pos (by omega))
  have e : ((n : Int) / 2 ^ wd) = ((n / 2 ^ wd : Nat) : Int) := by simp
  rw [e]; omega
theorem value_test0 (n wd : Nat) (h : n < 2 ^ wd) : ((n : Int) / 2 ^ wd != 0) = false := by
  have e : ((n : Int) / 2 ^ wd) = ((n / 2 ^ wd : Nat) : Int) := by simp
  rw [e, Nat.div_eq_of_lt h]; rfl

set_option maxRecDepth 100000 in
set_option maxHeartbeats 1000000 in
theorem put_value (p : Value) (n wd : Nat) (w : World) (hw : wd ≤ 64) (h : 2 ^ wd ≤ n) :
    Calls Tryd.prog 40 #[p, .int .u64 n, .int .i64 wd] w fun e w' => e = .returned (.int .i64 12) ∧ w' = w := by
  have ht := value_test n wd h
  clear h
  have hnot : ∀ (x : Bool) (w : World), (Op.unary .not (.bool x)).run Tryd.prog w = .ok (.bool (!x)) w := fun _ _ => rfl
  go_enter Tryd.func40, Tryd.ntmps40
  go_wp2_with fail
  refine (isWidth_yes wd _ (by omega) (by omega)).mono ?_
  rintro e w1 ⟨rfl, rfl⟩
  go_wp2_with fail
  go_ret
  exact ⟨rfl, rfl⟩

set_option maxRecDepth 100000 in
set_option maxHeartbeats 1000000 in
theorem put_full (bw : Nat) (v : Value) (most : Nat) (bs : List Bool) (n wd : Nat) (w : World) (h : WAt w bw v most bs) (hw : wd ≤ 64) (hv : n < 2 ^ wd) (hf : 8 * most < bs.length + wd) :
    Calls Tryd.prog 40 #[.pointer (some ⟨bw, 0, none⟩), .int .u64 n, .int .i64 wd] w fun e w' => e = .returned (.int .i64 13) ∧ ∃ q, w' = w.drewN q := by
  have ht := value_test0 n wd hv
  have HF : Hid (8 * most < bs.length + wd) := hf
  have HW : Hid (WAt w bw v most bs) := h
  clear hf h hv
  have hnot : ∀ (x : Bool) (w : World), (Op.unary .not (.bool x)).run Tryd.prog w = .ok (.bool (!x)) w := fun _ _ => rfl
  go_enter Tryd.func40, Tryd.ntmps40
  go_wp2_with fail
  refine (isWidth_yes wd _ (by omega) (by omega)).mono ?_
  rintro e w1 ⟨rfl, hw1⟩
  subst hw1
  go_wp2_with fail
  refine (lay64_full bw v most bs n wd _ HW.out hw HF.out).mono ?_
  rintro e w1 ⟨rfl, q, rfl⟩
  go_wp2_with fail
  go_ret
  exact ⟨rfl, q, rfl⟩

set_option maxRecDepth 100000 in
set_option maxHeartbeats 1000000 in
theorem put_fits (bw : Nat) (v : Value) (most : Nat) (bs : List Bool) (n wd : Nat) (w : World) (h : WAt w bw v most bs) (hw : wd ≤ 64) (hv : n < 2 ^ wd) (hf : bs.length + wd ≤ 8 * most) :
    Calls Tryd.prog 40 #[.pointer (some ⟨bw, 0, none⟩), .int .u64 n, .int .i64 wd] w fun e w' => e = .returned (.int .i64 0) ∧ ∃ v', WAt w' bw v' most (bs ++ bitsOf n wd) ∧ WStep bw v v' w w' := by
  have ht := value_test0 n wd hv
  have HF : Hid (bs.length + wd ≤ 8 * most) := hf
  have HW : Hid (WAt w bw v most bs) := h
  clear hf h hv
  have hnot : ∀ (x : Bool) (w : World), (Op.unary .not (.bool x)).run Tryd.prog w = .ok (.bool (!x)) w := fun _ _ => rfl
  go_enter Tryd.func40, Tryd.ntmps40
  go_wp2_with fail
  refine (isWidth_yes wd _ (by omega) (by omega)).mono ?_
  rintro e w1 ⟨rfl, hw1⟩
  subst hw1
  go_wp2_with fail
  refine (lay64_fits bw v most bs n wd _ HW.out hw HF.out).mono ?_
  rintro e w1 ⟨rfl, v', hat, hst⟩
  go_wp2_with fail
  go_ret
  exact ⟨rfl, v', hat, hst⟩

set_option maxHeartbeats 400000 in
theorem newW_any (m : Nat) (w : World) (h1 : m ≤ 67108864) :
    Calls Tryd.prog 38 #[.int .i64 m] w fun e w' => e = .returned (.tuple #[.pointer (some ⟨w.heap.size, 0, none⟩), .int .i64 0]) ∧ WAt w' w.heap.size (.slice none 0 0) m [] ∧ w' = w.alloc (.cells #[.int .i64 (8 * (m : Int)), .int .i64 0, .slice none 0 0] 93) := by
  go_enter Tryd.func38, Tryd.ntmps38
  go_wp2
  go_ret2
  refine ⟨rfl, ⟨?_, World.ownsRow_nil _ _ _ _, by simp, h1⟩, rfl⟩
  exact heap_alloc_new _ _

set_option maxHeartbeats 400000 in
theorem newW_no (m : Int) (w : World) (h : m < 0 ∨ 67108864 < m) :
    Calls Tryd.prog 38 #[.int .i64 m] w fun e w' => e = .returned (.tuple #[.pointer none, .int .i64 10]) ∧ w' = w := by
  rcases h with h | h
  · go_enter Tryd.func38, Tryd.ntmps38
    go_wp2
    go_ret2
    exact ⟨rfl, rfl⟩
  · go_enter Tryd.func38, Tryd.ntmps38
    go_wp2
    go_ret2
    exact ⟨rfl, rfl⟩

end Go.Proofs.YtamonbkhpbdojaaDoor
