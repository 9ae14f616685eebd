/- Package whole: its small functions. -/
import Derived.BigQuiet
import Derived.BigRegion
import Derived.Test.YtllhekkclhcdbaaDoorKTab
import Derived.Test.YtllhekkclhcdbaaDoorKWhB
namespace Go.Proofs.YtllhekkclhcdbaaDoor
open Go.RowKit

theorem hasContexts_at (w : World) (base size count : Int) (hb : -9223372036854775808 ≤ base ∧ base ≤ 9223372036854775807) (hs : 0 ≤ size ∧ size ≤ 131072) (hc : 0 ≤ count ∧ count ≤ 131072) (bb : Bool) (hbb : bb = decide (0 ≤ base ∧ base ≤ count - size)) :
    Calls Tryd.prog 41 #[.int .i64 base, .int .i64 size, .int .i64 count] w fun e w' => e = .returned (.bool bb) ∧ w' = w := by
  have hw : IntKind.i64.wrap (count - size) = count - size := by rw [IntKind.wrap_i64]; omega
  by_cases h1 : 0 ≤ base
  · by_cases h2 : base ≤ count - size
    · have hbt : bb = true := by rw [hbb]; exact decide_eq_true ⟨h1, h2⟩
      subst hbt
      have hd1 : decide (0 ≤ base) = true := decide_eq_true h1
      have hd2 : decide (base ≤ count - size) = true := decide_eq_true h2
      clear hbb h1 h2 hb hs hc
      go_enter Tryd.func41, Tryd.ntmps41
      go_wp2_with fail
      go_ret
      exact ⟨rfl, rfl⟩
    · have hbt : bb = false := by rw [hbb]; exact decide_eq_false (by omega)
      subst hbt
      have hd1 : decide (0 ≤ base) = true := decide_eq_true h1
      have hd2 : decide (base ≤ count - size) = false := decide_eq_false h2
      clear hbb h1 h2 hb hs hc
      go_enter Tryd.func41, Tryd.ntmps41
      go_wp2_with fail
      go_ret
      exact ⟨rfl, rfl⟩
  · have hbt : bb = false := by rw [hbb]; exact decide_eq_false (by omega)
    subst hbt
    have hd1 : decide (0 ≤ base) = false := decide_eq_false h1
    clear hbb h1 hb hs hc hw
    go_enter Tryd.func41, Tryd.ntmps41
    go_wp2_with fail
    go_ret
    exact ⟨rfl, rfl⟩

theorem isWidth_at (w : World) (i : Int) (bb : Bool) (hbb : bb = decide (0 ≤ i ∧ i ≤ 12)) :
    Calls Tryd.prog 40 #[.int .i64 i] w fun e w' => e = .returned (.bool bb) ∧ w' = w := by
  by_cases h1 : 0 ≤ i
  · by_cases h2 : i ≤ 12
    · have hbt : bb = true := by rw [hbb]; exact decide_eq_true ⟨h1, h2⟩
      subst hbt
      have hd1 : decide (0 ≤ i) = true := decide_eq_true h1
      have hd2 : decide (i ≤ 12) = true := decide_eq_true h2
      clear hbb h1 h2
      go_enter Tryd.func40, Tryd.ntmps40
      go_wp2_with fail
      go_ret
      exact ⟨rfl, rfl⟩
    · have hbt : bb = false := by rw [hbb]; exact decide_eq_false (by omega)
      subst hbt
      have hd1 : decide (0 ≤ i) = true := decide_eq_true h1
      have hd2 : decide (i ≤ 12) = false := decide_eq_false h2
      clear hbb h1 h2
      go_enter Tryd.func40, Tryd.ntmps40
      go_wp2_with fail
      go_ret
      exact ⟨rfl, rfl⟩
  · have hbt : bb = false := by rw [hbb]; exact decide_eq_false (by omega)
    subst hbt
    have hd1 : decide (0 ≤ i) = false := decide_eq_false h1
    clear hbb h1
    go_enter Tryd.func40, Tryd.ntmps40
    go_wp2_with fail
    go_ret
    exact ⟨rfl, rfl⟩

/-- May a number be coded? -/
def mayP (v : Int) (nn : Bool) : Bool := nn || decide (-2147483648 ≤ v ∧ v ≤ 2147483648)

theorem mayBe_at (w : World) (v : Int) (nn : Bool) (bb : Bool) (hbb : bb = mayP v nn) :
    Calls Tryd.prog 34 #[.agg #[.int .i64 v, .bool nn]] w fun e w' => e = .returned (.bool bb) ∧ Fr (fun _ => False) w w' := by
  cases nn
  · by_cases h1 : -2147483648 ≤ v
    · by_cases h2 : v ≤ 2147483648
      · have hbt : bb = true := by rw [hbb, mayP]; simp; exact ⟨h1, h2⟩
        subst hbt
        have hd1 : decide (-2147483648 ≤ v) = true := decide_eq_true h1
        have hd2 : decide (v ≤ 2147483648) = true := decide_eq_true h2
        clear hbb h1 h2
        go_enter Tryd.func34, Tryd.ntmps34
        go_wp2_with fail
        go_ret
        exact ⟨rfl, (Fr.refl _ _).alloc _⟩
      · have hbt : bb = false := by rw [hbb, mayP]; simp; omega
        subst hbt
        have hd1 : decide (-2147483648 ≤ v) = true := decide_eq_true h1
        have hd2 : decide (v ≤ 2147483648) = false := decide_eq_false h2
        clear hbb h1 h2
        go_enter Tryd.func34, Tryd.ntmps34
        go_wp2_with fail
        go_ret
        exact ⟨rfl, (Fr.refl _ _).alloc _⟩
    · have hbt : bb = false := by rw [hbb, mayP]; simp; omega
      subst hbt
      have hd1 : decide (-2147483648 ≤ v) = false := decide_eq_false h1
      clear hbb h1
      go_enter Tryd.func34, Tryd.ntmps34
      go_wp2_with fail
      go_ret
      exact ⟨rfl, (Fr.refl _ _).alloc _⟩
  · have hbt : bb = true := by rw [hbb, mayP]; simp
    subst hbt
    clear hbb
    go_enter Tryd.func34, Tryd.ntmps34
    go_wp2_with fail
    go_ret
    exact ⟨rfl, (Fr.refl _ _).alloc _⟩

/-- The way through the contexts, in memory. -/
structure WkAt (w : World) (bw : Nat) (base size v : Nat) : Prop where
  blk : w.heap[bw]? = some (.cells #[.int .i64 (base : Int), .int .i64 (size : Int), .int .i64 (v : Int)] 114 (0, 0))
theorem WkAt.lt {w : World} {bw base size v : Nat} (h : WkAt w bw base size v) : bw < w.heap.size := lt_of_block h.blk
theorem WkAt.kept {w w' : World} {bw base size v : Nat} {S : Nat → Prop} (h : WkAt w bw base size v) (f : Fr S w w') (h1 : ¬ S bw) : WkAt w' bw base size v := ⟨(f.block bw h.lt h1).trans h.blk⟩
theorem WkAt.cells {w : World} {bw base size v : Nat} (h : WkAt w bw base size v) : w.cell? ⟨bw, 0, none⟩ = some (.int .i64 (base : Int)) ∧ w.cell? ⟨bw, 1, none⟩ = some (.int .i64 (size : Int)) ∧ w.cell? ⟨bw, 2, none⟩ = some (.int .i64 (v : Int)) ∧ w.frozen? ⟨bw, 2, none⟩ = false := by
  have hb := h.blk
  refine ⟨?_, ?_, ?_, ?_⟩ <;> simp [World.cell?, World.frozen?, hb]
theorem WkAt.set {w : World} {bw base size v : Nat} (h : WkAt w bw base size v) (u : Nat) : WkAt (w.setCell ⟨bw, 2, none⟩ (.int .i64 (u : Int))) bw base size u := by
  have := seven_set (j := 2) (u := .int .i64 (u : Int)) h.blk
  exact ⟨this⟩

theorem startAt_at (w : World) (base size : Nat) (b s : Int) (hb : b = base) (hs : s = size) :
    Calls Tryd.prog 43 #[.int .i64 b, .int .i64 s] w fun e w' => ∃ bw, e = .returned (.pointer (some ⟨bw, 0, none⟩)) ∧ WkAt w' bw base size 1 ∧ Fr (fun _ => False) w w' ∧ w.heap.size ≤ bw := by
  subst hb; subst hs
  go_enter Tryd.func43, Tryd.ntmps43
  go_wp2_with fail
  go_ret
  exact ⟨_, rfl, ⟨heap_alloc_new w _⟩, (Fr.refl _ _).alloc _, Nat.le_refl _⟩

set_option maxRecDepth 100000 in
set_option maxHeartbeats 2000000 in
theorem pass_any (w : World) (bw base size v bit : Nat) (h : WkAt w bw base size v) (hs : 2 ≤ size ∧ size ≤ 4096) (hv : v < 4096) (hbit : bit < 2) :
    Calls Tryd.prog 63 #[.pointer (some ⟨bw, 0, none⟩), .int .i64 (bit : Int)] w fun e w' => (∃ r, e = .returned r) ∧ WkAt w' bw base size (passP size v bit) ∧ Fr (fun k => k = bw) w w' := by
  obtain ⟨e0, e1, e2, ef⟩ := h.cells
  have HW : Hid (WkAt w bw base size v) := h
  have HS := HW.out.set (2 * v + bit)
  obtain ⟨u, hu⟩ : ∃ u, 2 * v + bit = u := ⟨_, rfl⟩
  rw [hu] at HS
  obtain ⟨c0, c1, c2, cf⟩ := HS.cells
  have Hu : Hid (2 * v + bit = u) := hu
  have k1 : IntKind.i64.wrap (2 * (v : Int)) = 2 * (v : Int) := by rw [IntKind.wrap_i64]; omega
  have k2 : IntKind.i64.wrap (2 * (v : Int) + (bit : Int)) = (u : Int) := by rw [IntKind.wrap_i64]; omega
  have HS' : Hid (WkAt (w.setCell ⟨bw, 2, none⟩ (.int .i64 (u : Int))) bw base size u) := HS
  have HF : Hid (Fr (fun k => k = bw) w (w.setCell ⟨bw, 2, none⟩ (.int .i64 (u : Int)))) := Fr.set1 _ _ _ _
  have Hb : Hid (2 ≤ size ∧ size ≤ 4096 ∧ v < 4096 ∧ bit < 2) := ⟨hs.1, hs.2, hv, hbit⟩
  obtain ⟨wq, hwq⟩ : ∃ wq, w.setCell ⟨bw, 2, none⟩ (.int .i64 (u : Int)) = wq := ⟨_, rfl⟩
  rw [hwq] at c0 c1 c2 cf HS' HF
  clear hu h HS
  by_cases hge : size ≤ u
  · have hd : decide (size ≤ u) = true := decide_eq_true hge
    have q1 : (size : Int).tdiv 2 = ((size / 2 : Nat) : Int) := by rw [Int.tdiv_eq_ediv_of_nonneg (by omega)]; omega
    obtain ⟨m, hm⟩ : ∃ m, size / 2 = m := ⟨_, rfl⟩
    have Hm : Hid (size / 2 = m ∧ 1 ≤ m ∧ m ≤ 2048) := ⟨hm, by have := Hb.out; omega, by have := Hb.out; omega⟩
    rw [hm] at q1
    have q2 : IntKind.i64.wrap (m : Int) = (m : Int) := by have := Hm.out; rw [IntKind.wrap_i64]; omega
    obtain ⟨r, hr⟩ : ∃ r, u % m = r := ⟨_, rfl⟩
    have q3 : (u : Int).tmod (m : Int) = (r : Int) := by rw [Int.tmod_eq_emod_of_nonneg (by omega), ← hr]; rfl
    have Hr : Hid (u % m = r ∧ r < m) := ⟨hr, by rw [← hr]; exact Nat.mod_lt _ (by have := Hm.out; omega)⟩
    have q4 : IntKind.i64.wrap (r : Int) = (r : Int) := by have := Hm.out; have := Hr.out; rw [IntKind.wrap_i64]; omega
    have q5 : IntKind.i64.wrap ((r : Int) + (m : Int)) = ((r + m : Nat) : Int) := by have := Hm.out; have := Hr.out; rw [IntKind.wrap_i64]; omega
    have q6 : ((m : Int) == 0) = false := by have := Hm.out; simp; omega
    have q7 : (m : Int) ≠ 0 := by have := Hm.out; omega
    clear hm hr hge hs hv hbit
    go_enter Tryd.func63, Tryd.ntmps63
    go_wp2_with fail
    go_quiet (fail)
    go_wp2_with fail
    obtain ⟨wn, hwn⟩ : ∃ wn, wq.drewN nq = wn := ⟨_, rfl⟩
    rw [hwn]
    have d1 : wn.cell? ⟨bw, 1, none⟩ = some (.int .i64 (size : Int)) := by rw [← hwn]; exact c1
    have d2 : wn.cell? ⟨bw, 2, none⟩ = some (.int .i64 (u : Int)) := by rw [← hwn]; exact c2
    have df : wn.frozen? ⟨bw, 2, none⟩ = false := by rw [← hwn]; exact cf
    have HSn : Hid (WkAt wn bw base size u) := by rw [← hwn]; exact HS'.out.kept ((Fr.refl (fun _ => False) _).drewN nq) (fun h => h)
    have HFn : Hid (Fr (fun k => k = bw) w wn) := by rw [← hwn]; exact HF.out.drewN nq
    clear hwn hwq c0 c1 c2 cf e0 e1 e2 ef HF HS' HW k1 k2
    go_region
    all_goals go_wp2_with fail
    go_end0
    have e : passP size v bit = r + m := by
      have h1 := of_decide_eq_true hd
      unfold passP
      rw [Hu.out, if_pos h1, Hm.out.1, Hr.out.1]
    refine ⟨⟨_, rfl⟩, ?_, (Fr.setCell HFn.out (p := ⟨bw, 2, none⟩) (fun _ => rfl) _).drew⟩
    rw [e]
    have := HSn.out.set (r + m)
    rw [show ((r + m : Nat) : Int) = (r : Int) + (m : Int) by push_cast; rfl] at this
    exact this.kept (Fr.drew (Fr.refl (fun _ => False) _)) (fun h => h)
  · have hd : decide (size ≤ u) = false := decide_eq_false hge
    have Hlt : Hid (¬ size ≤ u) := hge
    clear hge hs hv hbit
    go_enter Tryd.func63, Tryd.ntmps63
    go_wp2_with fail
    go_quiet (fail)
    go_wp2_with fail
    go_end0
    have e : passP size v bit = u := by
      unfold passP
      rw [Hu.out, if_neg Hlt.out]
    refine ⟨⟨_, rfl⟩, ?_, HF.out.drewN _⟩
    rw [e]
    exact HS'.out.kept (Fr.drewN (Fr.refl (fun _ => False) _) _) (fun h => h)
end Go.Proofs.YtllhekkclhcdbaaDoor
