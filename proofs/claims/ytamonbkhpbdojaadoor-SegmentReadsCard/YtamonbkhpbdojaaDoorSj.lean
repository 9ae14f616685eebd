/- Segments' headers: 'read', 'Decode'. -/
import Derived.Test.YtamonbkhpbdojaaDoorSh
namespace Go.Proofs.YtamonbkhpbdojaaDoor
set_option maxRecDepth 100000
open Go.RowKit

/-- Bytes that are handed in. -/
structure DB (w : World) (ao : Option Addr) (cap : Nat) (l : List Nat) : Prop where
  seen : l ≠ [] → ∃ b off, ao = some ⟨b, off, none⟩ ∧ ∀ j, j < l.length → w.cell? ⟨b, off + j, none⟩ = some (.int .u8 (l[j]?.getD 0))
  lim : l.length ≤ 140737488351232
  byt : ∀ x ∈ l, x < 256
  nil : ao = none → cap = 0
  cp : l.length ≤ cap
  cl : cap ≤ maxLen
  sp : ∀ ad, ao = some ad → 0 < cap → ∃ b off, ad = ⟨b, off, none⟩
theorem DB.kept {w w' : World} {ao : Option Addr} {cap : Nat} {l : List Nat} (h : DB w ao cap l) (f : Fr (fun _ => False) w w') : DB w' ao cap l := by
  refine ⟨fun hl => ?_, h.lim, h.byt, h.nil, h.cp, h.cl, h.sp⟩
  obtain ⟨b, off, e, hc⟩ := h.seen hl
  exact ⟨b, off, e, fun j hj => f.cell (hc j hj) (fun h => h)⟩

set_option maxHeartbeats 1000000 in
theorem newReader_ok (ao : Option Addr) (cap : Nat) (l : List Nat) (a : Nat) (w : World) (h : DB w ao cap l) (ha : a ≤ l.length) :
    Calls Tryd.prog 45 #[.slice ao l.length cap, .int .i64 (a : Int)] w fun e w' => ∃ bs, e = .returned (.pointer (some ⟨bs, 0, none⟩)) ∧ SR w' bs ao cap l a ∧ Fr (fun _ => False) w w' ∧ w.heap.size ≤ bs := by
  have HD : Hid (DB w ao cap l) := h
  have d1 : (decide ((0 : Int) ≤ (a : Int)) && decide ((a : Int) ≤ (l.length : Int))) = true := by rw [decide_eq_true (by omega), decide_eq_true (by omega)]; rfl
  clear h
  go_enter Tryd.func45, Tryd.ntmps45
  go_wp2_with fail
  refine (between_any _ _ _ _).mono ?_
  rintro e w1 ⟨rfl, rfl⟩
  rw [d1]
  go_wp2_with fail
  refine (demand_yes _ _).mono ?_
  rintro e w1 ⟨rfl, rfl⟩
  go_wp2_with fail
  go_ret
  have hd := HD.out.kept ((Fr.refl _ w1).alloc (.cells #[.slice ao l.length cap, .int .i64 (a : Int)] 88))
  exact ⟨_, rfl, ⟨heap_alloc_new _ _, hd.seen, ha, hd.lim, hd.byt, hd.nil, hd.cp, hd.cl, hd.sp⟩, (Fr.refl _ _).alloc _, Nat.le_refl _⟩
set_option maxHeartbeats 1000000 in
theorem newReader_no (v : Value) (ao : Option Addr) (n cap : Nat) (a : Int) (w : World) (hv : v = .slice ao n cap) (ha : a < 0 ∨ (n : Int) < a) :
    Calls Tryd.prog 45 #[v, .int .i64 a] w (Pan 163 w) := by
  subst hv
  have d1 : (decide ((0 : Int) ≤ a) && decide (a ≤ (n : Int))) = false := by
    rcases ha with h | h
    · rw [decide_eq_false (by omega), Bool.false_and]
    · rw [decide_eq_false (by omega : ¬ a ≤ (n : Int)), Bool.and_false]
  go_enter Tryd.func45, Tryd.ntmps45
  go_wp2_with fail
  refine (between_any _ _ _ _).mono ?_
  rintro e w1 ⟨rfl, rfl⟩
  rw [d1]
  go_wp2_with fail
  refine (demand_no _ _).mono ?_
  rintro e w1 ⟨rfl, rfl⟩
  exact ⟨rfl, rfl, Fr.refl _ _⟩

theorem caught_none (p : Addr) (w : World) :
    CallsD Tryd.prog 44 #[.pointer (some p)] .returning w fun e u' w' => e = .returned (.tuple #[]) ∧ u' = .returning ∧ w' = w := by
  refine callsD_of_wpS Tryd.func44 rfl fun c₀ cs hu => ?_
  apply wpS_seq
  apply wpS_region
  simp [wpOpsS, go_sem, recoverD, hu, Tryd.ntmps44, Exit.thenS]
  apply wpS_seq
  apply wpS_region
  simp [wpOpsS, go_sem, Array.replicate, Exit.thenS]
  refine wpS_cond (t := false) (by simp [Act.eval]) ?_
  simp only [Bool.false_eq_true, if_false]
  refine wpS_of_wp (wp_skip ?_)
  cases c₀
  simp_all [bodyPostS, results, Tryd.results44]

theorem caught_p (p : Addr) (x : Int) (er : Int) (w : World) (hc : w.cell? p = some (.int .i64 x)) (hz : w.frozen? p = false) :
    CallsD Tryd.prog 44 #[.pointer (some p)] (.panicking [{ v := .iface 29 (.int .i64 er), recovered := false }]) w fun e u' w' => e = .returned (.tuple #[]) ∧ u' = .panicking [{ v := .iface 29 (.int .i64 er), recovered := true }] ∧ w' = w.setCell p (.int .i64 er) := by
  have hta : ∀ w, Sem.run Tryd.prog (Instr.typeAssert (.iface 29 (.int .i64 er)) 20 29 false) w = .ok (.int .i64 er) w := fun w => by kernel_rfl
  refine callsD_of_wpS Tryd.func44 rfl fun c₀ cs hu => ?_
  apply wpS_seq
  apply wpS_region
  simp [wpOpsS, go_sem, recoverD, hu, Tryd.ntmps44, Exit.thenS]
  apply wpS_seq
  apply wpS_region
  simp [wpOpsS, go_sem, Array.replicate, Exit.thenS]
  refine wpS_cond (t := true) (by simp [Act.eval]) ?_
  simp only [if_true]
  apply wpS_region
  simp [wpOpsS, go_sem, hc, hz, hta, bodyPostS, results, Tryd.results44]
end Go.Proofs.YtamonbkhpbdojaaDoor
