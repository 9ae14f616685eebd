/- Segments' headers: 'read', 'Decode'. -/
import Derived.Test.YtamonbkhpbdojaaDoorSi
import Derived.Test.YtamonbkhpbdojaaDoorSj
namespace Go.Proofs.YtamonbkhpbdojaaDoor
set_option maxRecDepth 100000
open Go.RowKit

/-- What 'Decode' answers: the error; the segment, how many bytes its data have, the place behind. -/
def decS (l : List Nat) (x : Int) : Nat × Seg × Nat × Nat := if 0 ≤ x ∧ x ≤ (l.length : Int) then segS l x.toNat else (163, default)

theorem bindE_def {α β : Type} [Inhabited β] (r : Nat × α) (f : α → Nat × β) (hf : ∀ x, (f x).1 ≠ 0 → (f x).2 = default) (h : (bindE r f).1 ≠ 0) : (bindE r f).2 = default := by
  unfold bindE at h ⊢
  split at h
  · rename_i h1; rw [if_pos h1]; exact hf _ h
  · rename_i h1; rw [if_neg h1]
theorem segS_def (l : List Nat) (a : Nat) (h : (segS l a).1 ≠ 0) : (segS l a).2 = default := by
  unfold segS at h ⊢
  refine bindE_def _ _ (fun x1 => ?_) h
  refine bindE_def _ _ (fun x2 => ?_)
  refine bindE_def _ _ (fun x3 => ?_)
  refine bindE_def _ _ (fun x4 => ?_)
  refine bindE_def _ _ (fun x5 => ?_)
  refine bindE_def _ _ (fun x6 => ?_)
  refine bindE_def _ _ (fun x7 => ?_)
  refine bindE_def _ _ (fun x8 h => ?_)
  exact absurd rfl h
theorem decS_def (l : List Nat) (x : Int) (h : (decS l x).1 ≠ 0) : (decS l x).2 = default := by
  unfold decS at h ⊢
  split
  · rename_i h1; rw [if_pos h1] at h; exact segS_def _ _ h
  · rfl

/-- A segment as a value: without its data. -/
def segV (s : Seg) (vr vk : Value) : Value := .agg #[.int .i64 (s.num : Int), .int .i64 (s.kind : Int), .int .i64 (s.page : Int), vr, vk, .bool s.stay, .slice none 0 0]
def DecP (w : World) (R : Nat × Seg × Nat × Nat) (e : Ending) (w' : World) : Prop :=
  Fr (fun _ => False) w w' ∧ ∃ vr vk, e = .returned (.tuple #[segV R.2.1 vr vk, .int .i64 (R.2.2.1 : Int), .int .i64 (R.2.2.2 : Int), .int .i64 (R.1 : Int)]) ∧ w'.ownsRow w.heap.size 3 1 vr R.2.1.refs.length (intCells R.2.1.refs) ∧ w'.ownsRow w.heap.size 4 1 vk R.2.1.keep.length (boolCells R.2.1.keep)

theorem own_nil (w : World) (b e : Nat) : w.ownsRow b e 1 (.slice none 0 0) 0 [] := ⟨rfl, Or.inl ⟨rfl, rfl⟩⟩

theorem DB.keptN {w w' : World} {ao : Option Addr} {cap : Nat} {l : List Nat} {S : Nat → Prop} (h : DB w ao cap l) (f : Fr S w w') (hs : ∀ k, S k → w.heap.size ≤ k) : DB w' ao cap l := h.kept (f.mono (fun i hi e => by have := hs i e; omega))

/-- While 'read' runs: the result's block, the error's block. -/
structure Rd (w0 w : World) (xs : Array Value) (er : Int) : Prop where
  b0 : w.heap[w0.heap.size]? = some (.cells xs 27 (0, 0))
  b1 : w.heap[w0.heap.size + 1]? = some (.cells #[.int .i64 er] 29 (0, 0))
  fr : Fr (fun _ => False) w0 w
theorem Rd.kept {w0 w w' : World} {xs : Array Value} {er : Int} {S : Nat → Prop} (h : Rd w0 w xs er) (f : Fr S w w') (hs : ∀ k, S k → w0.heap.size + 2 ≤ k) : Rd w0 w' xs er :=
  ⟨by rw [f.block _ (lt_of_block h.b0) (fun e => by have := hs _ e; omega)]; exact h.b0, by rw [f.block _ (lt_of_block h.b1) (fun e => by have := hs _ e; omega)]; exact h.b1, h.fr.trans f (fun i hi e => by have := hs i e; omega)⟩
theorem Rd.set0 {w0 w : World} {xs : Array Value} {er : Int} (h : Rd w0 w xs er) (j : Nat) (u : Value) : Rd w0 (w.setCell ⟨w0.heap.size, j, none⟩ u) (xs.setIfInBounds j u) er := by
  refine ⟨?_, ?_, h.fr.setCell (fun hh => by simp at hh) u⟩
  · simp [World.setCell, Array.getElem?_modify, h.b0]
  · simp [World.setCell, Array.getElem?_modify, h.b1]
theorem Rd.set1 {w0 w : World} {xs : Array Value} {er : Int} (h : Rd w0 w xs er) (u : Int) : Rd w0 (w.setCell ⟨w0.heap.size + 1, 0, none⟩ (.int .i64 u)) xs u := by
  refine ⟨?_, ?_, h.fr.setCell (fun hh => by simp at hh; omega) _⟩
  · simp [World.setCell, Array.getElem?_modify, h.b0]
  · simp [World.setCell, Array.getElem?_modify, h.b1]
theorem Rd.cell0 {w0 w : World} {xs : Array Value} {er : Int} (h : Rd w0 w xs er) (j : Nat) : w.cell? ⟨w0.heap.size, j, none⟩ = xs[j]? := by simp [World.cell?, h.b0]
theorem Rd.cell1 {w0 w : World} {xs : Array Value} {er : Int} (h : Rd w0 w xs er) : w.cell? ⟨w0.heap.size + 1, 0, none⟩ = some (.int .i64 er) := by simp [World.cell?, h.b1]
theorem Rd.froz0 {w0 w : World} {xs : Array Value} {er : Int} (h : Rd w0 w xs er) (j : Nat) : w.frozen? ⟨w0.heap.size, j, none⟩ = false := by simp [World.frozen?, h.b0]
theorem Rd.froz1 {w0 w : World} {xs : Array Value} {er : Int} (h : Rd w0 w xs er) : w.frozen? ⟨w0.heap.size + 1, 0, none⟩ = false := by simp [World.frozen?, h.b1]

def zeroX : Array Value := #[.int .i64 0, .int .i64 0, .int .i64 0, .slice none 0 0, .slice none 0 0, .bool false, .slice none 0 0]

/-- Behind a panic: it is caught, the error is told. -/
theorem read_fault {w0 w : World} {R : Nat × Seg × Nat × Nat} (h : Rd w0 w zeroX 0) :
    CallsD Tryd.prog 44 #[.pointer (some ⟨w0.heap.size + 1, 0, none⟩)] (.panicking [{ v := .iface 29 (.int .i64 (R.1 : Int)), recovered := false }]) w fun e u' w' => e = .returned (.tuple #[]) ∧ u' = .panicking [{ v := .iface 29 (.int .i64 (R.1 : Int)), recovered := true }] ∧ Rd w0 w' zeroX R.1 := by
  refine (caught_p _ 0 _ _ h.cell1 h.froz1).mono ?_
  rintro e u' w' ⟨rfl, rfl, rfl⟩
  exact ⟨rfl, rfl, h.set1 _⟩
theorem read_faultP {w0 w : World} {R : Nat × Seg × Nat × Nat} {er : Nat} (h : Rd w0 w zeroX R.1) (hd : R.2 = default) (he : R.1 = er) : DecP w0 R (.returned (.tuple #[.agg zeroX, .int .i64 0, .int .i64 0, .int .i64 (er : Int)])) w := by
  obtain ⟨r1, r2⟩ := R
  simp only at hd he
  subst hd he
  exact ⟨h.fr, _, _, rfl, own_nil _ _ _, own_nil _ _ _⟩

set_option linter.unusedSimpArgs false in
set_option maxHeartbeats 2000000 in
theorem read_any (ao : Option Addr) (cap : Nat) (l : List Nat) (x : Int) (w : World) (h : DB w ao cap l) (hr : RulesAt w) :
    Calls Tryd.prog 33 #[.slice ao l.length cap, .int .i64 x] w (DecP w (decS l x)) := by
  have hmf : ∀ (fn : Fn) (first cap : Array Value) (w : World), (Instr.makeFunc fn first cap).run Tryd.prog w = .ok (.func fn first cap) w := fun _ _ _ _ => rfl
  have HRD : Hid (Rd w ((w.alloc (.cells #[.int .i64 0, .int .i64 0, .int .i64 0, .slice none 0 0, .slice none 0 0, .bool false, .slice none 0 0] 27)).alloc (.cells #[.int .i64 0] 29)) zeroX 0) := by
    obtain ⟨hz, hb0, hb1, hk⟩ := allocs2 w (.cells #[.int .i64 0, .int .i64 0, .int .i64 0, .slice none 0 0, .slice none 0 0, .bool false, .slice none 0 0] 27) (.cells #[.int .i64 0] 29)
    exact ⟨hb0, hb1, hk⟩
  have HD : Hid (DB w ao cap l) := h
  have HRU : Hid (RulesAt w) := hr
  clear h hr
  have HZ : Hid (0 < w.heap.size) := HRU.out.lt
  go_enter_defers Tryd.func33, Tryd.ntmps33
  go_wp2_with fail
  have HSZ : Hid (((w.alloc (.cells #[.int .i64 0, .int .i64 0, .int .i64 0, .slice none 0 0, .slice none 0 0, .bool false, .slice none 0 0] 27)).alloc (.cells #[.int .i64 0] 29)).heap.size = w.heap.size + 2) := (allocs2 w _ _).1
  generalize (w.alloc (.cells #[.int .i64 0, .int .i64 0, .int .i64 0, .slice none 0 0, .slice none 0 0, .bool false, .slice none 0 0] 27)).alloc (.cells #[.int .i64 0] 29) = w2 at *
  by_cases hx : 0 ≤ x ∧ x ≤ (l.length : Int)
  · obtain ⟨a, rfl⟩ : ∃ a : Nat, x = (a : Int) := ⟨x.toNat, by omega⟩
    have HR : Hid (decS l (a : Int) = segS l a) := by show _ = _; unfold decS; rw [if_pos hx]; rfl
    refine (newReader_ok ao cap l a _ (HD.out.kept HRD.out.fr) (by omega)).mono ?_
    rintro e w3 ⟨bs, rfl, hs3, hf3, hb3⟩
    have HS3 : Hid (SR w3 bs ao cap l a) := hs3
    have HR3 : Hid (Rd w w3 zeroX 0) := HRD.out.kept hf3 (fun _ h => h.elim)
    have HB3 : Hid (w.heap.size + 2 ≤ bs) := by have := HSZ.out; show _ ≤ _; omega
    have HF3 : Hid (Fr (fun _ => False) w w3) := HR3.out.fr
    clear hs3 hf3 hb3 HRD
    go_wp2_with fail
    refine (segment_any bs ao cap l a _ HS3.out (HRU.out.kept HF3.out (fun h => h)) (by have := HB3.out; omega)).mono ?_
    rw [← HR.out]
    clear hx
    have hdef := decS_def l a
    rintro e w4 ⟨hf4, ⟨he0, vr, vk, rfl, hvr, hvk, hs4⟩ | ⟨he1, he⟩⟩
    · have HR4 : Hid (Rd w w4 zeroX 0) := HR3.out.kept hf4 (fun k e => by have := HB3.out; omega)
      obtain ⟨s, D, a', hSE⟩ : ∃ s D a', decS l (a : Int) = (0, s, D, a') := ⟨_, _, _, Prod.ext he0 rfl⟩
      have HSE : Hid (decS l (a : Int) = (0, s, D, a')) := hSE
      rw [hSE] at hvr hvk hs4 ⊢
      clear hSE he0 HR
      obtain ⟨aor, cr, rfl⟩ := own_slice hvr
      obtain ⟨aok, ck, rfl⟩ := own_slice hvk
      have HVR : Hid (∀ w', Fr (fun k => k = w.heap.size ∨ k = w.heap.size + 1) w4 w' → w'.ownsRow w.heap.size 3 1 (.slice aor s.refs.length cr) s.refs.length (intCells s.refs)) := fun w' f => ownsRow_base (row_kept hvr f (fun k e1 e2 => by have := (hvr.lt k e1).1; have := HF3.out.size; have := HB3.out; have := HS3.out.lt; omega)) (fun k e => by have := (hvr.lt k e).1; have := HF3.out.size; omega)
      have HVK : Hid (∀ w', Fr (fun k => k = w.heap.size ∨ k = w.heap.size + 1) w4 w' → w'.ownsRow w.heap.size 4 1 (.slice aok s.keep.length ck) s.keep.length (boolCells s.keep)) := fun w' f => ownsRow_base (row_kept hvk f (fun k e1 e2 => by have := (hvk.lt k e1).1; have := HF3.out.size; have := HB3.out; have := HS3.out.lt; omega)) (fun k e => by have := (hvk.lt k e).1; have := HF3.out.size; omega)
      obtain ⟨N, K, P, Rf, Kp, st⟩ := s
      have HS4 : Hid (SR w4 bs ao cap l a') := hs4
      obtain ⟨s0, s1, sf⟩ := cell_of_two hs4.blk
      have g0 := fun j => HR4.out.froz0 j
      have g1 := HR4.out.froz1
      clear hvr hvk hs4 hf4 hdef
      go_wp2_with fail
      have HR5 : Hid (Rd w (w4.alloc (.cells #[.int .i64 (N : Int), .int .i64 (K : Int), .int .i64 (P : Int), .slice aor Rf.length cr, .slice aok Kp.length ck, .bool st, .slice none 0 0] 27)) zeroX 0) := HR4.out.kept ((Fr.refl (fun _ => False) w4).alloc _) (fun _ h => h.elim)
      have HS5 : Hid (SR (w4.alloc (.cells #[.int .i64 (N : Int), .int .i64 (K : Int), .int .i64 (P : Int), .slice aor Rf.length cr, .slice aok Kp.length ck, .bool st, .slice none 0 0] 27)) bs ao cap l a') := HS4.out.keptF ((Fr.refl (fun _ => False) w4).alloc _)
      have HN5 : Hid ((w4.alloc (.cells #[.int .i64 (N : Int), .int .i64 (K : Int), .int .i64 (P : Int), .slice aor Rf.length cr, .slice aok Kp.length ck, .bool st, .slice none 0 0] 27)).heap[w4.heap.size]? = some (.cells #[.int .i64 (N : Int), .int .i64 (K : Int), .int .i64 (P : Int), .slice aor Rf.length cr, .slice aok Kp.length ck, .bool st, .slice none 0 0] 27 (0, 0))) := heap_alloc_new w4 _
      have HF5 : Hid (Fr (fun k => k = w.heap.size) w4 (w4.alloc (.cells #[.int .i64 (N : Int), .int .i64 (K : Int), .int .i64 (P : Int), .slice aor Rf.length cr, .slice aok Kp.length ck, .bool st, .slice none 0 0] 27))) := (Fr.refl _ w4).alloc _
      have HN : Hid (w.heap.size + 1 < w4.heap.size) := lt_of_block HR4.out.b1
      clear s0 s1 sf g0 g1
      generalize (w4.alloc (.cells #[.int .i64 (N : Int), .int .i64 (K : Int), .int .i64 (P : Int), .slice aor Rf.length cr, .slice aok Kp.length ck, .bool st, .slice none 0 0] 27)) = w5 at *
      generalize w4.heap.size = fb at *
      obtain ⟨s0, s1, sf⟩ := cell_of_two HS5.out.blk
      have n0 : w5.cell? ⟨fb, 0, none⟩ = some (.int .i64 (N : Int)) := by simp [World.cell?, HN5.out]
      have n1 : w5.cell? ⟨fb, 1, none⟩ = some (.int .i64 (K : Int)) := by simp [World.cell?, HN5.out]
      have n2 : w5.cell? ⟨fb, 2, none⟩ = some (.int .i64 (P : Int)) := by simp [World.cell?, HN5.out]
      have n3 : w5.cell? ⟨fb, 3, none⟩ = some (.slice aor Rf.length cr) := by simp [World.cell?, HN5.out]
      have n4 : w5.cell? ⟨fb, 4, none⟩ = some (.slice aok Kp.length ck) := by simp [World.cell?, HN5.out]
      have n5 : w5.cell? ⟨fb, 5, none⟩ = some (.bool st) := by simp [World.cell?, HN5.out]
      have n6 : w5.cell? ⟨fb, 6, none⟩ = some (.slice none 0 0) := by simp [World.cell?, HN5.out]
      have g0 := fun j => HR5.out.froz0 j
      have g1 := HR5.out.froz1
      have c0 : w5.cell? ⟨w.heap.size, 0, none⟩ = some (.int .i64 0) := HR5.out.cell0 0
      have c1 : w5.cell? ⟨w.heap.size, 1, none⟩ = some (.int .i64 0) := HR5.out.cell0 1
      have c2 : w5.cell? ⟨w.heap.size, 2, none⟩ = some (.int .i64 0) := HR5.out.cell0 2
      have c3 : w5.cell? ⟨w.heap.size, 3, none⟩ = some (.slice none 0 0) := HR5.out.cell0 3
      have c4 : w5.cell? ⟨w.heap.size, 4, none⟩ = some (.slice none 0 0) := HR5.out.cell0 4
      have c5 : w5.cell? ⟨w.heap.size, 5, none⟩ = some (.bool false) := HR5.out.cell0 5
      have c6 : w5.cell? ⟨w.heap.size, 6, none⟩ = some (.slice none 0 0) := HR5.out.cell0 6
      have c7 := HR5.out.cell1
      have HKS : Hid (∀ w', Fr (fun k => k = w.heap.size ∨ k = w.heap.size + 1) w5 w' → (fun w' => w'.cell? ⟨fb, 0, none⟩ = some (.int .i64 (N : Int)) ∧ w'.cell? ⟨fb, 1, none⟩ = some (.int .i64 (K : Int)) ∧ w'.cell? ⟨fb, 2, none⟩ = some (.int .i64 (P : Int)) ∧ w'.cell? ⟨fb, 3, none⟩ = some (.slice aor Rf.length cr) ∧ w'.cell? ⟨fb, 4, none⟩ = some (.slice aok Kp.length ck) ∧ w'.cell? ⟨fb, 5, none⟩ = some (.bool st) ∧ w'.cell? ⟨fb, 6, none⟩ = some (.slice none 0 0) ∧ w'.cell? ⟨bs, 1, none⟩ = some (.int .i64 (a' : Int))) w') := fun w' f => by
        have e : ∀ j, j < 7 → w'.cell? ⟨fb, j, none⟩ = w5.cell? ⟨fb, j, none⟩ := fun j _ => by simp only [World.cell?]; rw [f.block fb (lt_of_block HN5.out) (fun e => by have := HN.out; omega)]
        exact ⟨(e 0 (by omega)).trans n0, (e 1 (by omega)).trans n1, (e 2 (by omega)).trans n2, (e 3 (by omega)).trans n3, (e 4 (by omega)).trans n4, (e 5 (by omega)).trans n5, (e 6 (by omega)).trans n6, f.cell s1 (fun e => by have := HB3.out; omega)⟩
      refine wp_region_noPanic ?_
      refine wp_region_held_drew (S := fun w' => w'.cell? ⟨fb, 0, none⟩ = some (.int .i64 (N : Int)) ∧ w'.cell? ⟨fb, 1, none⟩ = some (.int .i64 (K : Int)) ∧ w'.cell? ⟨fb, 2, none⟩ = some (.int .i64 (P : Int)) ∧ w'.cell? ⟨fb, 3, none⟩ = some (.slice aor Rf.length cr) ∧ w'.cell? ⟨fb, 4, none⟩ = some (.slice aok Kp.length ck) ∧ w'.cell? ⟨fb, 5, none⟩ = some (.bool st) ∧ w'.cell? ⟨fb, 6, none⟩ = some (.slice none 0 0) ∧ w'.cell? ⟨bs, 1, none⟩ = some (.int .i64 (a' : Int))) (by kernel_rfl) (HKS.out _ (Fr.refl _ _).drew) (fun hHeld => ?_)
      refine wpAnyH_take (i := 0) (oi := _) (v := ?vv0) rfl (by kernel_rfl) (by kernel_rfl) (by kernel_rfl) (fun _ _ _ h => h) (Or.inl ⟨by kernel_rfl, ?hy0⟩) (by assumption) ?_
      case hy0 => (intro w hSw; (try dsimp only at hSw); obtain ⟨q0, q1, q2, q3, q4, q5, q6, q7⟩ := hSw; go_simp; all_goals (with_reducible rfl))
      (try simp only [Act.put, List.setIfInBounds_toArray, List.set_cons_zero, List.set_cons_succ])
      refine wpAnyH_take (i := 1) (oi := _) (v := ?vv1) rfl (by kernel_rfl) (by kernel_rfl) (by kernel_rfl) (fun _ _ _ h => h) (Or.inl ⟨by kernel_rfl, ?hy1⟩) (by assumption) ?_
      case hy1 => (intro w hSw; (try dsimp only at hSw); obtain ⟨q0, q1, q2, q3, q4, q5, q6, q7⟩ := hSw; go_simp; all_goals (with_reducible rfl))
      (try simp only [Act.put, List.setIfInBounds_toArray, List.set_cons_zero, List.set_cons_succ])
      refine wpAnyH_take (i := 2) (oi := _) (v := ?vv2) rfl (by kernel_rfl) (by kernel_rfl) (by kernel_rfl) (fun _ _ _ h => h) (Or.inl ⟨by kernel_rfl, ?hy2⟩) (by assumption) ?_
      case hy2 => (intro w hSw; (try dsimp only at hSw); obtain ⟨q0, q1, q2, q3, q4, q5, q6, q7⟩ := hSw; go_simp; all_goals (with_reducible rfl))
      (try simp only [Act.put, List.setIfInBounds_toArray, List.set_cons_zero, List.set_cons_succ])
      refine wpAnyH_take (i := 3) (oi := _) (v := ?vv3) rfl (by kernel_rfl) (by kernel_rfl) (by kernel_rfl) (fun _ _ _ h => h) (Or.inl ⟨by kernel_rfl, ?hy3⟩) (by assumption) ?_
      case hy3 => (intro w hSw; (try dsimp only at hSw); obtain ⟨q0, q1, q2, q3, q4, q5, q6, q7⟩ := hSw; go_simp; all_goals (with_reducible rfl))
      (try simp only [Act.put, List.setIfInBounds_toArray, List.set_cons_zero, List.set_cons_succ])
      refine wpAnyH_take (i := 4) (oi := _) (v := ?vv4) rfl (by kernel_rfl) (by kernel_rfl) (by kernel_rfl) (fun _ _ _ h => h) (Or.inl ⟨by kernel_rfl, ?hy4⟩) (by assumption) ?_
      case hy4 => (intro w hSw; (try dsimp only at hSw); obtain ⟨q0, q1, q2, q3, q4, q5, q6, q7⟩ := hSw; go_simp; all_goals (with_reducible rfl))
      (try simp only [Act.put, List.setIfInBounds_toArray, List.set_cons_zero, List.set_cons_succ])
      refine wpAnyH_take (i := 5) (oi := _) (v := ?vv5) rfl (by kernel_rfl) (by kernel_rfl) (by kernel_rfl) (fun _ _ _ h => h) (Or.inl ⟨by kernel_rfl, ?hy5⟩) (by assumption) ?_
      case hy5 => (intro w hSw; (try dsimp only at hSw); obtain ⟨q0, q1, q2, q3, q4, q5, q6, q7⟩ := hSw; go_simp; all_goals (with_reducible rfl))
      (try simp only [Act.put, List.setIfInBounds_toArray, List.set_cons_zero, List.set_cons_succ])
      refine wpAnyH_ready (rs := [6]) (by kernel_rfl) (by simp) ?_
      refine AllReadyH.cons (o := _) rfl (fun C hC => ?_) AllReadyH.nil
      go_simp
      have HF6 : Hid (Fr (fun k => k = w.heap.size) w5 (((((((w5.setCell ⟨w.heap.size, 0, none⟩ (.int .i64 (N : Int))).setCell ⟨w.heap.size, 1, none⟩ (.int .i64 (K : Int))).setCell ⟨w.heap.size, 2, none⟩ (.int .i64 (P : Int))).setCell ⟨w.heap.size, 3, none⟩ (.slice aor Rf.length cr)).setCell ⟨w.heap.size, 4, none⟩ (.slice aok Kp.length ck)).setCell ⟨w.heap.size, 5, none⟩ (.bool st)).setCell ⟨w.heap.size, 6, none⟩ (.slice none 0 0)).drew) := ((((((((Fr.refl (fun k => k = w.heap.size) w5).setCell (fun _ => rfl) _).setCell (fun _ => rfl) _).setCell (fun _ => rfl) _).setCell (fun _ => rfl) _).setCell (fun _ => rfl) _).setCell (fun _ => rfl) _).setCell (fun _ => rfl) _).drew
      have HR6 : Hid (Rd w (((((((w5.setCell ⟨w.heap.size, 0, none⟩ (.int .i64 (N : Int))).setCell ⟨w.heap.size, 1, none⟩ (.int .i64 (K : Int))).setCell ⟨w.heap.size, 2, none⟩ (.int .i64 (P : Int))).setCell ⟨w.heap.size, 3, none⟩ (.slice aor Rf.length cr)).setCell ⟨w.heap.size, 4, none⟩ (.slice aok Kp.length ck)).setCell ⟨w.heap.size, 5, none⟩ (.bool st)).setCell ⟨w.heap.size, 6, none⟩ (.slice none 0 0)).drew #[.int .i64 (N : Int), .int .i64 (K : Int), .int .i64 (P : Int), .slice aor Rf.length cr, .slice aok Kp.length ck, .bool st, .slice none 0 0] 0) := (((((((HR5.out.set0 0 _).set0 1 _).set0 2 _).set0 3 _).set0 4 _).set0 5 _).set0 6 _).kept (Fr.refl (fun _ => False) _).drew (fun _ h => h.elim)
      refine hC.out _ _ (HKS.out _ (HF6.out.mono (fun _ _ h => Or.inl h))) (fun hHeld => ?_)
      clear hC C
      generalize (((((((w5.setCell ⟨w.heap.size, 0, none⟩ (.int .i64 (N : Int))).setCell ⟨w.heap.size, 1, none⟩ (.int .i64 (K : Int))).setCell ⟨w.heap.size, 2, none⟩ (.int .i64 (P : Int))).setCell ⟨w.heap.size, 3, none⟩ (.slice aor Rf.length cr)).setCell ⟨w.heap.size, 4, none⟩ (.slice aok Kp.length ck)).setCell ⟨w.heap.size, 5, none⟩ (.bool st)).setCell ⟨w.heap.size, 6, none⟩ (.slice none 0 0)).drew = w6 at *
      have b1 := HR6.out.froz1
      have b2 := HR6.out.cell1
      refine wpAnyH_ready (rs := [7]) (by kernel_rfl) (by simp) ?_
      refine AllReadyH.cons (o := _) rfl (fun C hC => ?_) AllReadyH.nil
      go_simp
      refine hC.out _ _ hHeld (fun hHeld => ?_)
      clear hC C
      refine wpAnyH_ready (rs := [8]) (by kernel_rfl) (by simp) ?_
      refine AllReadyH.cons (o := _) rfl (fun C hC => ?_) AllReadyH.nil
      go_simp
      refine hC.out _ _ hHeld (fun hHeld => ?_)
      clear hC C
      refine wpAnyH_ready (rs := [9]) (by kernel_rfl) (by simp) ?_
      refine AllReadyH.cons (o := _) rfl (fun C hC => ?_) AllReadyH.nil
      go_simp
      have HF7 : Hid (Fr (fun k => k = w.heap.size ∨ k = w.heap.size + 1) w5 (w6.setCell ⟨w.heap.size + 1, 0, none⟩ (.int .i64 0))) := (HF6.out.mono (T := fun k => k = w.heap.size ∨ k = w.heap.size + 1) (fun _ _ h => Or.inl h)).setCell (fun _ => Or.inr rfl) _
      have HFE : Hid (Fr (fun k => k = w.heap.size ∨ k = w.heap.size + 1) w4 (w6.setCell ⟨w.heap.size + 1, 0, none⟩ (.int .i64 0))) := (HF5.out.mono (fun _ _ h => Or.inl h)).trans HF7.out (fun _ _ h => h)
      have HR7 : Hid (Rd w (w6.setCell ⟨w.heap.size + 1, 0, none⟩ (.int .i64 0)) #[.int .i64 (N : Int), .int .i64 (K : Int), .int .i64 (P : Int), .slice aor Rf.length cr, .slice aok Kp.length ck, .bool st, .slice none 0 0] 0) := HR6.out.set1 0
      refine hC.out _ _ (HKS.out _ HF7.out) (fun hHeld => ?_)
      refine wpAnyH_done (by kernel_rfl) ?_ _
      refine NoPanic.normal ?_
      go_wp2_with fail
      refine leaves_cons (f := 44) (args := #[.pointer (some ⟨w.heap.size + 1, 0, none⟩)]) (by simp) (by simp [go_sem]) ?_
      refine (caught_none _ _).mono ?_
      rintro e u' w8 ⟨rfl, rfl, rfl⟩
      have t0 := HR7.out.cell0 0
      have t1 := HR7.out.cell0 1
      have t2 := HR7.out.cell0 2
      have t3 := HR7.out.cell0 3
      have t4 := HR7.out.cell0 4
      have t5 := HR7.out.cell0 5
      have t6 := HR7.out.cell0 6
      have t7 := HR7.out.cell1
      simp at t0 t1 t2 t3 t4 t5 t6
      generalize w6.setCell ⟨w.heap.size + 1, 0, none⟩ (.int .i64 0) = w7 at *
      simp [Leaves, settle, results, Tryd.results33, go_sem, t0, t1, t2, t3, t4, t5, t6, t7]
      rw [HSE.out]
      exact ⟨HR7.out.fr, _, _, rfl, HVR.out _ HFE.out, HVK.out _ HFE.out⟩
    · have HR4 : Hid (Rd w w4 zeroX 0) := HR3.out.kept hf4 (fun k e => by have := HB3.out; omega)
      rw [he]
      have hdef := hdef he1
      refine leaves_cons (f := 44) (args := #[.pointer (some ⟨w.heap.size + 1, 0, none⟩)]) (by simp) (by simp [go_sem]) ?_
      refine (read_fault HR4.out).mono ?_
      rintro e u' w5 ⟨rfl, rfl, hR5⟩
      have t0 := hR5.cell0 0
      have t1 := hR5.cell0 1
      have t2 := hR5.cell0 2
      have t3 := hR5.cell0 3
      have t4 := hR5.cell0 4
      have t5 := hR5.cell0 5
      have t6 := hR5.cell0 6
      have t7 := hR5.cell1
      simp [zeroX] at t0 t1 t2 t3 t4 t5 t6
      simp [Leaves, settle, results, Tryd.results33, go_sem, t0, t1, t2, t3, t4, t5, t6, t7]
      exact read_faultP hR5 hdef rfl
  · have HR : Hid (decS l x = (163, default)) := by show _ = _; unfold decS; rw [if_neg hx]
    refine (newReader_no _ ao l.length cap x _ rfl (by omega)).mono ?_
    rintro e w3 ⟨rfl, hf3⟩
    have HR3 : Hid (Rd w w3 zeroX 0) := HRD.out.kept hf3 (fun _ h => h.elim)
    rw [HR.out]
    refine leaves_cons (f := 44) (args := #[.pointer (some ⟨w.heap.size + 1, 0, none⟩)]) (by simp) (by simp [go_sem]) ?_
    refine (read_fault (R := (163, default)) HR3.out).mono ?_
    rintro e u' w5 ⟨rfl, rfl, hR5⟩
    have t0 := hR5.cell0 0
    have t1 := hR5.cell0 1
    have t2 := hR5.cell0 2
    have t3 := hR5.cell0 3
    have t4 := hR5.cell0 4
    have t5 := hR5.cell0 5
    have t6 := hR5.cell0 6
    have t7 := hR5.cell1
    simp [zeroX] at t0 t1 t2 t3 t4 t5 t6 t7
    simp [Leaves, settle, results, Tryd.results33, go_sem, t0, t1, t2, t3, t4, t5, t6, t7]
    exact read_faultP hR5 rfl rfl

set_option maxHeartbeats 2000000 in
theorem decode_any (ao : Option Addr) (cap : Nat) (l : List Nat) (x : Int) (w : World) (h : DB w ao cap l) (hr : RulesAt w) :
    Calls Tryd.prog 16 #[.slice ao l.length cap, .int .i64 x] w (DecP w (decS l x)) := by
  have HD : Hid (DB w ao cap l) := h
  have HRU : Hid (RulesAt w) := hr
  clear h hr
  have HF1 : Hid (Fr (fun _ => False) w (w.alloc (.cells #[.int .i64 0, .int .i64 0, .int .i64 0, .slice none 0 0, .slice none 0 0, .bool false, .slice none 0 0] 27))) := (Fr.refl _ w).alloc _
  have HB1 : Hid ((w.alloc (.cells #[.int .i64 0, .int .i64 0, .int .i64 0, .slice none 0 0, .slice none 0 0, .bool false, .slice none 0 0] 27)).heap[w.heap.size]? = some (.cells #[.int .i64 0, .int .i64 0, .int .i64 0, .slice none 0 0, .slice none 0 0, .bool false, .slice none 0 0] 27 (0, 0))) := heap_alloc_new w _
  go_enter Tryd.func16, Tryd.ntmps16
  go_wp2_with fail
  generalize (w.alloc (.cells #[.int .i64 0, .int .i64 0, .int .i64 0, .slice none 0 0, .slice none 0 0, .bool false, .slice none 0 0] 27)) = w1 at *
  refine (read_any ao cap l x w1 (HD.out.kept HF1.out) (HRU.out.kept HF1.out (fun h => h))).mono ?_
  obtain ⟨er, N, K, P, Rf, Kp, st, D, a', hR⟩ : ∃ er N K P Rf Kp st D a', decS l x = (er, ⟨N, K, P, Rf, Kp, st⟩, D, a') := ⟨_, _, _, _, _, _, _, _, _, rfl⟩
  have HSE : Hid (decS l x = (er, ⟨N, K, P, Rf, Kp, st⟩, D, a')) := hR
  rw [hR]
  clear hR
  rintro e w2 ⟨hf2, vr, vk, rfl, hvr, hvk⟩
  obtain ⟨aor, cr, rfl⟩ := own_slice hvr
  obtain ⟨aok, ck, rfl⟩ := own_slice hvk
  have hb2 : w2.heap[w.heap.size]? = some (.cells #[.int .i64 0, .int .i64 0, .int .i64 0, .slice none 0 0, .slice none 0 0, .bool false, .slice none 0 0] 27 (0, 0)) := by rw [hf2.block _ (lt_of_block HB1.out) (fun h => h)]; exact HB1.out
  have g0 : ∀ j, w2.frozen? ⟨w.heap.size, j, none⟩ = false := fun j => by simp [World.frozen?, hb2]
  have c : ∀ j, w2.cell? ⟨w.heap.size, j, none⟩ = zeroX[j]? := fun j => by simp [World.cell?, hb2, zeroX]
  have c0 : w2.cell? ⟨w.heap.size, 0, none⟩ = some (.int .i64 0) := c 0
  have c1 : w2.cell? ⟨w.heap.size, 1, none⟩ = some (.int .i64 0) := c 1
  have c2 : w2.cell? ⟨w.heap.size, 2, none⟩ = some (.int .i64 0) := c 2
  have c3 : w2.cell? ⟨w.heap.size, 3, none⟩ = some (.slice none 0 0) := c 3
  have c4 : w2.cell? ⟨w.heap.size, 4, none⟩ = some (.slice none 0 0) := c 4
  have c5 : w2.cell? ⟨w.heap.size, 5, none⟩ = some (.bool false) := c 5
  have c6 : w2.cell? ⟨w.heap.size, 6, none⟩ = some (.slice none 0 0) := c 6
  have HLT : Hid (w.heap.size < w1.heap.size) := lt_of_block HB1.out
  have HVR : Hid (∀ w', Fr (fun k => k = w.heap.size) w2 w' → w'.ownsRow w.heap.size 3 1 (.slice aor Rf.length cr) Rf.length (intCells Rf)) := fun w' f => ownsRow_base (row_kept hvr f (fun k e1 e2 => by have := (hvr.lt k e1).1; have := HLT.out; omega)) (fun k e => by have := (hvr.lt k e).1; have := HLT.out; omega)
  have HVK : Hid (∀ w', Fr (fun k => k = w.heap.size) w2 w' → w'.ownsRow w.heap.size 4 1 (.slice aok Kp.length ck) Kp.length (boolCells Kp)) := fun w' f => ownsRow_base (row_kept hvk f (fun k e1 e2 => by have := (hvk.lt k e1).1; have := HLT.out; omega)) (fun k e => by have := (hvk.lt k e).1; have := HLT.out; omega)
  have HB2 : Hid (w2.heap[w.heap.size]? = some (.cells zeroX 27 (0, 0))) := hb2
  have HF2 : Hid (Fr (fun _ => False) w w2) := HF1.out.trans hf2 (fun _ _ h => h)
  clear c hb2 hvr hvk hf2
  simp only [segV]
  go_wp2_with fail
  refine bodyPost_ret (v := .tuple #[.agg #[.int .i64 (N : Int), .int .i64 (K : Int), .int .i64 (P : Int), .slice aor Rf.length cr, .slice aok Kp.length ck, .bool st, .slice none 0 0], .int .i64 (D : Int), .int .i64 (a' : Int), .int .i64 (er : Int)]) (by simp [results, Tryd.results16, go_sem, World.cell?, World.setCell, Array.getElem?_modify, HB2.out, zeroX]) rfl ?_
  · have f : Fr (fun k => k = w.heap.size) w2 _ := (((((((Fr.refl (fun k => k = w.heap.size) w2).setCell (p := ⟨w.heap.size, 0, none⟩) (fun _ => rfl) (.int .i64 (N : Int))).setCell (p := ⟨w.heap.size, 1, none⟩) (fun _ => rfl) (.int .i64 (K : Int))).setCell (p := ⟨w.heap.size, 2, none⟩) (fun _ => rfl) (.int .i64 (P : Int))).setCell (p := ⟨w.heap.size, 3, none⟩) (fun _ => rfl) (.slice aor Rf.length cr)).setCell (p := ⟨w.heap.size, 4, none⟩) (fun _ => rfl) (.slice aok Kp.length ck)).setCell (p := ⟨w.heap.size, 5, none⟩) (fun _ => rfl) (.bool st)).setCell (p := ⟨w.heap.size, 6, none⟩) (fun _ => rfl) (.slice none 0 0)
    rw [HSE.out]
    exact ⟨HF2.out.trans f (fun i hi e => by omega), _, _, rfl, HVR.out _ f, HVK.out _ f⟩
end Go.Proofs.YtamonbkhpbdojaaDoor
