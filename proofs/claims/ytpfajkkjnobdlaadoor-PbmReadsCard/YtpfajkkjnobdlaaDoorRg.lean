/- 'Read': a panic becomes the error. -/
import Derived.Defers
import Derived.Test.YtpfajkkjnobdlaaDoorRf
namespace Go.Proofs.YtpfajkkjnobdlaaDoor
set_option maxRecDepth 100000
open Go.RowKit

theorem caught_none (p : Addr) (w : World) :
    CallsD Tryd.prog 28 #[.pointer (some p)] .returning w fun e u' w' => e = .returned (.tuple #[]) ∧ u' = .returning ∧ w' = w := by
  refine callsD_of_wpS Tryd.func28 rfl fun c₀ cs hu => ?_
  apply wpS_seq
  apply wpS_region
  simp [wpOpsS, go_sem, recoverD, hu, Tryd.ntmps28, Exit.thenS]
  apply wpS_seq
  apply wpS_region
  simp [wpOpsS, go_sem, Array.replicate, Exit.thenS]
  refine wpS_cond (t := false) (by simp [Act.eval]) ?_
  simp only [Bool.false_eq_true, if_false]
  refine wpS_of_wp (wp_skip ?_)
  cases c₀
  simp_all [bodyPostS, results, Tryd.results28]

theorem caught_p (p : Addr) (x : Int) (er : Int) (w : World) (hc : w.cell? p = some (.int .i64 x)) (hz : w.frozen? p = false) :
    CallsD Tryd.prog 28 #[.pointer (some p)] (.panicking [{ v := .iface 28 (.int .i64 er), recovered := false }]) w fun e u' w' => e = .returned (.tuple #[]) ∧ u' = .panicking [{ v := .iface 28 (.int .i64 er), recovered := true }] ∧ w' = w.setCell p (.int .i64 er) := by
  have hta : ∀ w, Sem.run Tryd.prog (Instr.typeAssert (.iface 28 (.int .i64 er)) 20 28 false) w = .ok (.int .i64 er) w := fun w => by kernel_rfl
  refine callsD_of_wpS Tryd.func28 rfl fun c₀ cs hu => ?_
  apply wpS_seq
  apply wpS_region
  simp [wpOpsS, go_sem, recoverD, hu, Tryd.ntmps28, Exit.thenS]
  apply wpS_seq
  apply wpS_region
  simp [wpOpsS, go_sem, Array.replicate, Exit.thenS]
  refine wpS_cond (t := true) (by simp [Act.eval]) ?_
  simp only [if_true]
  apply wpS_region
  simp [wpOpsS, go_sem, hc, hz, hta, bodyPostS, results, Tryd.results28]

theorem allocs2 (w : World) (o0 o1 : Obj) : ((w.alloc o0).alloc o1).heap.size = w.heap.size + 2 ∧ ((w.alloc o0).alloc o1).heap[w.heap.size]? = some o0 ∧ ((w.alloc o0).alloc o1).heap[w.heap.size + 1]? = some o1 ∧ Fr (fun _ => False) w ((w.alloc o0).alloc o1) := by
  have h1 : (w.alloc o0).heap.size = w.heap.size + 1 := by simp
  refine ⟨by simp, ?_, ?_, ((Fr.refl _ _).alloc _).alloc _⟩
  · rw [((Fr.refl (fun _ => False) (w.alloc o0)).alloc o1).block _ (by omega) (fun h => h)]; exact heap_alloc_new _ _
  · rw [← h1]; exact heap_alloc_new _ _

/-- While 'Read' runs: the result's block, the error's block. -/
structure Rd (w0 w : World) (xs : Array Value) (er : Int) : Prop where
  b0 : w.heap[w0.heap.size]? = some (.cells xs 25 (0, 0))
  b1 : w.heap[w0.heap.size + 1]? = some (.cells #[.int .i64 er] 28 (0, 0))
  fr : Fr (fun _ => False) w0 w
theorem Rd.kept {w0 w w' : World} {xs : Array Value} {er : Int} {S : Nat → Prop} (h : Rd w0 w xs er) (f : Fr S w w') (hs : ∀ k, S k → w0.heap.size + 2 ≤ k) : Rd w0 w' xs er :=
  ⟨by rw [f.block _ (lt_of_block h.b0) (fun e => by have := hs _ e; omega)]; exact h.b0, by rw [f.block _ (lt_of_block h.b1) (fun e => by have := hs _ e; omega)]; exact h.b1, h.fr.trans f (fun i hi e => by have := hs i e; omega)⟩
theorem Rd.set0 {w0 w : World} {xs : Array Value} {er : Int} (h : Rd w0 w xs er) (j : Nat) (u : Value) : Rd w0 (w.setCell ⟨w0.heap.size, j, none⟩ u) (xs.setIfInBounds j u) er := by
  refine ⟨?_, ?_, h.fr.setCell (fun hh => by simp at hh) u⟩
  · simp [World.setCell, Array.getElem?_modify, h.b0]
  · simp [World.setCell, Array.getElem?_modify, h.b1]
theorem Rd.set1 {w0 w : World} {xs : Array Value} {er : Int} (h : Rd w0 w xs er) (u : Int) : Rd w0 (w.setCell ⟨w0.heap.size + 1, 0, none⟩ (.int .i64 u)) xs u := by
  refine ⟨?_, ?_, h.fr.setCell (fun hh => by simp at hh; omega) _⟩
  · simp [World.setCell, Array.getElem?_modify, h.b0]
  · simp [World.setCell, Array.getElem?_modify, h.b1]
theorem Rd.cell0 {w0 w : World} {xs : Array Value} {er : Int} (h : Rd w0 w xs er) (j : Nat) : w.cell? ⟨w0.heap.size, j, none⟩ = xs[j]? := by simp [World.cell?, h.b0]
theorem Rd.cell1 {w0 w : World} {xs : Array Value} {er : Int} (h : Rd w0 w xs er) : w.cell? ⟨w0.heap.size + 1, 0, none⟩ = some (.int .i64 er) := by simp [World.cell?, h.b1]
theorem Rd.froz0 {w0 w : World} {xs : Array Value} {er : Int} (h : Rd w0 w xs er) (j : Nat) : w.frozen? ⟨w0.heap.size, j, none⟩ = false := by simp [World.frozen?, h.b0]
theorem Rd.froz1 {w0 w : World} {xs : Array Value} {er : Int} (h : Rd w0 w xs er) : w.frozen? ⟨w0.heap.size + 1, 0, none⟩ = false := by simp [World.frozen?, h.b1]

def zeroB : Array Value := #[.int .i64 0, .int .i64 0, .slice none 0 0]
/-- What 'Read' answers. -/
def ReadQ (w : World) (R : Except Nat Bmp) (e : Ending) (w' : World) : Prop :=
  Fr (fun _ => False) w w' ∧ match R with
  | .error er => e = .returned (.tuple #[.agg zeroB, .int .i64 (er : Int)])
  | .ok x => ∃ v, e = .returned (.tuple #[v, .int .i64 0]) ∧ BmpR w x.1 x.2.1 x.2.2 v w'

set_option linter.unusedSimpArgs false in
set_option maxHeartbeats 2000000 in
theorem read_any (ao : Option Addr) (cap : Nat) (l : List Nat) (w : World) (hv : l ≠ [] → ∃ b off, ao = some ⟨b, off, none⟩ ∧ ∀ j, j < l.length → w.cell? ⟨b, off + j, none⟩ = some (.int .u8 (l[j]?.getD 0 : Nat))) (hlim : l.length ≤ 140737488355328) (hb : ∀ x ∈ l, x < 256) (hcap : l.length ≤ cap) :
    Calls Tryd.prog 14 #[.slice ao l.length cap] w (ReadQ w (readS l)) := by
  have hmf : ∀ (fn : Fn) (first cap : Array Value) (w : World), (Instr.makeFunc fn first cap).run Tryd.prog w = .ok (.func fn first cap) w := fun _ _ _ _ => rfl
  have HRD : Hid (Rd w ((w.alloc (.cells #[.int .i64 0, .int .i64 0, .slice none 0 0] 25)).alloc (.cells #[.int .i64 0] 28)) zeroB 0) := by
    obtain ⟨hz, hb0, hb1, hk⟩ := allocs2 w (.cells #[.int .i64 0, .int .i64 0, .slice none 0 0] 25) (.cells #[.int .i64 0] 28)
    exact ⟨hb0, hb1, hk⟩
  have HSZ : Hid (((w.alloc (.cells #[.int .i64 0, .int .i64 0, .slice none 0 0] 25)).alloc (.cells #[.int .i64 0] 28)).heap.size = w.heap.size + 2) := (allocs2 w _ _).1
  have HC : Hid (l.length ≤ cap) := hcap
  have HL : Hid (l.length ≤ 140737488355328) := hlim
  have HB : Hid (∀ x ∈ l, x < 256) := hb
  have HV : Hid (l ≠ [] → ∃ b off, ao = some ⟨b, off, none⟩ ∧ ∀ j, j < l.length → w.cell? ⟨b, off + j, none⟩ = some (.int .u8 (l[j]?.getD 0 : Nat))) := hv
  clear hcap hlim hb hv
  go_enter_defers Tryd.func14, Tryd.ntmps14
  generalize hw2 : (w.alloc (.cells #[.int .i64 0, .int .i64 0, .slice none 0 0] 25)).alloc (.cells #[.int .i64 0] 28) = w2 at HRD HSZ
  have HW2 : Hid ((w.alloc (.cells #[.int .i64 0, .int .i64 0, .slice none 0 0] 25)).alloc (.cells #[.int .i64 0] 28) = w2) := hw2
  clear hw2
  go_wp2_with fail
  rw [HW2.out]
  have HR3 : Hid (Rd w (w2.alloc (.cells #[.slice ao l.length cap, .int .i64 0] 58)) zeroB 0) := HRD.out.kept ((Fr.refl (fun _ => False) w2).alloc _) (fun _ h => h.elim)
  have HS3 : Hid (SR (w2.alloc (.cells #[.slice ao l.length cap, .int .i64 0] 58)) (w.heap.size + 1 + 1) ao cap l 0) := by
    have hB := heap_alloc_new w2 (.cells #[.slice ao l.length cap, .int .i64 0] 58)
    rw [show w2.heap.size = w.heap.size + 1 + 1 from by have := HSZ.out; omega] at hB
    refine ⟨hB, fun hne => ?_, Nat.zero_le _, HL.out, HB.out⟩
    obtain ⟨b, off, e, hc⟩ := HV.out hne
    exact ⟨b, off, e, fun j hj => HR3.out.fr.cellv (hc j hj) (fun h => h)⟩
  generalize w2.alloc (.cells #[.slice ao l.length cap, .int .i64 0] 58) = w3 at *
  refine (file_any (w.heap.size + 1 + 1) ao cap l w3 HS3.out HC.out).mono ?_
  rintro e w4 ⟨hf4, hq⟩
  have HR4 : Hid (Rd w w4 zeroB 0) := HR3.out.kept hf4 (fun k e => by omega)
  rcases hR : readS l with er | x
  · rw [hR] at hq
    simp only [FileQ] at hq
    subst hq
    refine leaves_cons (f := 28) (args := #[.pointer (some ⟨w.heap.size + 1, 0, none⟩)]) (by simp) (by simp [go_sem]) ?_
    refine (caught_p _ 0 _ _ HR4.out.cell1 HR4.out.froz1).mono ?_
    rintro e u' w5 ⟨rfl, rfl, rfl⟩
    have HR5 : Hid (Rd w (w4.setCell ⟨w.heap.size + 1, 0, none⟩ (.int .i64 (er : Int))) zeroB er) := HR4.out.set1 _
    generalize w4.setCell ⟨w.heap.size + 1, 0, none⟩ (.int .i64 (er : Int)) = w5 at *
    have t0 := HR5.out.cell0 0
    have t1 := HR5.out.cell0 1
    have t2 := HR5.out.cell0 2
    have t7 := HR5.out.cell1
    simp [zeroB] at t0 t1 t2
    simp [Leaves, settle, results, Tryd.results14, go_sem, t0, t1, t2, t7]
    exact ⟨HR5.out.fr, rfl⟩
  · obtain ⟨W, H, P⟩ := x
    rw [hR] at hq
    obtain ⟨v, he, g, cp, hv, ho, hg, z1, z2, z3⟩ := hq
    simp only at hv ho z1 z2 z3
    rw [he, hv]
    have HO : Hid (w4.ownsRow 0 50 1 (.slice (some ⟨g, 0, none⟩) (H * stride W) cp) (H * stride W) (wordCells (render W H P))) := ho
    have HG : Hid (w.heap.size + 2 ≤ g) := by have := lt_of_block HR3.out.b1; have := HS3.out.lt; show _ ≤ _; omega
    have HZ : Hid (1 ≤ W ∧ 1 ≤ H ∧ W * H ≤ 1048576) := ⟨z1, z2, z3⟩
    obtain ⟨NW, hNW⟩ : ∃ NW, NW = H * stride W := ⟨_, rfl⟩
    rw [← hNW] at HO ⊢
    have HNW : Hid (H * stride W = NW) := hNW.symm
    have c0 : w4.cell? ⟨w.heap.size, 0, none⟩ = some (.int .i64 0) := HR4.out.cell0 0
    have c1 : w4.cell? ⟨w.heap.size, 1, none⟩ = some (.int .i64 0) := HR4.out.cell0 1
    have c2 : w4.cell? ⟨w.heap.size, 2, none⟩ = some (.slice none 0 0) := HR4.out.cell0 2
    have c7 := HR4.out.cell1
    have g0 := fun j => HR4.out.froz0 j
    have g1 := HR4.out.froz1
    clear hNW ho hg z1 z2 z3 hv he hf4 HR3 HS3 HRD HW2
    go_wp2_with fail
    have HR7 : Hid (Rd w ((((w4.setCell ⟨w.heap.size, 0, none⟩ (.int .i64 (W : Int))).setCell ⟨w.heap.size, 1, none⟩ (.int .i64 (H : Int))).setCell ⟨w.heap.size, 2, none⟩ (.slice (some ⟨g, 0, none⟩) NW cp)).setCell ⟨w.heap.size + 1, 0, none⟩ (.int .i64 0)) #[.int .i64 (W : Int), .int .i64 (H : Int), .slice (some ⟨g, 0, none⟩) NW cp] 0) := (((HR4.out.set0 0 _).set0 1 _).set0 2 _).set1 0
    have HF7 : Hid (Fr (fun k => k = w.heap.size ∨ k = w.heap.size + 1) w4 ((((w4.setCell ⟨w.heap.size, 0, none⟩ (.int .i64 (W : Int))).setCell ⟨w.heap.size, 1, none⟩ (.int .i64 (H : Int))).setCell ⟨w.heap.size, 2, none⟩ (.slice (some ⟨g, 0, none⟩) NW cp)).setCell ⟨w.heap.size + 1, 0, none⟩ (.int .i64 0))) := ((((Fr.refl (fun k => k = w.heap.size ∨ k = w.heap.size + 1) w4).setCell (fun _ => Or.inl rfl) _).setCell (fun _ => Or.inl rfl) _).setCell (fun _ => Or.inl rfl) _).setCell (fun _ => Or.inr rfl) _
    generalize (((w4.setCell ⟨w.heap.size, 0, none⟩ (.int .i64 (W : Int))).setCell ⟨w.heap.size, 1, none⟩ (.int .i64 (H : Int))).setCell ⟨w.heap.size, 2, none⟩ (.slice (some ⟨g, 0, none⟩) NW cp)).setCell ⟨w.heap.size + 1, 0, none⟩ (.int .i64 0) = w7 at *
    refine leaves_cons (f := 28) (args := #[.pointer (some ⟨w.heap.size + 1, 0, none⟩)]) (by simp) (by simp [go_sem]) ?_
    refine (caught_none _ _).mono ?_
    rintro e u' w8 ⟨rfl, rfl, hw8⟩
    rw [hw8]
    clear hw8 c0 c1 c2 c7 g0 g1
    have t0 := HR7.out.cell0 0
    have t1 := HR7.out.cell0 1
    have t2 := HR7.out.cell0 2
    have t7 := HR7.out.cell1
    simp at t0 t1 t2
    simp [Leaves, settle, results, Tryd.results14, go_sem, t0, t1, t2, t7]
    rw [hR]
    refine ⟨HR7.out.fr, _, rfl, g, cp, by rw [HNW.out], ?_, by have := HG.out; omega, HZ.out.1, HZ.out.2.1, HZ.out.2.2⟩
    rw [HNW.out]
    exact row_kept HO.out HF7.out (fun k hk e => by simp [Value.ownBlock] at hk; have := HG.out; omega)
end Go.Proofs.YtpfajkkjnobdlaaDoor
