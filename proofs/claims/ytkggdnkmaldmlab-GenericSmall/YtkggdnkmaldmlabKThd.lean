/- Package generic: through, by a decoder. -/
import Derived.Test.YtkggdnkmaldmlabK7
import Derived.Test.YtkggdnkmaldmlabKRpd
import Derived.Test.YtkggdnkmaldmlabKPxd
import Derived.Defers
import Derived.Recover
import Derived.Laws.Pointers
namespace Go.Proofs.Ytkggdnkmaldmlab
open Go.RowKit

theorem caught_d (p : Addr) (w : World) :
    CallsD Try.prog 47 #[.pointer (some p)] .returning w fun e u' w' => e = .returned (.tuple #[]) ∧ u' = .returning ∧ w' = w := by
  refine callsD_of_wpS Try.func47 rfl fun c₀ cs hu => ?_
  apply wpS_seq
  apply wpS_region
  simp [wpOpsS, go_sem, recoverD, hu, Try.ntmps47, Exit.thenS]
  apply wpS_seq
  apply wpS_region
  simp [wpOpsS, go_sem, Array.replicate, Exit.thenS]
  refine wpS_cond (t := false) (by simp [Act.eval]) ?_
  simp only [Bool.false_eq_true, if_false]
  refine wpS_of_wp (wp_skip ?_)
  cases c₀
  simp_all [bodyPostS, results, Try.results47]

set_option maxRecDepth 100000 in
set_option maxHeartbeats 4000000 in
theorem through_d (pa : Option Addr) (D : Who 86 (.agg #[.pointer pa])) (base t W H g cap : Nat) (skip : Bool) (P : Pxs) (w : World) (s : D.S)
    (hD : D.At w s) (hl : H * (W + 1) ≤ D.left (D.abs s)) (hr : RowAt w g cap W H P) (hg : ¬ D.own s g) (hmay : ∀ x y, x < W → y < H → D.may (P x y).toNat) (ht : t < 4) (h1 : 1 ≤ W) (h2 : 1 ≤ H) (h3 : W * H ≤ 1048576) (hb : base ≤ 131072) :
    Calls Try.prog 30 #[.agg #[.pointer pa], procV base t skip, .agg #[.int .i64 W, .int .i64 H, .slice (some ⟨g, 0, none⟩) (H * stride W) cap]] w fun e w' => e = .returned (.int .i64 0) ∧ ∃ s', D.At w' s' ∧ D.abs s' = (thrW D.ask base t W skip H (D.abs s, P)).1 ∧
      RowAt w' g cap W H (thrW D.ask base t W skip H (D.abs s, P)).2 ∧ Fr (fun k => D.own s k ∨ k = g) w w' ∧ (∀ k, D.own s' k → D.own s k ∨ w.heap.size ≤ k) := by
  obtain ⟨f1, f2, f3⟩ := size_facts h1 h2 h3
  have hS : 0 < stride W := stride_pos (by omega)
  have hS2 : stride W ≤ 1048576 := by unfold stride; omega
  obtain ⟨i0, hi, hz0, hz1, hz2⟩ := info_parts Try.info98
  have hmf : ∀ (fn : Fn) (first cap : Array Value) (w : World), (Instr.makeFunc fn first cap).run Try.prog w = .ok (.func fn first cap) w := fun _ _ _ _ => rfl
  have hdiv : Int.tdiv ((H * stride W : Nat) : Int) (H : Int) = (stride W : Int) := by
    rw [Int.tdiv_eq_ediv_of_nonneg (by omega), Int.natCast_mul, Int.mul_ediv_cancel_left _ (by omega)]
  have hH0 : ((H : Int) == 0) = false := by rw [beq_eq_false_iff_ne]; omega
  obtain ⟨hcap, hcm⟩ : H * stride W ≤ cap ∧ cap ≤ maxLen := by obtain ⟨_, _, a, b, _, _⟩ := hr.cur; exact ⟨a, b⟩
  unfold procV
  have HK : Hid (D.At w s ∧ H * (W + 1) ≤ D.left (D.abs s) ∧ RowAt w g cap W H P ∧ ¬ D.own s g ∧ (∀ x y, x < W → y < H → D.may (P x y).toNat) ∧ t < 4 ∧ W * H ≤ 1048576) := ⟨hD, hl, hr, hg, hmay, ht, h3⟩
  have hgl := hr.lt
  clear hD hl hr hg hmay h3
  have HF4 : Hid (Fr (fun _ => False) w ((((w.alloc (.cells #[.pointer pa] 77)).alloc (.cells #[.int .i64 base, .int .i64 t, .int .i64 (sizeT t : Nat), .int .i64 ((2 ^ cntS t 2 - 1 : Nat) : Int), .bool skip] 62)).alloc (.cells #[.int .i64 W, .int .i64 H, .slice (some ⟨g, 0, none⟩) (H * stride W) cap] 24)).alloc (.cells #[.int .i64 0] 27))) := ((((Fr.refl _ _).alloc _).alloc _).alloc _).alloc _
  have HB4 : Hid (∀ w', Fr (fun k => D.own s k ∨ k = g) ((((w.alloc (.cells #[.pointer pa] 77)).alloc (.cells #[.int .i64 base, .int .i64 t, .int .i64 (sizeT t : Nat), .int .i64 ((2 ^ cntS t 2 - 1 : Nat) : Int), .bool skip] 62)).alloc (.cells #[.int .i64 W, .int .i64 H, .slice (some ⟨g, 0, none⟩) (H * stride W) cap] 24)).alloc (.cells #[.int .i64 0] 27)) w' →
      w'.heap[w.heap.size]? = some (.cells #[.pointer pa] 77 (0, 0)) ∧ w'.heap[w.heap.size + 1]? = some (.cells #[.int .i64 base, .int .i64 t, .int .i64 (sizeT t : Nat), .int .i64 ((2 ^ cntS t 2 - 1 : Nat) : Int), .bool skip] 62 (0, 0)) ∧ w'.heap[w.heap.size + 1 + 1]? = some (.cells #[.int .i64 W, .int .i64 H, .slice (some ⟨g, 0, none⟩) (H * stride W) cap] 24 (0, 0)) ∧ w'.heap[w.heap.size + 1 + 1 + 1]? = some (.cells #[.int .i64 0] 27 (0, 0))) := fun w' f => by
    have hno : ∀ k, w.heap.size ≤ k → ¬ (D.own s k ∨ k = g) := fun k hk e => by
      rcases e with e | e
      · have := D.lt HK.out.1 e; omega
      · omega
    have q4 := heap_alloc_new (((w.alloc (.cells #[.pointer pa] 77)).alloc (.cells #[.int .i64 base, .int .i64 t, .int .i64 (sizeT t : Nat), .int .i64 ((2 ^ cntS t 2 - 1 : Nat) : Int), .bool skip] 62)).alloc (.cells #[.int .i64 W, .int .i64 H, .slice (some ⟨g, 0, none⟩) (H * stride W) cap] 24)) (.cells #[.int .i64 0] 27)
    have q3 := heap_alloc_new ((w.alloc (.cells #[.pointer pa] 77)).alloc (.cells #[.int .i64 base, .int .i64 t, .int .i64 (sizeT t : Nat), .int .i64 ((2 ^ cntS t 2 - 1 : Nat) : Int), .bool skip] 62)) (.cells #[.int .i64 W, .int .i64 H, .slice (some ⟨g, 0, none⟩) (H * stride W) cap] 24)
    have q2 := heap_alloc_new (w.alloc (.cells #[.pointer pa] 77)) (.cells #[.int .i64 base, .int .i64 t, .int .i64 (sizeT t : Nat), .int .i64 ((2 ^ cntS t 2 - 1 : Nat) : Int), .bool skip] 62)
    have q1 := heap_alloc_new w (.cells #[.pointer pa] 77)
    simp only [World.size_alloc] at q1 q2 q3 q4
    refine ⟨?_, ?_, ?_, ?_⟩
    · rw [f.block _ (by simp only [World.size_alloc]; omega) (hno _ (by omega)), Below.heap_alloc _ _ _ (by simp only [World.size_alloc]; omega), Below.heap_alloc _ _ _ (by simp only [World.size_alloc]; omega), Below.heap_alloc _ _ _ (by simp only [World.size_alloc]; omega)]; exact q1
    · rw [f.block _ (by simp only [World.size_alloc]; omega) (hno _ (by omega)), Below.heap_alloc _ _ _ (by simp only [World.size_alloc]; omega), Below.heap_alloc _ _ _ (by simp only [World.size_alloc]; omega)]; exact q2
    · rw [f.block _ (by simp only [World.size_alloc]; omega) (hno _ (by omega)), Below.heap_alloc _ _ _ (by simp only [World.size_alloc]; omega)]; exact q3
    · rw [f.block _ (by simp only [World.size_alloc]; omega) (hno _ (by omega))]; exact q4
  have HS4 : Hid (((((w.alloc (.cells #[.pointer pa] 77)).alloc (.cells #[.int .i64 base, .int .i64 t, .int .i64 (sizeT t : Nat), .int .i64 ((2 ^ cntS t 2 - 1 : Nat) : Int), .bool skip] 62)).alloc (.cells #[.int .i64 W, .int .i64 H, .slice (some ⟨g, 0, none⟩) (H * stride W) cap] 24)).alloc (.cells #[.int .i64 0] 27)).heap.size = w.heap.size + 1 + 1 + 1 + 1) := by show _ = _; simp only [World.size_alloc]
  have HFin : Hid (∀ (w5 : World), w5.ownsRow 0 67 1 (.slice (some ⟨w.heap.size + 1 + 1 + 1 + 1, 0, none⟩) (stride W) (stride W)) (stride W) (List.replicate (stride W) (.int .u64 0)) → Fr (fun _ => False) ((((w.alloc (.cells #[.pointer pa] 77)).alloc (.cells #[.int .i64 base, .int .i64 t, .int .i64 (sizeT t : Nat), .int .i64 ((2 ^ cntS t 2 - 1 : Nat) : Int), .bool skip] 62)).alloc (.cells #[.int .i64 W, .int .i64 H, .slice (some ⟨g, 0, none⟩) (H * stride W) cap] 24)).alloc (.cells #[.int .i64 0] 27)) w5 → ThAt D base t W H g cap skip P s w5 0 s (.slice (some ⟨w.heap.size + 1 + 1 + 1 + 1, 0, none⟩) (stride W) (stride W)) w5) := fun w5 ho f5 => by
    have f : Fr (fun _ => False) w w5 := HF4.out.trans f5 (fun _ _ h => h)
    refine ⟨D.kept HK.out.1 f (fun _ _ h => h), rfl, HK.out.2.2.1.kept f (fun h => h), Fr.refl _ _, fun k hk => Or.inl hk, by rw [Nat.sub_zero]; exact HK.out.2.1, fun w' f' => ?_⟩
    show Seen w' _ (upL W P 0)
    rw [upL_first]
    have ho' := row_kept ho f' (fun k hk e => by
      simp [Value.ownBlock] at hk
      have := D.lt HK.out.1 e
      omega)
    have := Seen.of_row (w := w') (base := 0) (v := .slice (some ⟨w.heap.size + 1 + 1 + 1 + 1, 0, none⟩) (stride W) (stride W)) (l := List.replicate (stride W) 0) (by rw [List.length_replicate, wordCells_replicate]; exact ho') (by rw [List.length_replicate]; omega)
    exact this
  have hZ := sizeT_le t ht
  have HCX : Hid (∀ (wX : World) (Pn : Pxs) (n : Nat), RowAt wX g cap W H Pn → n < H → Calls Try.prog 45 #[.agg #[.int .i64 base, .int .i64 t, .int .i64 (sizeT t : Nat), .int .i64 ((2 ^ cntS t 2 - 1 : Nat) : Int), .bool skip], .agg #[.int .i64 W, .int .i64 H, .slice (some ⟨g, 0, none⟩) (H * stride W) cap], .int .i64 n] wX fun e w' => ∃ gi, e = .returned (.slice (some ⟨gi, 0, none⟩) W W) ∧ IntRow w' gi W (fun x => cxJ W Pn t x n) ∧ wX.heap.size ≤ gi ∧ Fr (fun _ => False) wX w') := fun wX Pn n a b => contexts_any base t W H n g cap skip Pn wX a ht b h1 HK.out.2.2.2.2.2.2
  have HPX : Hid (∀ (Pn : Pxs) (n rc : Nat) (sX : D.S) (wX : World), n < H → (∀ x, x < W → D.may (Pn x n).toNat) → D.At wX sX → W ≤ D.left (D.abs sX) → RowAt wX g cap W H Pn → ¬ D.own sX g → ∀ (w6 : World) (gi : Nat), Fr (fun _ => False) wX w6 → IntRow w6 gi W (fun x => cxJ W Pn t x n) → wX.heap.size ≤ gi →
      Calls Try.prog 44 #[.agg #[.int .i64 base, .int .i64 t, .int .i64 (sizeT t : Nat), .int .i64 ((2 ^ cntS t 2 - 1 : Nat) : Int), .bool skip], .iface 77 (.agg #[.pointer pa]), .slice (some ⟨g, n * stride W, none⟩) (stride W) rc, .slice (some ⟨gi, 0, none⟩) W W] w6 fun e w' => e = .returned (.tuple #[]) ∧ ∃ s', D.At w' s' ∧ D.abs s' = (pixW D.ask base t W n W (D.abs sX, Pn)).1 ∧
        RowAt w' g cap W H (pixW D.ask base t W n W (D.abs sX, Pn)).2 ∧ Fr (fun k => D.own sX k ∨ k = g) w6 w' ∧ (∀ k, D.own s' k → D.own sX k ∨ w6.heap.size ≤ k)) := fun Pn n rc sX wX hn hm hat hlf hrw hno w6 gi f6 hi6 hg6 =>
    pixels_d _ D base t W H n g cap rc gi skip Pn w6 sX (D.kept hat f6 (fun _ _ h => h)) hlf (hrw.kept f6 (fun h => h)) hno hi6 (fun e => by have := D.lt hat e; omega) (by have := hrw.lt; omega) hm ht hn h1 h2 HK.out.2.2.2.2.2.2 hb
  have HRX : Hid (∀ (Pn : Pxs) (n rc : Nat) (sX : D.S) (wX : World) (up : Value), n < H → D.At wX sX → 0 < D.left (D.abs sX) → RowAt wX g cap W H Pn → ¬ D.own sX g → (∀ w', Fr (fun k => D.own sX k) wX w' → Seen w' up (upL W Pn n)) →
      Calls Try.prog 43 #[.agg #[.int .i64 base, .int .i64 t, .int .i64 (sizeT t : Nat), .int .i64 ((2 ^ cntS t 2 - 1 : Nat) : Int), .bool skip], .iface 77 (.agg #[.pointer pa]), .slice (some ⟨g, n * stride W, none⟩) (stride W) rc, up] wX fun e w' => e = .returned (.bool (decide ((D.ask (D.abs sX) ((base + sizeT t : Nat) : Int) (sameR W Pn n).toNat).1 ≠ 0))) ∧ ∃ s', D.At w' s' ∧ D.abs s' = (D.ask (D.abs sX) ((base + sizeT t : Nat) : Int) (sameR W Pn n).toNat).2 ∧
        RowAt w' g cap W H (if (D.ask (D.abs sX) ((base + sizeT t : Nat) : Int) (sameR W Pn n).toNat).1 = 0 then Pn else copyR W Pn n) ∧ Fr (fun k => D.own sX k ∨ k = g) wX w' ∧ (∀ k, D.own s' k → D.own sX k ∨ wX.heap.size ≤ k)) := fun Pn n rc sX wX up hn hat hlf hrw hno hup =>
    repeats_d _ D base t W H n g cap rc skip up Pn wX sX hat hlf hrw hno hup ht hn h1 h2 HK.out.2.2.2.2.2.2 hb
  have HNX : Hid (∀ {w0 : World} {n : Nat} {sN : D.S} {up : Value} {wr : World}, ThAt D base t W H g cap skip P s w0 n sN up wr → g < w0.heap.size → n < H → ∀ (s1 : D.S) (w1 : World), D.At w1 s1 → D.abs s1 = (rowW D.ask base t W skip n (D.abs sN, (thrW D.ask base t W skip n (D.abs s, P)).2)).1 →
      RowAt w1 g cap W H (rowW D.ask base t W skip n (D.abs sN, (thrW D.ask base t W skip n (D.abs s, P)).2)).2 → Fr (fun k => D.own sN k ∨ k = g) wr w1 → (∀ k, D.own s1 k → D.own sN k ∨ wr.heap.size ≤ k) → ∀ rc, ThAt D base t W H g cap skip P s w0 (n + 1) s1 (.slice (some ⟨g, n * stride W, none⟩) (stride W) rc) w1) := fun h hl hn s1 w1 a b c d e rc => h.next HK.out.2.2.2.1 hl hn hS2 a b c d e rc
  have HNN : Hid (∀ n, n < H → n * stride W + stride W ≤ H * stride W) := fun n hn => by
    have := Nat.mul_le_mul_right (stride W) (show n + 1 ≤ H by omega)
    rw [Nat.add_mul, Nat.one_mul] at this; exact this
  generalize stride W = S at *
  generalize H * S = N at *
  go_enter_defers Try.func30, Try.ntmps30
  go_wp2_with (first | (at_make; refine wpList_make_full _ rfl _ _ 22 rfl (w.heap.size + 1 + 1 + 1 + 1) 67 i0 (.int .u64 0) 1 Try.underlying22 hi hz0 hz1 .i64 .i64 _ _ S rfl rfl ?_ ?_ ?_ ?_ ?_ ?_))
  · omega
  · omega
  · rw [hz2]; omega
  · unfold maxLen; omega
  · exact Nat.le_of_eq HS4.out.symm
  · intro w5 hown hgrow
    have hf5 := (Fr.refl (fun _ => False) _).grown hgrow (fun _ e _ => by cases e)
    have ho5 : w5.ownsRow 0 67 1 (.slice (some ⟨w.heap.size + 1 + 1 + 1 + 1, 0, none⟩) S S) S (List.replicate S (.int .u64 0)) := by
      rw [← toList_madeCells_one]; exact ownsRow_base hown (fun _ _ => Nat.zero_le _)
    have HT0 : Hid (ThAt D base t W H g cap skip P s w5 0 s (.slice (some ⟨w.heap.size + 1 + 1 + 1 + 1, 0, none⟩) S S) w5) := HFin.out w5 ho5 hf5
    have HF5 : Hid (Fr (fun _ => False) w w5) := HF4.out.trans hf5 (fun _ _ h => h)
    have HB5 : Hid (∀ w', Fr (fun k => D.own s k ∨ k = g) w5 w' → w'.heap[w.heap.size]? = some (.cells #[.pointer pa] 77 (0, 0)) ∧ w'.heap[w.heap.size + 1]? = some (.cells #[.int .i64 base, .int .i64 t, .int .i64 (sizeT t : Nat), .int .i64 ((2 ^ cntS t 2 - 1 : Nat) : Int), .bool skip] 62 (0, 0)) ∧ w'.heap[w.heap.size + 1 + 1]? = some (.cells #[.int .i64 W, .int .i64 H, .slice (some ⟨g, 0, none⟩) N cap] 24 (0, 0)) ∧ w'.heap[w.heap.size + 1 + 1 + 1]? = some (.cells #[.int .i64 0] 27 (0, 0))) := fun w' f => HB4.out w' ((hf5.mono (fun _ _ h => h.elim)).trans f (fun _ _ h => h))
    clear hown hgrow hf5 ho5 HFin HF4 HB4 HS4 hi hz0 hz1 hz2
    obtain ⟨b0, b1, b2, b3⟩ := HB5.out w5 (Fr.refl _ _)
    obtain ⟨q0, q1, q2, qf⟩ := cell_of_three b2
    clear b0 b1 b2 b3
    go_wp2_with fail
    have hg5 : g < w5.heap.size := by have := HF5.out.size; omega
    clear q0 q1 q2 qf
    go_loopw [8, 9, 10, 22] (fun up _ _ j wr => ∃ (n : Nat) (sN : D.S), n ≤ H ∧ j = .int .i64 n ∧ ThAt D base t W H g cap skip P s w5 n sN up wr) (fun _ _ _ j _ => H - (intOf j).toNat)
    case atStart => exact ⟨0, s, Nat.zero_le _, rfl, HT0.out⟩
    case round =>
      obtain ⟨n, sN, hn, rfl, hth⟩ := hrel
      have HTh := (show Hid (ThAt D base t W H g cap skip P s w5 n sN u8 wr) from hth)
      clear hth
      by_cases hlt : n < H
      · have hth := HTh.out
        obtain ⟨Pn, HPn⟩ : ∃ Pn, Hid (Pn = (thrW D.ask base t W skip n (D.abs s, P)).2) := ⟨_, rfl⟩
        have hrow := hth.row
        have hup := hth.up
        have hnx := HNX.out hth hg5 hlt
        rw [← HPn.out] at hrow hup hnx
        have hmayn : ∀ x, x < W → D.may (Pn x n).toNat := fun x hx => by
          rw [HPn.out, thrW_other _ _ _ _ _ _ _ _ _ (Or.inl (Nat.le_refl _))]; exact HK.out.2.2.2.2.1 x n hx hlt
        have hog : ¬ D.own sN g := fun e => by
          rcases hth.own g e with a | a
          · exact HK.out.2.2.2.1 a
          · omega
        have hleft : W + 1 ≤ D.left (D.abs sN) := by
          have h5 := hth.left
          have : 1 * (W + 1) ≤ (H - n) * (W + 1) := Nat.mul_le_mul_right _ (by omega)
          omega
        have hnn := HNN.out n hlt
        obtain ⟨A, hA⟩ : ∃ A, A = n * S := ⟨_, rfl⟩
        have hA1 : (n : Int) * (S : Int) = (A : Int) := by rw [hA]; push_cast; rfl
        have hE1 : ((n : Int) + 1) * (S : Int) = ((A + S : Nat) : Int) := by rw [Int.add_mul, hA1]; omega
        have HPX1 := HPX.out Pn n (cap - A)
        have HRX1 := HRX.out Pn n (cap - A)
        have HNX1 := fun s1 w1 a b c d e => hnx s1 w1 a b c d e (cap - A)
        have HCX1 := fun wX a => HCX.out wX Pn n a hlt
        rw [← hA] at hnn HPX1 HRX1
        simp only [← hA] at HNX1
        have hcA : ¬ cap = A := by omega
        have HSX : Hid (∀ w', Fr (fun k => D.own sN k ∨ k = g) wr w' → w'.cell? ⟨w.heap.size, 0, none⟩ = some (.pointer pa) ∧ w'.cell? ⟨w.heap.size + 1, 0, none⟩ = some (.int .i64 base) ∧ w'.cell? ⟨w.heap.size + 1, 1, none⟩ = some (.int .i64 t) ∧ w'.cell? ⟨w.heap.size + 1, 2, none⟩ = some (.int .i64 (sizeT t : Nat)) ∧ w'.cell? ⟨w.heap.size + 1, 3, none⟩ = some (.int .i64 ((2 ^ cntS t 2 - 1 : Nat) : Int)) ∧ w'.cell? ⟨w.heap.size + 1, 4, none⟩ = some (.bool skip) ∧ w'.cell? ⟨w.heap.size + 1 + 1, 0, none⟩ = some (.int .i64 W) ∧ w'.cell? ⟨w.heap.size + 1 + 1, 1, none⟩ = some (.int .i64 H) ∧ w'.cell? ⟨w.heap.size + 1 + 1, 2, none⟩ = some (.slice (some ⟨g, 0, none⟩) N cap)) := fun w' f => by
          obtain ⟨b0, b1, b2, b3⟩ := HB5.out w' (hth.fr.trans f (fun i hi e => by
            rcases e with e | e
            · rcases hth.own i e with a | a
              · exact Or.inl a
              · omega
            · exact Or.inr e))
          obtain ⟨p0, p1, p2, p3, p4, _⟩ := cell_of_five b1
          obtain ⟨q0, q1, q2, _⟩ := cell_of_three b2
          exact ⟨by simp [World.cell?, b0], p0, p1, p2, p3, p4, q0, q1, q2⟩
        have HAt : Hid (D.At wr sN ∧ W + 1 ≤ D.left (D.abs sN) ∧ RowAt wr g cap W H Pn ∧ ¬ D.own sN g ∧ (∀ x, x < W → D.may (Pn x n).toNat)) := ⟨hth.at_, hleft, hrow, hog, hmayn⟩
        have HUp : Hid (∀ w', Fr (fun k => D.own sN k) wr w' → Seen w' u8 (upL W Pn n)) := hup
        have HPX2 := (show Hid _ from HPX1)
        have HRX2 := (show Hid _ from HRX1)
        have HNX2 := (show Hid _ from HNX1)
        have HCX2 := (show Hid _ from HCX1)
        obtain ⟨ao, cu, hu8, _, _⟩ := hup wr (Fr.refl _ _)
        rw [length_upL] at hu8
        obtain ⟨nu, HNu⟩ : ∃ nu, Hid (nu = stride W) := ⟨_, rfl⟩
        rw [← HNu.out] at hu8
        subst hu8
        obtain ⟨c0, c1, c2, c3, c4, c5, c6, c7, c8⟩ := HSX.out wr (Fr.refl _ _)
        clear hth hrow hup hnx hmayn hog hleft hA HPX1 HRX1 HNX1 HCX1
        cases hsk : skip
        · subst hsk
          have HRWx : Hid (∀ w', Fr (fun _ => False) wr w' → RowAt w' g cap W H Pn) := fun w' f => HAt.out.2.2.1.kept f (fun h => h)
          have HPXx : Hid (∀ (w6 : World) (gi : Nat), Fr (fun _ => False) wr w6 → _) := fun w6 gi f => HPX2.out sN wr hlt HAt.out.2.2.2.2 HAt.out.1 (by have := HAt.out.2.1; omega) HAt.out.2.2.1 HAt.out.2.2.2.1 w6 gi f
          go_wp2_with fail
          go_region_held3 (fun w' => w'.cell? ⟨w.heap.size, 0, none⟩ = some (.pointer pa) ∧ w'.cell? ⟨w.heap.size + 1, 0, none⟩ = some (.int .i64 base) ∧ w'.cell? ⟨w.heap.size + 1, 1, none⟩ = some (.int .i64 t) ∧ w'.cell? ⟨w.heap.size + 1, 2, none⟩ = some (.int .i64 (sizeT t : Nat)) ∧ w'.cell? ⟨w.heap.size + 1, 3, none⟩ = some (.int .i64 ((2 ^ cntS t 2 - 1 : Nat) : Int)) ∧ w'.cell? ⟨w.heap.size + 1, 4, none⟩ = some (.bool false) ∧ w'.cell? ⟨w.heap.size + 1 + 1, 0, none⟩ = some (.int .i64 W) ∧ w'.cell? ⟨w.heap.size + 1 + 1, 1, none⟩ = some (.int .i64 H) ∧ w'.cell? ⟨w.heap.size + 1 + 1, 2, none⟩ = some (.slice (some ⟨g, 0, none⟩) N cap)) (exact HSX.out _ (by repeat (first | with_reducible exact Fr.refl _ _ | with_reducible refine Fr.drew ?_ | with_reducible refine Fr.trans ?_ hf7 (fun _ _ hh => hh) | with_reducible refine Fr.trans ?_ hf6 (fun _ _ hh => hh.elim)))) (first | (go_at_call 45; refine (HCX2.out _ (HRWx.out _ (by exact (Fr.refl _ _).drew))).mono ?_; rintro e w6 ⟨gi, rfl, hi6, hgi6, hf6⟩) | (go_at_call 44; refine (HPXx.out w6 gi ((Fr.refl _ _).drew.trans hf6 (fun _ _ hh => hh)) hi6 hgi6).mono ?_; rintro e w7 ⟨rfl, s7, hat7, hab7, hr7, hf7, how7⟩))
          have HF7 : Hid (Fr (fun k => D.own sN k ∨ k = g) wr w7) := (((Fr.refl (fun k => D.own sN k ∨ k = g) wr).drew).trans hf6 (fun _ _ hh => hh.elim)).trans hf7 (fun _ _ hh => hh)
          have HT7 : Hid (ThAt D base t W H g cap false P s w5 (n + 1) s7 (.slice (some ⟨g, A, none⟩) S (cap - A)) w7) := HNX2.out s7 w7 hat7 (by rw [hab7]; rfl) hr7 HF7.out (fun k hk => by
            have h8 := hf6.size
            rcases how7 k hk with a | a
            · exact Or.inl a
            · exact Or.inr (Nat.le_trans h8 a))
          clear hi6 hgi6 hf6 hat7 hab7 hr7 hf7 how7
          go_wp2_with fail
          exact ⟨⟨n + 1, s7, by omega, by rw [Int.natCast_add]; rfl, HT7.out⟩, by simp only [intOf]; omega⟩
        · subst hsk
          go_wp2_with fail
          refine (HRX2.out sN wr _ hlt HAt.out.1 (by have := HAt.out.2.1; omega) HAt.out.2.2.1 HAt.out.2.2.2.1 HUp.out).mono ?_
          rintro e w1 ⟨rfl, s1, hat1, hab1, hr1, hf1, how1⟩
          have HL1 : Hid (W ≤ D.left (D.abs s1)) := by
            have h5 := D.left_ask (D.abs sN) ((base + sizeT t : Nat) : Int) (sameR W Pn n).toNat
            rw [← hab1] at h5
            have := HAt.out.2.1
            show _ ≤ _
            omega
          obtain ⟨r, HRr⟩ : ∃ r, Hid (r = D.ask (D.abs sN) ((base + sizeT t : Nat) : Int) (sameR W Pn n).toNat) := ⟨_, rfl⟩
          rw [← HRr.out] at hab1 hr1 ⊢
          obtain ⟨z, a1⟩ := r
          have HOg : Hid (¬ D.own s1 g) := fun e => by
            rcases how1 g e with a | a
            · exact HAt.out.2.2.2.1 a
            · have := HAt.out.2.2.1.lt; omega
          have H1 : Hid (D.At w1 s1 ∧ D.abs s1 = a1 ∧ Fr (fun k => D.own sN k ∨ k = g) wr w1 ∧ (∀ k, D.own s1 k → D.own sN k ∨ wr.heap.size ≤ k)) := ⟨hat1, hab1, hf1, how1⟩
          have HR1 : Hid (RowAt w1 g cap W H (if z = 0 then Pn else copyR W Pn n)) := hr1
          have HSX1 : Hid (∀ w', Fr (fun k => D.own s1 k ∨ k = g) w1 w' → _) := fun w' f => HSX.out w' (H1.out.2.2.1.trans f (fun i hi e => by
            rcases e with e | e
            · rcases H1.out.2.2.2 i e with a | a
              · exact Or.inl a
              · omega
            · exact Or.inr e))
          clear c0 c1 c2 c3 c4 c5 c6 c7 c8 hat1 hab1 hr1 hf1 how1
          obtain ⟨c0, c1, c2, c3, c4, c5, c6, c7, c8⟩ := HSX1.out w1 (Fr.refl _ _)
          by_cases hz : z = 0
          · subst hz
            have HRWx : Hid (∀ w', Fr (fun _ => False) w1 w' → RowAt w' g cap W H Pn) := fun w' f => by
              have := HR1.out
              rw [if_pos rfl] at this
              exact this.kept f (fun h => h)
            have HPXx : Hid (∀ (w6 : World) (gi : Nat), Fr (fun _ => False) w1 w6 → _) := fun w6 gi f => HPX2.out s1 w1 hlt HAt.out.2.2.2.2 H1.out.1 HL1.out (HRWx.out _ (Fr.refl _ _)) HOg.out w6 gi f
            go_wp2_with fail
            go_region_held3 (fun w' => w'.cell? ⟨w.heap.size, 0, none⟩ = some (.pointer pa) ∧ w'.cell? ⟨w.heap.size + 1, 0, none⟩ = some (.int .i64 base) ∧ w'.cell? ⟨w.heap.size + 1, 1, none⟩ = some (.int .i64 t) ∧ w'.cell? ⟨w.heap.size + 1, 2, none⟩ = some (.int .i64 (sizeT t : Nat)) ∧ w'.cell? ⟨w.heap.size + 1, 3, none⟩ = some (.int .i64 ((2 ^ cntS t 2 - 1 : Nat) : Int)) ∧ w'.cell? ⟨w.heap.size + 1, 4, none⟩ = some (.bool true) ∧ w'.cell? ⟨w.heap.size + 1 + 1, 0, none⟩ = some (.int .i64 W) ∧ w'.cell? ⟨w.heap.size + 1 + 1, 1, none⟩ = some (.int .i64 H) ∧ w'.cell? ⟨w.heap.size + 1 + 1, 2, none⟩ = some (.slice (some ⟨g, 0, none⟩) N cap)) (exact HSX1.out _ (by repeat (first | with_reducible exact Fr.refl _ _ | with_reducible refine Fr.drew ?_ | with_reducible refine Fr.trans ?_ hf7 (fun _ _ hh => hh) | with_reducible refine Fr.trans ?_ hf6 (fun _ _ hh => hh.elim)))) (first | (go_at_call 45; refine (HCX2.out _ (HRWx.out _ (by exact (Fr.refl _ _).drew))).mono ?_; rintro e w6 ⟨gi, rfl, hi6, hgi6, hf6⟩) | (go_at_call 44; refine (HPXx.out w6 gi ((Fr.refl _ _).drew.trans hf6 (fun _ _ hh => hh)) hi6 hgi6).mono ?_; rintro e w7 ⟨rfl, s7, hat7, hab7, hr7, hf7, how7⟩))
            have HF7 : Hid (Fr (fun k => D.own s1 k ∨ k = g) w1 w7) := (((Fr.refl (fun k => D.own s1 k ∨ k = g) w1).drew).trans hf6 (fun _ _ hh => hh.elim)).trans hf7 (fun _ _ hh => hh)
            have hrw : rowW D.ask base t W true n (D.abs sN, Pn) = pixW D.ask base t W n W (D.abs s1, Pn) := by
              have hr0 := HRr.out
              unfold rowW
              simp only [if_true]
              rw [← hr0]
              simp only [if_true]
              rw [H1.out.2.1]
            have HT7 : Hid (ThAt D base t W H g cap true P s w5 (n + 1) s7 (.slice (some ⟨g, A, none⟩) S (cap - A)) w7) := HNX2.out s7 w7 hat7 (by rw [hab7, hrw]) (by rw [hrw]; exact hr7) (H1.out.2.2.1.trans HF7.out (fun i hi e => by
                rcases e with e | e
                · rcases H1.out.2.2.2 i e with a | a
                  · exact Or.inl a
                  · omega
                · exact Or.inr e)) (fun k hk => by
              have h8 := hf6.size
              have h9 := H1.out.2.2.1.size
              rcases how7 k hk with a | a
              · exact H1.out.2.2.2 k a
              · exact Or.inr (Nat.le_trans h9 (Nat.le_trans h8 a)))
            clear hi6 hgi6 hf6 hat7 hab7 hr7 hf7 how7 hrw
            go_wp2_with fail
            exact ⟨⟨n + 1, s7, by omega, by rw [Int.natCast_add]; rfl, HT7.out⟩, by simp only [intOf]; omega⟩
          · have hdz : decide (z ≠ 0) = true := decide_eq_true hz
            have hrw : rowW D.ask base t W true n (D.abs sN, Pn) = (D.abs s1, copyR W Pn n) := by
              have hr0 := HRr.out
              unfold rowW
              simp only [if_true]
              rw [← hr0]
              simp only []
              rw [if_neg hz, H1.out.2.1]
            have HT7 : Hid (ThAt D base t W H g cap true P s w5 (n + 1) s1 (.slice (some ⟨g, A, none⟩) S (cap - A)) w1) := HNX2.out s1 w1 H1.out.1 (by rw [hrw]) (by have := HR1.out; rw [if_neg hz] at this; rw [hrw]; exact this) H1.out.2.2.1 H1.out.2.2.2
            simp only [hdz]
            clear hrw
            go_wp2_with fail
            exact ⟨⟨n + 1, s1, by omega, by rw [Int.natCast_add]; rfl, by rw [Nat.add_sub_cancel_left]; exact HT7.out⟩, by simp only [intOf]; omega⟩
      · obtain rfl : n = H := by omega
        have hth := HTh.out
        obtain ⟨b0, b1, b2, b3⟩ := HB5.out _ hth.fr
        have cq : wr.cell? ⟨w.heap.size + 1 + 1 + 1, 0, none⟩ = some (.int .i64 0) := by simp [World.cell?, b3]
        have cf : wr.frozen? ⟨w.heap.size + 1 + 1 + 1, 0, none⟩ = false := by simp [World.frozen?, b3]
        clear b0 b1 b2 hth
        go_wp2_with fail
        refine leaves_cons (f := 47) (args := #[.pointer (some ⟨w.heap.size + 1 + 1 + 1, 0, none⟩)]) (by simp) (by simp [go_sem]) ?_
        refine (caught_d _ _).mono ?_
        rintro e u' w'' ⟨rfl, rfl, rfl⟩
        have hb6 : (wr.setCell ⟨w.heap.size + 1 + 1 + 1, 0, none⟩ (.int .i64 0)).cell? ⟨w.heap.size + 1 + 1 + 1, 0, none⟩ = some (.int .i64 0) := by simp [World.cell?, World.setCell, Array.getElem?_modify, b3]
        have h6 : Fr (fun k => k = w.heap.size + 1 + 1 + 1) wr (wr.setCell ⟨w.heap.size + 1 + 1 + 1, 0, none⟩ (.int .i64 0)) := (Fr.refl (fun k => k = w.heap.size + 1 + 1 + 1) wr).setCell (p := ⟨w.heap.size + 1 + 1 + 1, 0, none⟩) (fun _ => rfl) _
        have hno : ∀ k, D.own sN k → k ≠ w.heap.size + 1 + 1 + 1 := fun k hk => by
          rcases HTh.out.own k hk with a | a
          · have := D.lt HK.out.1 a; omega
          · have : w.heap.size + 1 + 1 + 1 < w5.heap.size := lt_of_block (HB5.out w5 (Fr.refl _ _)).2.2.2
            omega
        simp [Leaves, settle, results, Try.results30, go_sem, hb6]
        refine ⟨sN, D.kept HTh.out.at_ h6 hno, HTh.out.abs, HTh.out.row.kept h6 (by omega), ?_, fun k hk => ?_⟩
        · exact ((HF5.out.mono (fun _ _ h => h.elim)).trans HTh.out.fr (fun _ _ h => h)).trans h6 (fun i hi e => by omega)
        · rcases HTh.out.own k hk with a | a
          · exact Or.inl a
          · exact Or.inr (by have := HF5.out.size; omega)

end Go.Proofs.Ytkggdnkmaldmlab
