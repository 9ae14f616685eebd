/- The document's own 'Back'. -/
import Derived.Test.YthliacfkmpijmaaEr
import Derived.Test.YthliacfkmpijmaaBk
namespace Go.Proofs.Ythliacfkmpijmaa
open Go.RowKit

/-- What stands ahead of run k. -/
def prevE (l : List (Int × Int)) (k : Nat) : Int := if k = 0 then -1 else (l[k - 1]?.getD (0, 0)).2
theorem prevE_succ (l : List (Int × Int)) (k : Nat) : prevE l (k + 1) = (l[k]?.getD (0, 0)).2 := by unfold prevE; rw [if_neg (by omega), Nat.add_sub_cancel]

/-- Pixels of a run, laid one by one. -/
def pixX (L : List (List (Int × Int))) (y k A X : Nat) : Nat → Nat → Bool := fun a e => if e = y ∧ A ≤ a ∧ a < X then true else pixK L y k a e
theorem pixX_zero (L : List (List (Int × Int))) (y k A : Nat) : pixX L y k A A = pixK L y k := by
  funext a e; unfold pixX; rw [if_neg (by omega)]
theorem pixX_put (L : List (List (Int × Int))) (y k : Nat) {A X : Nat} (h : A ≤ X) : putPix (pixX L y k A X) X y true = pixX L y k A (X + 1) := by
  funext a e
  unfold putPix pixX
  by_cases h1 : a = X ∧ e = y
  · rw [if_pos h1, if_pos ⟨h1.2, by omega, by omega⟩]
  · rw [if_neg h1]
    by_cases h2 : e = y ∧ A ≤ a ∧ a < X
    · rw [if_pos h2, if_pos ⟨h2.1, h2.2.1, by omega⟩]
    · rw [if_neg h2, if_neg (by omega)]
theorem pixX_end (L : List (List (Int × Int))) {y k A B : Nat} (h : k < (L[y]?.getD []).length) (h1 : ((L[y]?.getD [])[k]?.getD (0, 0)).1 = A) (h2 : ((L[y]?.getD [])[k]?.getD (0, 0)).2 = B) : pixX L y k A B = pixK L y (k + 1) := by
  rw [← pixK_step L h, h1, h2]
  funext a e
  unfold pixX fillPix
  by_cases h3 : e = y ∧ A ≤ a ∧ a < B
  · rw [if_pos h3, if_pos ⟨by omega, by omega⟩]; rfl
  · rw [if_neg h3, if_neg (by omega)]

set_option maxRecDepth 100000 in
set_option maxHeartbeats 8000000 in
theorem rback_any (v : Value) (L : List (List (Int × Int))) (W : Int) (w : World) (hv : SeenRR w v L) (hW : -9223372036854775808 ≤ W ∧ W ≤ 9223372036854775807) :
    Calls Try.prog 16 #[v, .int .i64 W] w fun e w' => BackP w W L e w' := by
  have hl : L.length ≤ 9223372036854775807 := by obtain ⟨_, _, _, h, _⟩ := hv; exact h
  obtain ⟨ao, cap0, rfl, hr⟩ := hv.row
  have HR : Hid (∀ j, j < L.length → ∃ b off ao1 cap1, ao = some ⟨b, off, none⟩ ∧ (L[j]?.getD []).length ≤ 9223372036854775807 ∧ ∀ w', Fr (fun _ => False) w w' → w'.cell? ⟨b, off + j, none⟩ = some (.slice ao1 (L[j]?.getD []).length cap1) ∧ ∀ k, k < (L[j]?.getD []).length → ∃ b1 off1, ao1 = some ⟨b1, off1, none⟩ ∧ w'.cell? ⟨b1, off1 + k * 2, none⟩ = some (.int .i64 ((L[j]?.getD [])[k]?.getD (0, 0)).1) ∧ w'.cell? ⟨b1, off1 + k * 2 + 1, none⟩ = some (.int .i64 ((L[j]?.getD [])[k]?.getD (0, 0)).2)) := hr
  clear hr hv
  have HA : Hid (Fr (fun _ => False) w (w.alloc (.cells #[.int .i64 0, .int .i64 0, .slice none 0 0] 25))) := (Fr.refl _ _).alloc _
  have HBX : Hid (∀ w', Fr (fun _ => False) (w.alloc (.cells #[.int .i64 0, .int .i64 0, .slice none 0 0] 25)) w' → w'.heap[w.heap.size]? = some (.cells #[.int .i64 0, .int .i64 0, .slice none 0 0] 25 (0, 0))) := fun w' hf => (hf.block w.heap.size (by simp) (fun hh => hh)).trans (heap_alloc_new w _)
  have HSZ : Hid (∀ w', Calls Try.prog 14 #[.int .i64 W, .int .i64 L.length] w' fun e w'' => e = .returned (.bool (sizeOK W L.length)) ∧ w'' = w') := fun w' => zSize_any W L.length w' hW (by omega)
  obtain ⟨H, hH⟩ : ∃ H, H = L.length := ⟨_, rfl⟩
  rw [← hH] at hl HSZ ⊢
  have HH : Hid (H = L.length) := hH
  clear hH
  go_enter Try.func16, Try.ntmps16
  go_wp2_with fail
  generalize w.alloc (.cells #[.int .i64 0, .int .i64 0, .slice none 0 0] 25) = w0 at *
  refine (HSZ.out _).mono ?_
  rintro e w1 ⟨rfl, rfl⟩
  clear HSZ
  cases hs : sizeOK W H with
  | false =>
    have HOK : Hid (okB W L = false) := by show _ = _; unfold okB; rw [← HH.out, hs]; rfl
    clear hs
    have hbk := HBX.out _ (Fr.refl _ _)
    obtain ⟨z0, z1, z2, zf⟩ := cell_of_three hbk
    have y0 := zf 0
    have y1 := zf 1
    have y2 := zf 2
    have hb5 := set3_cells hbk (.int .i64 0) (.int .i64 0) (.slice none 0 0)
    have HF5 : Hid (Fr (fun _ => False) w ((((w1).setCell ⟨w.heap.size, 0, none⟩ (.int .i64 0)).setCell ⟨w.heap.size, 1, none⟩ (.int .i64 0)).setCell ⟨w.heap.size, 2, none⟩ (.slice none 0 0))) := Fr.set3 (HA.out.trans (Fr.refl _ _) (fun _ _ h => h)) (Nat.le_refl _) _ _ _
    have HX5 : Hid (Fr (fun k => k = w.heap.size) (w1) ((((w1).setCell ⟨w.heap.size, 0, none⟩ (.int .i64 0)).setCell ⟨w.heap.size, 1, none⟩ (.int .i64 0)).setCell ⟨w.heap.size, 2, none⟩ (.slice none 0 0))) := (((Fr.refl (fun k => k = w.heap.size) _).setCell (p := ⟨w.heap.size, 0, none⟩) (fun _ => rfl) _).setCell (p := ⟨w.heap.size, 1, none⟩) (fun _ => rfl) _).setCell (p := ⟨w.heap.size, 2, none⟩) (fun _ => rfl) _
    clear zf hbk
    go_wp2_with fail
    generalize ((((w1).setCell ⟨w.heap.size, 0, none⟩ (.int .i64 0)).setCell ⟨w.heap.size, 1, none⟩ (.int .i64 0)).setCell ⟨w.heap.size, 2, none⟩ (.slice none 0 0)) = w5 at hb5 HF5 HX5 ⊢
    obtain ⟨m0, m1, m2, _⟩ := cell_of_three hb5
    refine bodyPost_ret (v := .tuple #[.agg #[.int .i64 0, .int .i64 0, .slice none 0 0], .int .i64 80]) (by simp [results, Try.results16, go_sem, m0, m1, m2]) rfl ?_
    exact ⟨fun h => absurd (h.symm.trans HOK.out) (by decide), fun _ => rfl, HF5.out⟩
  | true =>
    have hs' := hs
    unfold sizeOK at hs'
    obtain ⟨s1, s2, s3⟩ := of_decide_eq_true hs'
    obtain ⟨V, rfl⟩ : ∃ V : Nat, W = V := ⟨W.toNat, by omega⟩
    have s4 : V * H ≤ 1048576 := by rw [← Int.natCast_mul] at s3; omega
    obtain ⟨f1, f2, f3⟩ := size_facts (W := V) (H := H) (by omega) (by omega) s4
    have HWH : Hid (1 ≤ V ∧ 1 ≤ H ∧ V * H ≤ 1048576) := ⟨by omega, by omega, s4⟩
    have HSZ : Hid (sizeOK V H = true) := hs
    clear hs hs' s1 s2 s3 s4 hW
    go_wp2_with fail
    go_loopg [6, 7, 8] H (fun q yv _ _ wr => ∃ y : Nat, y + q = H ∧ yv = .int .i64 y ∧ Hid (∀ j, j < y → mayFrom V (-1) (L[j]?.getD []) = true) ∧ Fr (fun _ => False) w1 wr)
    case atStart => exact ⟨0, by omega, rfl, fun j hj => absurd hj (Nat.not_lt_zero _), Fr.refl _ _⟩
    case round =>
      obtain ⟨y, hyq, rfl, HGD, hfr⟩ := hrel
      have HFr : Hid (Fr (fun _ => False) w1 wr) := hfr
      clear hfr
      by_cases hyH : y < H
      · have hdy : decide (y < H) = true := decide_eq_true hyH
        obtain ⟨b0, off, ao1, cap1, rfl, hl1, hk⟩ := HR.out y (by have := HH.out; omega)
        have HRC : Hid (∀ w', Fr (fun _ => False) w w' → w'.cell? ⟨b0, off + y, none⟩ = some (.slice ao1 (L[y]?.getD []).length cap1)) := fun w' f => (hk w' f).1
        have HRI : Hid (∀ w', Fr (fun _ => False) w w' → ∀ k, k < (L[y]?.getD []).length → ∃ b1 off1, ao1 = some ⟨b1, off1, none⟩ ∧ w'.cell? ⟨b1, off1 + k * 2, none⟩ = some (.int .i64 ((L[y]?.getD [])[k]?.getD (0, 0)).1) ∧ w'.cell? ⟨b1, off1 + k * 2 + 1, none⟩ = some (.int .i64 ((L[y]?.getD [])[k]?.getD (0, 0)).2)) := fun w' f => (hk w' f).2
        clear hk
        obtain ⟨l, hl⟩ : ∃ l, l = L[y]?.getD [] := ⟨_, rfl⟩
        rw [← hl] at HRC HRI hl1
        have HLL : Hid (l = L[y]?.getD []) := hl
        clear hl
        obtain ⟨n, hn⟩ : ∃ n, n = l.length := ⟨_, rfl⟩
        rw [← hn] at HRC HRI hl1
        have HN : Hid (n = l.length) := hn
        clear hn
        go_wp2_with fail
        go_loopg [7, 8] n (fun q iv _ wr => ∃ k : Nat, k + q = n ∧ iv = .int .i64 k ∧ Hid (mayFrom V (-1) l = mayFrom V (prevE l k) (l.drop k)) ∧ -1 ≤ prevE l k ∧ Fr (fun _ => False) w1 wr)
        case atStart => exact ⟨0, by omega, rfl, rfl, by unfold prevE; simp, HFr.out⟩
        case round =>
          clear HFr
          obtain ⟨k, hkq, rfl, HM, hpe, hfr⟩ := hrel
          have HFr : Hid (Fr (fun _ => False) w1 wr) := hfr
          have kc := HRC.out wr (HA.out.trans hfr (fun _ _ h => h))
          clear hfr
          by_cases hkn : k < n
          · have hdk : decide (k < n) = true := decide_eq_true hkn
            obtain ⟨b1, off1, rfl, k0, k1⟩ := HRI.out wr (HA.out.trans HFr.out (fun _ _ h => h)) k hkn
            have HM2 : Hid (mayFrom V (-1) l = (decide ((l[k]?.getD (0, 0)).1 < (l[k]?.getD (0, 0)).2) && decide (prevE l k < (l[k]?.getD (0, 0)).1) && decide ((l[k]?.getD (0, 0)).2 ≤ (V : Int)) && mayFrom V (l[k]?.getD (0, 0)).2 (l.drop (k + 1)))) := by
              show _ = _
              rw [HM.out, drop_cons (d := (0, 0)) (by have := HN.out; omega)]
              rfl
            have HPS := prevE_succ l k
            have HPR : Hid (∀ w', Fr (fun _ => False) w w' → 0 < k → w'.cell? ⟨b1, off1 + (k - 1) * 2 + 1, none⟩ = some (.int .i64 (prevE l k))) := fun w' f hk0 => by
              obtain ⟨b1', off1', e', _, q1⟩ := HRI.out w' f (k - 1) (by omega)
              simp only [Option.some.injEq, Addr.mk.injEq, and_true] at e'
              obtain ⟨rfl, rfl⟩ := e'
              unfold prevE
              rw [if_neg (by omega)]; exact q1
            have HP0 : Hid (k = 0 → prevE l k = -1) := fun e => by unfold prevE; rw [if_pos e]
            clear HM
            generalize (l[k]?.getD (0, 0)).1 = A at *
            generalize (l[k]?.getD (0, 0)).2 = B at *
            generalize prevE l k = E at *
            have HFA : Hid (Fr (fun _ => False) w1 (wr.alloc (.cells #[.int .i64 A, .int .i64 B] 35))) := HFr.out.alloc _
            have HBA : Hid (∀ w', Fr (fun _ => False) (wr.alloc (.cells #[.int .i64 A, .int .i64 B] 35)) w' → w'.cell? ⟨wr.heap.size, 0, none⟩ = some (.int .i64 A) ∧ w'.cell? ⟨wr.heap.size, 1, none⟩ = some (.int .i64 B)) := fun w' hf => by
              obtain ⟨q0, q1, _⟩ := cell_of_two (blkOld hf (heap_alloc_new wr (.cells #[.int .i64 A, .int .i64 B] 35)))
              exact ⟨q0, q1⟩
            go_upto_region 10 with (fail)
            generalize wr.alloc (.cells #[.int .i64 A, .int .i64 B] 35) = wA at *
            clear kc k0 k1
            obtain ⟨q0, q1⟩ := HBA.out _ (Fr.refl _ _)
            have kc := HRC.out wA (HA.out.trans HFA.out (fun _ _ h => h))
            by_cases hA0 : A < 0
            · have d1 : decide (A < 0) = true := decide_eq_true hA0
              have HOK : Hid (okB V L = false) := by
                show _ = _
                have hm : mayFrom V (-1) (L[y]?.getD []) = false := by rw [← HLL.out, HM2.out, decide_eq_false (show ¬ E < A by omega), Bool.and_false, Bool.false_and, Bool.false_and]
                unfold okB
                rw [okRows_bad (y := y) (by have := HH.out; omega) hm, Bool.and_false]
              go_quiet (fail)
              have HFB : Hid (Fr (fun _ => False) w1 (wA.drewN nq)) := HFA.out.drewN _
              generalize wA.drewN nq = wB at *
              clear q0 q1 kc
              have hbk := HBX.out _ (HFB.out)
              obtain ⟨z0, z1, z2, zf⟩ := cell_of_three hbk
              have y0 := zf 0
              have y1 := zf 1
              have y2 := zf 2
              have hb5 := set3_cells hbk (.int .i64 0) (.int .i64 0) (.slice none 0 0)
              have HF5 : Hid (Fr (fun _ => False) w ((((wB).setCell ⟨w.heap.size, 0, none⟩ (.int .i64 0)).setCell ⟨w.heap.size, 1, none⟩ (.int .i64 0)).setCell ⟨w.heap.size, 2, none⟩ (.slice none 0 0))) := Fr.set3 (HA.out.trans (HFB.out) (fun _ _ h => h)) (Nat.le_refl _) _ _ _
              have HX5 : Hid (Fr (fun k => k = w.heap.size) (wB) ((((wB).setCell ⟨w.heap.size, 0, none⟩ (.int .i64 0)).setCell ⟨w.heap.size, 1, none⟩ (.int .i64 0)).setCell ⟨w.heap.size, 2, none⟩ (.slice none 0 0))) := (((Fr.refl (fun k => k = w.heap.size) _).setCell (p := ⟨w.heap.size, 0, none⟩) (fun _ => rfl) _).setCell (p := ⟨w.heap.size, 1, none⟩) (fun _ => rfl) _).setCell (p := ⟨w.heap.size, 2, none⟩) (fun _ => rfl) _
              clear zf hbk
              go_wp2_with fail
              generalize ((((wB).setCell ⟨w.heap.size, 0, none⟩ (.int .i64 0)).setCell ⟨w.heap.size, 1, none⟩ (.int .i64 0)).setCell ⟨w.heap.size, 2, none⟩ (.slice none 0 0)) = w5 at hb5 HF5 HX5 ⊢
              obtain ⟨m0, m1, m2, _⟩ := cell_of_three hb5
              refine bodyPost_ret (v := .tuple #[.agg #[.int .i64 0, .int .i64 0, .slice none 0 0], .int .i64 80]) (by simp [results, Try.results16, go_sem, m0, m1, m2]) rfl ?_
              exact ⟨fun h => absurd (h.symm.trans HOK.out) (by decide), fun _ => rfl, HF5.out⟩
            · have d1 : decide (A < 0) = false := decide_eq_false hA0
              by_cases hBV : (V : Int) < B
              · have d2 : decide ((V : Int) < B) = true := decide_eq_true hBV
                have HOK : Hid (okB V L = false) := by
                  show _ = _
                  have hm : mayFrom V (-1) (L[y]?.getD []) = false := by rw [← HLL.out, HM2.out, decide_eq_false (show ¬ B ≤ (V : Int) by omega), Bool.and_false, Bool.false_and]
                  unfold okB
                  rw [okRows_bad (y := y) (by have := HH.out; omega) hm, Bool.and_false]
                go_quiet (fail)
                have HFB : Hid (Fr (fun _ => False) w1 (wA.drewN nq)) := HFA.out.drewN _
                generalize wA.drewN nq = wB at *
                clear q0 q1 kc
                have hbk := HBX.out _ (HFB.out)
                obtain ⟨z0, z1, z2, zf⟩ := cell_of_three hbk
                have y0 := zf 0
                have y1 := zf 1
                have y2 := zf 2
                have hb5 := set3_cells hbk (.int .i64 0) (.int .i64 0) (.slice none 0 0)
                have HF5 : Hid (Fr (fun _ => False) w ((((wB).setCell ⟨w.heap.size, 0, none⟩ (.int .i64 0)).setCell ⟨w.heap.size, 1, none⟩ (.int .i64 0)).setCell ⟨w.heap.size, 2, none⟩ (.slice none 0 0))) := Fr.set3 (HA.out.trans (HFB.out) (fun _ _ h => h)) (Nat.le_refl _) _ _ _
                have HX5 : Hid (Fr (fun k => k = w.heap.size) (wB) ((((wB).setCell ⟨w.heap.size, 0, none⟩ (.int .i64 0)).setCell ⟨w.heap.size, 1, none⟩ (.int .i64 0)).setCell ⟨w.heap.size, 2, none⟩ (.slice none 0 0))) := (((Fr.refl (fun k => k = w.heap.size) _).setCell (p := ⟨w.heap.size, 0, none⟩) (fun _ => rfl) _).setCell (p := ⟨w.heap.size, 1, none⟩) (fun _ => rfl) _).setCell (p := ⟨w.heap.size, 2, none⟩) (fun _ => rfl) _
                clear zf hbk
                go_wp2_with fail
                generalize ((((wB).setCell ⟨w.heap.size, 0, none⟩ (.int .i64 0)).setCell ⟨w.heap.size, 1, none⟩ (.int .i64 0)).setCell ⟨w.heap.size, 2, none⟩ (.slice none 0 0)) = w5 at hb5 HF5 HX5 ⊢
                obtain ⟨m0, m1, m2, _⟩ := cell_of_three hb5
                refine bodyPost_ret (v := .tuple #[.agg #[.int .i64 0, .int .i64 0, .slice none 0 0], .int .i64 80]) (by simp [results, Try.results16, go_sem, m0, m1, m2]) rfl ?_
                exact ⟨fun h => absurd (h.symm.trans HOK.out) (by decide), fun _ => rfl, HF5.out⟩
              · have d2 : decide ((V : Int) < B) = false := decide_eq_false hBV
                by_cases hBA : B ≤ A
                · have d3 : decide (B ≤ A) = true := decide_eq_true hBA
                  have HOK : Hid (okB V L = false) := by
                    show _ = _
                    have hm : mayFrom V (-1) (L[y]?.getD []) = false := by rw [← HLL.out, HM2.out, decide_eq_false (show ¬ A < B by omega), Bool.false_and, Bool.false_and, Bool.false_and]
                    unfold okB
                    rw [okRows_bad (y := y) (by have := HH.out; omega) hm, Bool.and_false]
                  go_quiet (fail)
                  have HFB : Hid (Fr (fun _ => False) w1 (wA.drewN nq)) := HFA.out.drewN _
                  generalize wA.drewN nq = wB at *
                  clear q0 q1 kc
                  have hbk := HBX.out _ (HFB.out)
                  obtain ⟨z0, z1, z2, zf⟩ := cell_of_three hbk
                  have y0 := zf 0
                  have y1 := zf 1
                  have y2 := zf 2
                  have hb5 := set3_cells hbk (.int .i64 0) (.int .i64 0) (.slice none 0 0)
                  have HF5 : Hid (Fr (fun _ => False) w ((((wB).setCell ⟨w.heap.size, 0, none⟩ (.int .i64 0)).setCell ⟨w.heap.size, 1, none⟩ (.int .i64 0)).setCell ⟨w.heap.size, 2, none⟩ (.slice none 0 0))) := Fr.set3 (HA.out.trans (HFB.out) (fun _ _ h => h)) (Nat.le_refl _) _ _ _
                  have HX5 : Hid (Fr (fun k => k = w.heap.size) (wB) ((((wB).setCell ⟨w.heap.size, 0, none⟩ (.int .i64 0)).setCell ⟨w.heap.size, 1, none⟩ (.int .i64 0)).setCell ⟨w.heap.size, 2, none⟩ (.slice none 0 0))) := (((Fr.refl (fun k => k = w.heap.size) _).setCell (p := ⟨w.heap.size, 0, none⟩) (fun _ => rfl) _).setCell (p := ⟨w.heap.size, 1, none⟩) (fun _ => rfl) _).setCell (p := ⟨w.heap.size, 2, none⟩) (fun _ => rfl) _
                  clear zf hbk
                  go_wp2_with fail
                  generalize ((((wB).setCell ⟨w.heap.size, 0, none⟩ (.int .i64 0)).setCell ⟨w.heap.size, 1, none⟩ (.int .i64 0)).setCell ⟨w.heap.size, 2, none⟩ (.slice none 0 0)) = w5 at hb5 HF5 HX5 ⊢
                  obtain ⟨m0, m1, m2, _⟩ := cell_of_three hb5
                  refine bodyPost_ret (v := .tuple #[.agg #[.int .i64 0, .int .i64 0, .slice none 0 0], .int .i64 80]) (by simp [results, Try.results16, go_sem, m0, m1, m2]) rfl ?_
                  exact ⟨fun h => absurd (h.symm.trans HOK.out) (by decide), fun _ => rfl, HF5.out⟩
                · have d3 : decide (B ≤ A) = false := decide_eq_false hBA
                  by_cases hk0 : 0 < k
                  · obtain ⟨m, rfl⟩ : ∃ m, k = m + 1 := ⟨k - 1, by omega⟩
                    have d4 : decide (0 < ((m + 1 : Nat) : Int)) = true := decide_eq_true (by omega)
                    have kp := HPR.out wA (HA.out.trans HFA.out (fun _ _ h => h)) (by omega)
                    rw [Nat.add_sub_cancel] at kp
                    by_cases hAE : A ≤ E
                    · have d5 : decide (A ≤ E) = true := decide_eq_true hAE
                      have HOK : Hid (okB V L = false) := by
                        show _ = _
                        have hm : mayFrom V (-1) (L[y]?.getD []) = false := by rw [← HLL.out, HM2.out, decide_eq_false (show ¬ E < A by omega), Bool.and_false, Bool.false_and, Bool.false_and]
                        unfold okB
                        rw [okRows_bad (y := y) (by have := HH.out; omega) hm, Bool.and_false]
                      go_quiet (fail)
                      have HFB : Hid (Fr (fun _ => False) w1 (wA.drewN nq)) := HFA.out.drewN _
                      generalize wA.drewN nq = wB at *
                      clear q0 q1 kc kp
                      have hbk := HBX.out _ (HFB.out)
                      obtain ⟨z0, z1, z2, zf⟩ := cell_of_three hbk
                      have y0 := zf 0
                      have y1 := zf 1
                      have y2 := zf 2
                      have hb5 := set3_cells hbk (.int .i64 0) (.int .i64 0) (.slice none 0 0)
                      have HF5 : Hid (Fr (fun _ => False) w ((((wB).setCell ⟨w.heap.size, 0, none⟩ (.int .i64 0)).setCell ⟨w.heap.size, 1, none⟩ (.int .i64 0)).setCell ⟨w.heap.size, 2, none⟩ (.slice none 0 0))) := Fr.set3 (HA.out.trans (HFB.out) (fun _ _ h => h)) (Nat.le_refl _) _ _ _
                      have HX5 : Hid (Fr (fun k => k = w.heap.size) (wB) ((((wB).setCell ⟨w.heap.size, 0, none⟩ (.int .i64 0)).setCell ⟨w.heap.size, 1, none⟩ (.int .i64 0)).setCell ⟨w.heap.size, 2, none⟩ (.slice none 0 0))) := (((Fr.refl (fun k => k = w.heap.size) _).setCell (p := ⟨w.heap.size, 0, none⟩) (fun _ => rfl) _).setCell (p := ⟨w.heap.size, 1, none⟩) (fun _ => rfl) _).setCell (p := ⟨w.heap.size, 2, none⟩) (fun _ => rfl) _
                      clear zf hbk
                      go_wp2_with fail
                      generalize ((((wB).setCell ⟨w.heap.size, 0, none⟩ (.int .i64 0)).setCell ⟨w.heap.size, 1, none⟩ (.int .i64 0)).setCell ⟨w.heap.size, 2, none⟩ (.slice none 0 0)) = w5 at hb5 HF5 HX5 ⊢
                      obtain ⟨m0, m1, m2, _⟩ := cell_of_three hb5
                      refine bodyPost_ret (v := .tuple #[.agg #[.int .i64 0, .int .i64 0, .slice none 0 0], .int .i64 80]) (by simp [results, Try.results16, go_sem, m0, m1, m2]) rfl ?_
                      exact ⟨fun h => absurd (h.symm.trans HOK.out) (by decide), fun _ => rfl, HF5.out⟩
                    · have d5 : decide (A ≤ E) = false := decide_eq_false hAE
                      have HE : Hid (mayFrom V (-1) l = mayFrom V B (l.drop (m + 1 + 1))) := by
                        show _ = _
                        rw [HM2.out, decide_eq_true (show A < B by omega), decide_eq_true (show E < A by omega), decide_eq_true (show B ≤ (V : Int) by omega)]; rfl
                      go_quiet (fail)
                      have HFB : Hid (Fr (fun _ => False) w1 (wA.drewN nq)) := HFA.out.drewN _
                      generalize wA.drewN nq = wB at *
                      have HPS2 : Hid (prevE l (m + 1 + 1) = B) := HPS
                      clear q0 q1 kc kp HPS
                      go_wp2_with fail
                      go_roundg (n - (m + 1 + 1))
                      case measure => omega
                      case rel => exact ⟨m + 1 + 1, by omega, congrArg (Value.int .i64) (by omega), by rw [HPS2.out]; exact HE.out, by rw [HPS2.out]; omega, HFB.out⟩
                  · have hke : k = 0 := by omega
                    have hE := HP0.out hke
                    have d4 : decide (0 < k) = false := decide_eq_false hk0
                    have HE : Hid (mayFrom V (-1) l = mayFrom V B (l.drop (k + 1))) := by
                      show _ = _
                      rw [HM2.out, decide_eq_true (show A < B by omega), decide_eq_true (show E < A by omega), decide_eq_true (show B ≤ (V : Int) by omega)]; rfl
                    go_quiet (fail)
                    have HFB : Hid (Fr (fun _ => False) w1 (wA.drewN nq)) := HFA.out.drewN _
                    generalize wA.drewN nq = wB at *
                    have HPS2 : Hid (prevE l (k + 1) = B) := HPS
                    clear q0 q1 kc HPS
                    go_wp2_with fail
                    go_roundg (n - (k + 1))
                    case measure => omega
                    case rel => exact ⟨k + 1, by omega, congrArg (Value.int .i64) (by omega), by rw [HPS2.out]; exact HE.out, by rw [HPS2.out]; omega, HFB.out⟩
          · have hdk : decide (k < n) = false := decide_eq_false hkn
            have HME : Hid (mayFrom V (-1) l = true) := by
              show _ = _
              rw [HM.out, List.drop_eq_nil_of_le (by have := HN.out; omega)]
              rfl
            go_wp2_with fail
            go_roundg (H - (y + 1))
            case measure => omega
            case rel => exact ⟨y + 1, by omega, congrArg (Value.int .i64) (by omega), fun j hj => by
                by_cases e : j = y
                · rw [e, ← HLL.out]; exact HME.out
                · exact HGD.out j (by omega), HFr.out⟩
      · have hdy : decide (y < H) = false := decide_eq_false hyH
        have HGE : Hid (∀ j, j < H → mayFrom V (-1) (L[j]?.getD []) = true) := fun j hj => HGD.out j (by omega)
        have HOK : Hid (okB V L = true) := by
          show _ = _
          unfold okB
          rw [← HH.out, HSZ.out, okRows_good (fun j hj => HGE.out j (by have := HH.out; omega))]; rfl
        go_wp2_with fail
        refine (zwhite_any V H _ HWH.out.1 HWH.out.2.1 HWH.out.2.2).mono ?_
        rintro e w2 ⟨g, rfl, hr2, hf2, hg2⟩
        have HN3 : Hid (Fr (fun _ => False) w1 (w2.alloc (.cells #[.int .i64 (V : Int), .int .i64 (H : Int), .slice (some ⟨g, 0, none⟩) (H * stride V) (H * stride V)] 25))) := (HFr.out.trans hf2 (fun _ _ h => h)).alloc _
        have HR3 : Hid (RowAt (w2.alloc (.cells #[.int .i64 (V : Int), .int .i64 (H : Int), .slice (some ⟨g, 0, none⟩) (H * stride V) (H * stride V)] 25)) g (H * stride V) V H (pixK L 0 0)) := by rw [pixK_zero]; exact hr2.kept ((Fr.refl (fun _ => False) _).alloc _) (fun h => h)
        have HGG : Hid (w1.heap.size ≤ g ∧ g < w2.heap.size) := ⟨by have := HFr.out.size; omega, hr2.lt⟩
        have HBB : Hid (∀ w', Fr (fun k => k = g) (w2.alloc (.cells #[.int .i64 (V : Int), .int .i64 (H : Int), .slice (some ⟨g, 0, none⟩) (H * stride V) (H * stride V)] 25)) w' → w'.cell? ⟨w2.heap.size, 0, none⟩ = some (.int .i64 (V : Int)) ∧ w'.cell? ⟨w2.heap.size, 1, none⟩ = some (.int .i64 (H : Int)) ∧ w'.cell? ⟨w2.heap.size, 2, none⟩ = some (.slice (some ⟨g, 0, none⟩) (H * stride V) (H * stride V))) := fun w' hf => by
          have hne : ¬ (w2.heap.size = g) := by have := HGG.out; omega
          obtain ⟨c0, c1, c2, _⟩ := cell_of_three ((hf.block w2.heap.size (by simp) hne).trans (heap_alloc_new w2 _))
          exact ⟨c0, c1, c2⟩
        have HPU : Hid (∀ (w' : World) (x e : Nat) (Q : Nat → Nat → Bool), RowAt w' g (H * stride V) V H Q → x < V → e < H → Calls Try.prog 34 #[.agg #[.int .i64 V, .int .i64 H, .slice (some ⟨g, 0, none⟩) (H * stride V) (H * stride V)], .int .i64 x, .int .i64 e, .int .i64 1] w' fun e' w'' => e' = .returned (.tuple #[]) ∧ RowAt w'' g (H * stride V) V H (putPix Q x e true) ∧ Fr (fun k => k = g) w' w'') := fun w' x e Q a b c => zput_any V H g _ Q x e true w' a HWH.out.1 HWH.out.2.1 HWH.out.2.2 b c
        clear hr2 hf2 hg2
        go_wp2_with fail
        generalize w2.alloc (.cells #[.int .i64 (V : Int), .int .i64 (H : Int), .slice (some ⟨g, 0, none⟩) (H * stride V) (H * stride V)] 25) = w3 at *
        obtain ⟨N, hN⟩ : ∃ N, N = H * stride V := ⟨_, rfl⟩
        have HNN : Hid (N = H * stride V) := hN
        rw [← hN] at HR3 HBB HPU ⊢
        clear hN
        have HFW : Hid (∀ w', Fr (fun k => k = g) w3 w' → Fr (fun _ => False) w1 w') := fun w' f => HN3.out.trans f (fun i hi e => by have := HGG.out; omega)
        go_loopg [10, 11, 12] H (fun q yv _ _ wr => ∃ y : Nat, y + q = H ∧ yv = .int .i64 y ∧ RowAt wr g N V H (pixK L y 0) ∧ Fr (fun k => k = g) w3 wr)
        case atStart => exact ⟨0, by omega, rfl, HR3.out, Fr.refl _ _⟩
        case round =>
          clear HFr HR3 HGD hdy hyH
          obtain ⟨y, hyq, rfl, hrow, hfr⟩ := hrel
          have HRw : Hid (RowAt wr g N V H (pixK L y 0)) := hrow
          have HFr : Hid (Fr (fun k => k = g) w3 wr) := hfr
          clear hrow hfr
          by_cases hyH : y < H
          · have hdy : decide (y < H) = true := decide_eq_true hyH
            obtain ⟨b0, off, ao1, cap1, rfl, hl1, hk⟩ := HR.out y (by have := HH.out; omega)
            have HRC : Hid (∀ w', Fr (fun k => k = g) w3 w' → w'.cell? ⟨b0, off + y, none⟩ = some (.slice ao1 (L[y]?.getD []).length cap1)) := fun w' f => (hk w' (HA.out.trans (HFW.out _ f) (fun _ _ h => h))).1
            have HRI : Hid (∀ w', Fr (fun k => k = g) w3 w' → ∀ k, k < (L[y]?.getD []).length → ∃ b1 off1, ao1 = some ⟨b1, off1, none⟩ ∧ w'.cell? ⟨b1, off1 + k * 2, none⟩ = some (.int .i64 ((L[y]?.getD [])[k]?.getD (0, 0)).1) ∧ w'.cell? ⟨b1, off1 + k * 2 + 1, none⟩ = some (.int .i64 ((L[y]?.getD [])[k]?.getD (0, 0)).2)) := fun w' f => (hk w' (HA.out.trans (HFW.out _ f) (fun _ _ h => h))).2
            clear hk
            have HMY := HGE.out y hyH
            have HNX := pixK_next L y
            have HST : Hid (∀ k A B : Nat, k < (L[y]?.getD []).length → ((L[y]?.getD [])[k]?.getD (0, 0)).1 = (A : Int) → ((L[y]?.getD [])[k]?.getD (0, 0)).2 = (B : Int) → pixX L y k A B = pixK L y (k + 1)) := fun k A B h h1 h2 => pixX_end L h h1 h2
            obtain ⟨l, hl⟩ : ∃ l, l = L[y]?.getD [] := ⟨_, rfl⟩
            rw [← hl] at HRC HRI hl1 HMY HST HNX
            clear hl
            have HIN : Hid (∀ j, j < l.length → -1 < (l[j]?.getD (0, 0)).1 ∧ (l[j]?.getD (0, 0)).1 < (l[j]?.getD (0, 0)).2 ∧ (l[j]?.getD (0, 0)).2 ≤ (V : Int)) := fun j hj => mayFrom_in HMY hj
            obtain ⟨n, hn⟩ : ∃ n, n = l.length := ⟨_, rfl⟩
            rw [← hn] at HRC HRI hl1 HIN HST HNX
            have HNX2 : Hid (pixK L y n = pixK L (y + 1) 0) := HNX
            clear hn HMY HNX
            go_wp2_with fail
            go_loopg [11, 12] n (fun q iv _ wr => ∃ k : Nat, k + q = n ∧ iv = .int .i64 k ∧ RowAt wr g N V H (pixK L y k) ∧ Fr (fun k => k = g) w3 wr)
            case atStart => exact ⟨0, by omega, rfl, HRw.out, HFr.out⟩
            case round =>
              clear HRw HFr
              obtain ⟨k, hkq, rfl, hrow, hfr⟩ := hrel
              have HRk : Hid (RowAt wr g N V H (pixK L y k)) := hrow
              have HFk : Hid (Fr (fun k => k = g) w3 wr) := hfr
              have kc := HRC.out wr hfr
              clear hrow hfr
              by_cases hkn : k < n
              · have hdk : decide (k < n) = true := decide_eq_true hkn
                obtain ⟨b1, off1, rfl, k0, k1⟩ := HRI.out wr HFk.out k hkn
                obtain ⟨i1, i2, i3⟩ := HIN.out k hkn
                obtain ⟨A, hA⟩ : ∃ A : Nat, (l[k]?.getD (0, 0)).1 = (A : Int) := ⟨(l[k]?.getD (0, 0)).1.toNat, by omega⟩
                obtain ⟨B, hB⟩ : ∃ B : Nat, (l[k]?.getD (0, 0)).2 = (B : Int) := ⟨(l[k]?.getD (0, 0)).2.toNat, by omega⟩
                have HPE : Hid (pixX L y k A B = pixK L y (k + 1)) := HST.out k A B hkn hA hB
                have HCC : Hid (∀ w', Fr (fun k => k = g) w3 w' → w'.cell? ⟨b1, off1 + k * 2 + 1, none⟩ = some (.int .i64 (B : Int))) := fun w' f => by
                  obtain ⟨b1', off1', e', _, q1⟩ := HRI.out w' f k hkn
                  simp only [Option.some.injEq, Addr.mk.injEq, and_true] at e'
                  obtain ⟨rfl, rfl⟩ := e'
                  rw [hB] at q1; exact q1
                rw [hA] at k0 i1 i2
                rw [hB] at k1 i2 i3
                clear hA hB
                have HRA : Hid (RowAt wr g N V H (pixX L y k A A)) := by rw [pixX_zero]; exact HRk.out
                go_wp2_with fail
                clear kc k0 k1
                go_loopg [12] (B - A) (fun q xv wr => ∃ X : Nat, X + q = B ∧ A ≤ X ∧ xv = .int .i64 X ∧ RowAt wr g N V H (pixX L y k A X) ∧ Fr (fun k => k = g) w3 wr)
                case atStart => exact ⟨A, by omega, Nat.le_refl _, rfl, HRA.out, HFk.out⟩
                case round =>
                  clear HRA HFk HRk
                  obtain ⟨X, hXq, hXA, rfl, hrow, hfr⟩ := hrel
                  have HRX : Hid (RowAt wr g N V H (pixX L y k A X)) := hrow
                  have HFX : Hid (Fr (fun k => k = g) w3 wr) := hfr
                  have kc := HRC.out wr hfr
                  have kb := HCC.out wr hfr
                  obtain ⟨c0, c1, c2⟩ := HBB.out _ hfr
                  clear hrow hfr
                  by_cases hXB : X < B
                  · have hdX : decide (X < B) = true := decide_eq_true hXB
                    go_wp2_with fail
                    refine (HPU.out wr X y (pixX L y k A X) HRX.out (by omega) hyH).mono ?_
                    rintro e w4 ⟨rfl, hr4, hf4⟩
                    have HR4 : Hid (RowAt w4 g N V H (pixX L y k A (X + 1))) := by rw [← pixX_put L y k hXA]; exact hr4
                    have HF4 : Hid (Fr (fun k => k = g) w3 w4) := HFX.out.trans hf4 (fun _ _ h => h)
                    clear hr4 hf4 kc kb c0 c1 c2
                    go_wp2_with fail
                    go_roundg (B - (X + 1))
                    case measure => omega
                    case rel => exact ⟨X + 1, by omega, by omega, congrArg (Value.int .i64) (by omega), HR4.out, HF4.out⟩
                  · have hdX : decide (X < B) = false := decide_eq_false hXB
                    have hXe : X = B := by omega
                    have HRE : Hid (RowAt wr g N V H (pixK L y (k + 1))) := by have := HRX.out; rw [hXe, HPE.out] at this; exact this
                    clear hXe
                    go_wp2_with fail
                    go_roundg (n - (k + 1))
                    case measure => omega
                    case rel => exact ⟨k + 1, by omega, congrArg (Value.int .i64) (by omega), HRE.out, HFX.out⟩
              · have hdk : decide (k < n) = false := decide_eq_false hkn
                have hke : k = n := by omega
                have HRE : Hid (RowAt wr g N V H (pixK L (y + 1) 0)) := by have := HRk.out; rw [hke, HNX2.out] at this; exact this
                clear hke
                go_wp2_with fail
                go_roundg (H - (y + 1))
                case measure => omega
                case rel => exact ⟨y + 1, by omega, congrArg (Value.int .i64) (by omega), HRE.out, HFk.out⟩
          · have hdy : decide (y < H) = false := decide_eq_false hyH
            have hye : y = H := by omega
            have HRE : Hid (RowAt wr g N V H (pixL L)) := by
              have := HRw.out
              rw [hye] at this
              unfold RowAt at this ⊢
              rwa [render_congr (fun a e _ he => by have := HH.out; subst this; exact pixK_end L a e he)] at this
            have HW3 : Hid (w.heap.size < w1.heap.size) := lt_of_block (HBX.out _ (Fr.refl _ _))
            clear hye HRw
            obtain ⟨c0, c1, c2⟩ := HBB.out _ HFr.out
            have hbk := HBX.out _ (HFW.out _ HFr.out)
            obtain ⟨z0, z1, z2, zf⟩ := cell_of_three hbk
            have y0 := zf 0
            have y1 := zf 1
            have y2 := zf 2
            have hb5 := set3_cells hbk (.int .i64 (V : Int)) (.int .i64 (H : Int)) (.slice (some ⟨g, 0, none⟩) N N)
            have HF5 : Hid (Fr (fun _ => False) w ((((wr).setCell ⟨w.heap.size, 0, none⟩ (.int .i64 (V : Int))).setCell ⟨w.heap.size, 1, none⟩ (.int .i64 (H : Int))).setCell ⟨w.heap.size, 2, none⟩ (.slice (some ⟨g, 0, none⟩) N N))) := Fr.set3 (HA.out.trans (HFW.out _ HFr.out) (fun _ _ h => h)) (Nat.le_refl _) _ _ _
            have HX5 : Hid (Fr (fun k => k = w.heap.size) (wr) ((((wr).setCell ⟨w.heap.size, 0, none⟩ (.int .i64 (V : Int))).setCell ⟨w.heap.size, 1, none⟩ (.int .i64 (H : Int))).setCell ⟨w.heap.size, 2, none⟩ (.slice (some ⟨g, 0, none⟩) N N))) := (((Fr.refl (fun k => k = w.heap.size) _).setCell (p := ⟨w.heap.size, 0, none⟩) (fun _ => rfl) _).setCell (p := ⟨w.heap.size, 1, none⟩) (fun _ => rfl) _).setCell (p := ⟨w.heap.size, 2, none⟩) (fun _ => rfl) _
            clear zf hbk
            go_wp2_with fail
            generalize ((((wr).setCell ⟨w.heap.size, 0, none⟩ (.int .i64 (V : Int))).setCell ⟨w.heap.size, 1, none⟩ (.int .i64 (H : Int))).setCell ⟨w.heap.size, 2, none⟩ (.slice (some ⟨g, 0, none⟩) N N)) = w5 at hb5 HF5 HX5 ⊢
            obtain ⟨m0, m1, m2, _⟩ := cell_of_three hb5
            refine bodyPost_ret (v := .tuple #[.agg #[.int .i64 (V : Int), .int .i64 (H : Int), .slice (some ⟨g, 0, none⟩) N N], .int .i64 0]) (by simp [results, Try.results16, go_sem, m0, m1, m2]) rfl ?_
            refine ⟨fun _ => ⟨g, N, ?_, ?_, by have := HGG.out; have := HW3.out; omega⟩, fun h => absurd (h.symm.trans HOK.out) (by decide), HF5.out⟩
            · rw [Int.toNat_natCast, ← HH.out, ← HNN.out]
            · rw [Int.toNat_natCast, ← HH.out]; exact HRE.out.kept HX5.out (by have := HGG.out; have := HW3.out; omega)

end Go.Proofs.Ythliacfkmpijmaa
