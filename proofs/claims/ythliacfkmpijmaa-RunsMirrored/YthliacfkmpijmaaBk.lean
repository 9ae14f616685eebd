/- 'Back'. -/
import Derived.Test.YthliacfkmpijmaaMb
import Derived.Test.YthliacfkmpijmaaFi
namespace Go.Proofs.Ythliacfkmpijmaa
open Go.RowKit

theorem mayFrom_in {W : Int} : ∀ {e : Int} {l : List (Int × Int)}, mayFrom W e l = true → ∀ {j : Nat}, j < l.length → e < (l[j]?.getD (0, 0)).1 ∧ (l[j]?.getD (0, 0)).1 < (l[j]?.getD (0, 0)).2 ∧ (l[j]?.getD (0, 0)).2 ≤ W
  | _, [], _, j, hj => by simp at hj
  | e, r :: t, h, 0, _ => by
    simp only [mayFrom, Bool.and_eq_true, decide_eq_true_eq] at h
    simp only [List.getElem?_cons_zero, Option.getD_some]
    omega
  | e, r :: t, h, j + 1, hj => by
    simp only [mayFrom, Bool.and_eq_true, decide_eq_true_eq] at h
    have := mayFrom_in h.2 (j := j) (by simpa using hj)
    simp only [List.getElem?_cons_succ]
    omega

/-- Which pixels runs hold. -/
def inRi (l : List (Int × Int)) (x : Nat) : Bool := l.any fun r => decide (r.1 ≤ (x : Int)) && decide ((x : Int) < r.2)
theorem inRi_take {l : List (Int × Int)} {k : Nat} (h : k < l.length) (x : Nat) : inRi (l.take (k + 1)) x = (inRi (l.take k) x || (decide ((l[k]?.getD (0, 0)).1 ≤ (x : Int)) && decide ((x : Int) < (l[k]?.getD (0, 0)).2))) := by
  rw [List.take_succ_eq_append_getElem h, List.getElem?_eq_getElem h]
  unfold inRi
  rw [List.any_append]
  simp only [List.any_cons, List.any_nil, Bool.or_false, Option.getD_some]
/-- The pixels of y rows, and of k runs more. -/
def pixK (L : List (List (Int × Int))) (y k : Nat) : Nat → Nat → Bool :=
  fun a e => if e < y then inRi (L[e]?.getD []) a else if e = y then inRi ((L[y]?.getD []).take k) a else false
def pixL (L : List (List (Int × Int))) : Nat → Nat → Bool := fun a e => inRi (L[e]?.getD []) a
theorem pixK_zero (L : List (List (Int × Int))) : pixK L 0 0 = fun _ _ => false := by
  funext a e
  unfold pixK
  rw [if_neg (by omega)]
  split <;> simp [inRi]
theorem pixK_next (L : List (List (Int × Int))) (y : Nat) : pixK L y (L[y]?.getD []).length = pixK L (y + 1) 0 := by
  funext a e
  unfold pixK
  by_cases h1 : e < y
  · rw [if_pos h1, if_pos (by omega)]
  · rw [if_neg h1]
    by_cases h2 : e = y
    · rw [if_pos h2, if_pos (by omega), List.take_length, h2]
    · rw [if_neg h2, if_neg (by omega)]
      split <;> simp [inRi]
theorem pixK_step (L : List (List (Int × Int))) {y k : Nat} (h : k < (L[y]?.getD []).length) : fillPix (pixK L y k) ((L[y]?.getD [])[k]?.getD (0, 0)).1 (y : Int) (((L[y]?.getD [])[k]?.getD (0, 0)).2 - ((L[y]?.getD [])[k]?.getD (0, 0)).1) 1 (decide (1 = 1)) = pixK L y (k + 1) := by
  funext a e
  unfold fillPix pixK
  by_cases h1 : e < y
  · rw [if_pos h1, if_pos h1, if_neg (by omega)]
  · rw [if_neg h1, if_neg h1]
    by_cases h2 : e = y
    · rw [if_pos h2, if_pos h2, inRi_take h]
      generalize ((L[y]?.getD [])[k]?.getD (0, 0)).1 = A
      generalize ((L[y]?.getD [])[k]?.getD (0, 0)).2 = B
      by_cases h3 : A ≤ (a : Int) ∧ (a : Int) < B
      · rw [if_pos ⟨by omega, by omega⟩, decide_eq_true h3.1, decide_eq_true h3.2]; simp
      · rw [if_neg (by omega)]
        have : (decide (A ≤ (a : Int)) && decide ((a : Int) < B)) = false := by
          rw [Bool.and_eq_false_iff]
          rcases Classical.em (A ≤ (a : Int)) with q | q
          · exact Or.inr (decide_eq_false (fun q2 => h3 ⟨q, q2⟩))
          · exact Or.inl (decide_eq_false q)
        rw [this, Bool.or_false]
    · rw [if_neg h2, if_neg h2, if_neg (by omega)]
theorem pixK_end (L : List (List (Int × Int))) : ∀ a e, e < L.length → pixK L L.length 0 a e = pixL L a e := by
  intro a e he
  unfold pixK pixL
  rw [if_pos he]

def okRows (W : Int) (L : List (List (Int × Int))) : Bool := L.all (mayFrom W (-1))
def okB (W : Int) (L : List (List (Int × Int))) : Bool := sizeOK W L.length && okRows W L
theorem okRows_bad {W : Int} {L : List (List (Int × Int))} {y : Nat} (hy : y < L.length) (h : mayFrom W (-1) (L[y]?.getD []) = false) : okRows W L = false := by
  unfold okRows
  rw [List.all_eq_false]
  rw [List.getElem?_eq_getElem hy] at h
  exact ⟨L[y], List.getElem_mem hy, by simp at h; simp [h]⟩
theorem okRows_good {W : Int} {L : List (List (Int × Int))} (h : ∀ y, y < L.length → mayFrom W (-1) (L[y]?.getD []) = true) : okRows W L = true := by
  unfold okRows
  rw [List.all_eq_true]
  intro l hl
  obtain ⟨y, hy, rfl⟩ := List.getElem_of_mem hl
  have := h y hy
  rwa [List.getElem?_eq_getElem hy] at this

/-- What Back answers. -/
def BackP (w : World) (W : Int) (L : List (List (Int × Int))) (e : Ending) (w' : World) : Prop :=
  (okB W L = true → ∃ g cap, e = .returned (.tuple #[.agg #[.int .i64 W, .int .i64 L.length, .slice (some ⟨g, 0, none⟩) (L.length * stride W.toNat) cap], .int .i64 0]) ∧ RowAt w' g cap W.toNat L.length (pixL L) ∧ w.heap.size ≤ g) ∧
  (okB W L = false → e = .returned (.tuple #[.agg #[.int .i64 0, .int .i64 0, .slice none 0 0], .int .i64 80])) ∧ Fr (fun _ => False) w w'

set_option maxRecDepth 100000 in
set_option maxHeartbeats 4000000 in
theorem back_any (v : Value) (L : List (List (Int × Int))) (W : Int) (w : World) (hv : SeenRR w v L) (hW : -9223372036854775808 ≤ W ∧ W ≤ 9223372036854775807) :
    Calls Try.prog 15 #[v, .int .i64 W] w fun e w' => BackP w W L e w' := by
  obtain ⟨ao, cap0, rfl, hl, hc⟩ := hv
  have HC : Hid (∀ j, j < L.length → ∃ b off ao1 n cap1, ao = some ⟨b, off, none⟩ ∧ n = (L[j]?.getD []).length ∧ n ≤ 9223372036854775807 ∧ ∀ w', Fr (fun _ => False) w w' → w'.cell? ⟨b, off + j, none⟩ = some (.slice ao1 n cap1) ∧ SeenR w' (.slice ao1 n cap1) (L[j]?.getD [])) := fun j hj => by
    obtain ⟨b, off, e, hcc⟩ := hc (by intro e; rw [e] at hj; simp at hj)
    obtain ⟨u, h0, h1⟩ := hcc j hj
    have h2 := h1
    obtain ⟨ao1, cap1, e1, hl1, _⟩ := h1
    subst e1
    exact ⟨b, off, ao1, _, cap1, e, rfl, hl1, fun w' f => ⟨by rw [f.cellEq (seen_lt h0) (fun h => h)]; exact h0, h2.kept f⟩⟩
  clear hc
  have HA : Hid (Fr (fun _ => False) w (w.alloc (.cells #[.int .i64 0, .int .i64 0, .slice none 0 0] 25))) := (Fr.refl _ _).alloc _
  have HBX : Hid (∀ w', Fr (fun _ => False) (w.alloc (.cells #[.int .i64 0, .int .i64 0, .slice none 0 0] 25)) w' → w'.heap[w.heap.size]? = some (.cells #[.int .i64 0, .int .i64 0, .slice none 0 0] 25 (0, 0))) := fun w' hf => (hf.block w.heap.size (by simp) (fun hh => hh)).trans (heap_alloc_new w _)
  obtain ⟨H, hH⟩ : ∃ H, H = L.length := ⟨_, rfl⟩
  rw [← hH] at hl HC ⊢
  have HH : Hid (H = L.length) := hH
  clear hH
  by_cases hs : sizeOK W H = false
  · have HOK : Hid (okB W L = false) := by show _ = _; unfold okB; rw [← HH.out, hs]; rfl
    have HNo : Hid (∀ w', Calls Try.prog 29 #[.int .i64 W, .int .i64 H] w' fun e w'' => e = .returned (.tuple #[.pointer none, .int .i64 20]) ∧ w'' = w') := fun w' => new_no W H w' hW (by omega) hs
    go_enter Try.func15, Try.ntmps15
    go_wp2_with fail
    generalize w.alloc (.cells #[.int .i64 0, .int .i64 0, .slice none 0 0] 25) = w0 at *
    refine (HNo.out _).mono ?_
    rintro e w1 ⟨rfl, rfl⟩
    have hbk := HBX.out _ (Fr.refl _ _)
    obtain ⟨z0, z1, z2, zf⟩ := cell_of_three hbk
    have y0 := zf 0
    have y1 := zf 1
    have y2 := zf 2
    have hb5 := set3_cells hbk (.int .i64 0) (.int .i64 0) (.slice none 0 0)
    have HF5 : Hid (Fr (fun _ => False) w ((((w1).setCell ⟨w.heap.size, 0, none⟩ (.int .i64 0)).setCell ⟨w.heap.size, 1, none⟩ (.int .i64 0)).setCell ⟨w.heap.size, 2, none⟩ (.slice none 0 0))) := Fr.set3 (HA.out.trans (Fr.refl _ _) (fun _ _ h => h)) (Nat.le_refl _) _ _ _
    have HX5 : Hid (Fr (fun k => k = w.heap.size) (w1) ((((w1).setCell ⟨w.heap.size, 0, none⟩ (.int .i64 0)).setCell ⟨w.heap.size, 1, none⟩ (.int .i64 0)).setCell ⟨w.heap.size, 2, none⟩ (.slice none 0 0))) := (((Fr.refl (fun k => k = w.heap.size) _).setCell (p := ⟨w.heap.size, 0, none⟩) (fun _ => rfl) _).setCell (p := ⟨w.heap.size, 1, none⟩) (fun _ => rfl) _).setCell (p := ⟨w.heap.size, 2, none⟩) (fun _ => rfl) _
    clear zf hbk
    go_wp2_with fail
    generalize ((((w1).setCell ⟨w.heap.size, 0, none⟩ (.int .i64 0)).setCell ⟨w.heap.size, 1, none⟩ (.int .i64 0)).setCell ⟨w.heap.size, 2, none⟩ (.slice none 0 0)) = w5 at hb5 HF5 HX5 ⊢
    obtain ⟨m0, m1, m2, _⟩ := cell_of_three hb5
    refine bodyPost_ret (v := .tuple #[.agg #[.int .i64 0, .int .i64 0, .slice none 0 0], .int .i64 80]) (by simp [results, Try.results15, go_sem, m0, m1, m2]) rfl ?_
    exact ⟨fun h => absurd (h.symm.trans HOK.out) (by decide), fun _ => rfl, HF5.out⟩
  · rw [Bool.not_eq_false] at hs
    have hs' := hs
    unfold sizeOK at hs'
    obtain ⟨s1, s2, s3⟩ := of_decide_eq_true hs'
    obtain ⟨V, rfl⟩ : ∃ V : Nat, W = V := ⟨W.toNat, by omega⟩
    have s4 : V * H ≤ 1048576 := by rw [← Int.natCast_mul] at s3; omega
    obtain ⟨f1, f2, f3⟩ := size_facts (W := V) (H := H) (by omega) (by omega) s4
    have HNY : Hid (∀ w', Calls Try.prog 29 #[.int .i64 V, .int .i64 H] w' fun e w'' => ∃ b g, e = .returned (.tuple #[.pointer (some ⟨b, 0, none⟩), .int .i64 0]) ∧ NewMap w' w'' b g (H * stride V) V H (fun _ _ => false)) := fun w' => new_yes V H w' (by omega) (by omega) s4
    have HSZ : Hid (sizeOK V H = true) := hs
    clear hs hs' s1 s2 s3 s4 hW
    go_enter Try.func15, Try.ntmps15
    go_wp2_with fail
    generalize w.alloc (.cells #[.int .i64 0, .int .i64 0, .slice none 0 0] 25) = w0 at *
    refine (HNY.out _).mono ?_
    rintro e w1 ⟨b, g, rfl, hnew⟩
    have HM1 : Hid (MapAt w1 b g (H * stride V) V H (pixK L 0 0)) := by rw [pixK_zero]; exact hnew.at_
    have HF1 : Hid (Fr (fun _ => False) w0 w1) := hnew.fr
    have HG : Hid (w0.heap.size ≤ g ∧ w0.heap.size ≤ b) := ⟨hnew.ng, hnew.nb⟩
    clear hnew HNY
    generalize H * stride V = cap at *
    go_wp2_with fail
    go_loopg [8, 9, 11, 24] H (fun q yv row rp i wr => ∃ y : Nat, y + q = H ∧ i = .int .i64 y ∧ Hid (∀ j, j < y → mayFrom V (-1) (L[j]?.getD []) = true) ∧ MapAt wr b g cap V H (pixK L y 0) ∧ Fr (fun _ => False) w0 wr)
    case atStart => exact ⟨0, by omega, rfl, fun j hj => absurd hj (Nat.not_lt_zero _), HM1.out, HF1.out⟩
    case round =>
      clear HM1 HF1
      obtain ⟨y, hyq, rfl, HGD, hmap, hfr⟩ := hrel
      have HMp : Hid (MapAt wr b g cap V H (pixK L y 0)) := hmap
      have HFr : Hid (Fr (fun _ => False) w0 wr) := hfr
      clear hmap hfr
      by_cases hyH : y < H
      · have hdy : decide (y < H) = true := decide_eq_true hyH
        obtain ⟨b0, off, ao1, n, cap1, rfl, hn, hl1, hk⟩ := HC.out y hyH
        have k0 := (hk wr (HA.out.trans HFr.out (fun _ _ h => h))).1
        have HSN : Hid (∀ w', Fr (fun _ => False) w w' → SeenR w' (.slice ao1 n cap1) (L[y]?.getD [])) := fun w' f => (hk w' f).2
        have HMB : Hid (∀ w', Fr (fun _ => False) w w' → Calls Try.prog 30 #[.slice ao1 n cap1, .int .i64 V] w' fun e w'' => e = .returned (.bool (mayFrom V (-1) (L[y]?.getD []))) ∧ Fr (fun _ => False) w' w'') := fun w' f => mayBe_any _ _ V w' (HSN.out w' f)
        clear hk
        have HN : Hid (n = (L[y]?.getD []).length) := hn
        clear hn
        go_wp2_with fail
        refine (HMB.out _ (HA.out.trans HFr.out (fun _ _ h => h))).mono ?_
        rintro e w2 ⟨rfl, hf2⟩
        have HF2 : Hid (Fr (fun _ => False) w0 w2) := HFr.out.trans hf2 (fun _ _ h => h)
        have HMp2 : Hid (MapAt w2 b g cap V H (pixK L y 0)) := HMp.out.kept hf2 (fun h => h) (fun h => h)
        clear HMp hf2 HMB k0
        cases hmay : mayFrom V (-1) (L[y]?.getD []) with
        | false =>
          have HOK : Hid (okB V L = false) := by show _ = _; unfold okB; rw [okRows_bad (y := y) (by have := HH.out; omega) hmay, Bool.and_false]
          clear hmay
          have hbk := HBX.out _ (HF2.out)
          obtain ⟨z0, z1, z2, zf⟩ := cell_of_three hbk
          have y0 := zf 0
          have y1 := zf 1
          have y2 := zf 2
          have hb5 := set3_cells hbk (.int .i64 0) (.int .i64 0) (.slice none 0 0)
          have HF5 : Hid (Fr (fun _ => False) w ((((w2).setCell ⟨w.heap.size, 0, none⟩ (.int .i64 0)).setCell ⟨w.heap.size, 1, none⟩ (.int .i64 0)).setCell ⟨w.heap.size, 2, none⟩ (.slice none 0 0))) := Fr.set3 (HA.out.trans (HF2.out) (fun _ _ h => h)) (Nat.le_refl _) _ _ _
          have HX5 : Hid (Fr (fun k => k = w.heap.size) (w2) ((((w2).setCell ⟨w.heap.size, 0, none⟩ (.int .i64 0)).setCell ⟨w.heap.size, 1, none⟩ (.int .i64 0)).setCell ⟨w.heap.size, 2, none⟩ (.slice none 0 0))) := (((Fr.refl (fun k => k = w.heap.size) _).setCell (p := ⟨w.heap.size, 0, none⟩) (fun _ => rfl) _).setCell (p := ⟨w.heap.size, 1, none⟩) (fun _ => rfl) _).setCell (p := ⟨w.heap.size, 2, none⟩) (fun _ => rfl) _
          clear zf hbk
          go_wp2_with fail
          generalize ((((w2).setCell ⟨w.heap.size, 0, none⟩ (.int .i64 0)).setCell ⟨w.heap.size, 1, none⟩ (.int .i64 0)).setCell ⟨w.heap.size, 2, none⟩ (.slice none 0 0)) = w5 at hb5 HF5 HX5 ⊢
          obtain ⟨m0, m1, m2, _⟩ := cell_of_three hb5
          refine bodyPost_ret (v := .tuple #[.agg #[.int .i64 0, .int .i64 0, .slice none 0 0], .int .i64 80]) (by simp [results, Try.results15, go_sem, m0, m1, m2]) rfl ?_
          exact ⟨fun h => absurd (h.symm.trans HOK.out) (by decide), fun _ => rfl, HF5.out⟩
        | true =>
          have HGD2 : Hid (∀ j, j < y + 1 → mayFrom V (-1) (L[j]?.getD []) = true) := fun j hj => by
            by_cases e : j = y
            · rw [e]; exact hmay
            · exact HGD.out j (by omega)
          have HIN : Hid (∀ j, j < n → -1 < ((L[y]?.getD [])[j]?.getD (0, 0)).1 ∧ ((L[y]?.getD [])[j]?.getD (0, 0)).1 < ((L[y]?.getD [])[j]?.getD (0, 0)).2 ∧ ((L[y]?.getD [])[j]?.getD (0, 0)).2 ≤ (V : Int)) := fun j hj => mayFrom_in hmay (by have := HN.out; omega)
          clear hmay
          go_wp2_with fail
          go_loopg [11, 36] n (fun q rp i wr => ∃ k : Nat, k + q = n ∧ i = .int .i64 k ∧ MapAt wr b g cap V H (pixK L y k) ∧ Fr (fun _ => False) w0 wr)
          case atStart => exact ⟨0, by omega, rfl, HMp2.out, HF2.out⟩
          case round =>
            clear HMp2 HF2
            obtain ⟨k, hkq, rfl, hmap, hfr⟩ := hrel
            have HMk : Hid (MapAt wr b g cap V H (pixK L y k)) := hmap
            have HFk : Hid (Fr (fun _ => False) w0 wr) := hfr
            have HSk : Hid (SeenR wr (.slice ao1 n cap1) (L[y]?.getD [])) := HSN.out _ (HA.out.trans hfr (fun _ _ h => h))
            clear hmap hfr
            by_cases hkn : k < n
            · have hdk : decide (k < n) = true := decide_eq_true hkn
              obtain ⟨ao2, cap2, e2, _, hcc⟩ := HSk.out
              simp only [Value.slice.injEq] at e2
              obtain ⟨b2, off2, e3, hc2⟩ := hcc (by intro e; have := HN.out; rw [e] at this; simp at this; omega)
              obtain ⟨k0, k1⟩ := hc2 k (by have := HN.out; omega)
              obtain ⟨hi1, hi2, hi3⟩ := HIN.out k hkn
              have HST : Hid (fillPix (pixK L y k) ((L[y]?.getD [])[k]?.getD (0, 0)).1 (y : Int) (((L[y]?.getD [])[k]?.getD (0, 0)).2 - ((L[y]?.getD [])[k]?.getD (0, 0)).1) 1 (decide (1 = 1)) = pixK L y (k + 1)) := pixK_step L (by have := HN.out; omega)
              obtain ⟨rfl, -, rfl⟩ := e2
              subst e3
              clear hcc hc2
              generalize ((L[y]?.getD [])[k]?.getD (0, 0)).1 = A at *
              generalize ((L[y]?.getD [])[k]?.getD (0, 0)).2 = B at *
              have HFI : Hid (Calls Try.prog 31 #[.pointer (some ⟨b, 0, none⟩), .int .i64 A, .int .i64 (y : Int), .int .i64 (B - A), .int .i64 ((1 : Nat) : Int), .int .i64 ((1 : Nat) : Int)] (wr.alloc (.cells #[.int .i64 A, .int .i64 B] 35)) fun e w'' => e = .returned (.int .i64 0) ∧ MapAt w'' b g cap V H (pixK L y (k + 1)) ∧ Fr (fun k => k = g) (wr.alloc (.cells #[.int .i64 A, .int .i64 B] 35)) w'') := by
                have := fill_any b g cap V H 1 (pixK L y k) A (y : Int) (B - A) 1 (wr.alloc (.cells #[.int .i64 A, .int .i64 B] 35)) (HMk.out.kept ((Fr.refl (fun _ => False) _).alloc _) (fun h => h) (fun h => h)) (by omega) (by omega) (by omega) (by omega) (by omega)
                rwa [HST.out] at this
              go_wp2_with fail
              refine HFI.out.mono ?_
              rintro e w3 ⟨rfl, hm3, hf3⟩
              have HM3 : Hid (MapAt w3 b g cap V H (pixK L y (k + 1))) := hm3
              have HF3 : Hid (Fr (fun _ => False) w0 w3) := (HFk.out.alloc _).trans hf3 (fun i hi e => by have := HG.out; omega)
              clear hm3 hf3
              go_wp2_with fail
              go_roundg (n - (k + 1))
              case measure => omega
              case rel => exact ⟨k + 1, by omega, congrArg (Value.int .i64) (by omega), HM3.out, HF3.out⟩
            · have hke : k = n := by omega
              have hdk : decide (k < n) = false := decide_eq_false hkn
              have HMe : Hid (MapAt wr b g cap V H (pixK L (y + 1) 0)) := by
                have := HMk.out
                rw [hke, HN.out, pixK_next] at this
                exact this
              clear hke
              go_wp2_with fail
              go_roundg (H - (y + 1))
              case measure => omega
              case rel => exact ⟨y + 1, by omega, congrArg (Value.int .i64) (by omega), HGD2.out, HMe.out, HFk.out⟩
      · have hye : y = H := by omega
        have hdy : decide (y < H) = false := decide_eq_false hyH
        have HOK : Hid (okB V L = true) := by
          show _ = _
          unfold okB
          rw [← HH.out, HSZ.out, okRows_good (fun j hj => HGD.out j (by have := HH.out; omega))]; rfl
        have HMe : Hid (MapAt wr b g cap V H (pixL L)) := by
          have := HMp.out
          rw [hye] at this
          exact this.pix (fun a e _ he => by have := HH.out; subst this; exact pixK_end L a e he)
        clear hye HMp
        go_wp2_with fail
        refine (plain_any b g cap V H (pixL L) wr HMe.out).mono ?_
        rintro e w2 ⟨g2, cap2, rfl, ho2, hf2, hg2⟩
        have HO2 : Hid (RowAt w2 g2 cap2 V H (pixL L)) := ho2
        have HF2 : Hid (Fr (fun _ => False) w0 w2) := HFr.out.trans hf2 (fun _ _ h => h)
        have HG2 : Hid (w0.heap.size ≤ g2 ∧ w.heap.size < w0.heap.size) := ⟨by have := HFr.out.size; omega, lt_of_block (HBX.out _ (Fr.refl _ _))⟩
        clear ho2 hf2 hg2
        have hbk := HBX.out _ (HF2.out)
        obtain ⟨z0, z1, z2, zf⟩ := cell_of_three hbk
        have y0 := zf 0
        have y1 := zf 1
        have y2 := zf 2
        have hb5 := set3_cells hbk (.int .i64 (V : Int)) (.int .i64 (H : Int)) (.slice (some ⟨g2, 0, none⟩) (H * stride V) cap2)
        have HF5 : Hid (Fr (fun _ => False) w ((((w2).setCell ⟨w.heap.size, 0, none⟩ (.int .i64 (V : Int))).setCell ⟨w.heap.size, 1, none⟩ (.int .i64 (H : Int))).setCell ⟨w.heap.size, 2, none⟩ (.slice (some ⟨g2, 0, none⟩) (H * stride V) cap2))) := Fr.set3 (HA.out.trans (HF2.out) (fun _ _ h => h)) (Nat.le_refl _) _ _ _
        have HX5 : Hid (Fr (fun k => k = w.heap.size) (w2) ((((w2).setCell ⟨w.heap.size, 0, none⟩ (.int .i64 (V : Int))).setCell ⟨w.heap.size, 1, none⟩ (.int .i64 (H : Int))).setCell ⟨w.heap.size, 2, none⟩ (.slice (some ⟨g2, 0, none⟩) (H * stride V) cap2))) := (((Fr.refl (fun k => k = w.heap.size) _).setCell (p := ⟨w.heap.size, 0, none⟩) (fun _ => rfl) _).setCell (p := ⟨w.heap.size, 1, none⟩) (fun _ => rfl) _).setCell (p := ⟨w.heap.size, 2, none⟩) (fun _ => rfl) _
        clear zf hbk
        go_wp2_with fail
        generalize ((((w2).setCell ⟨w.heap.size, 0, none⟩ (.int .i64 (V : Int))).setCell ⟨w.heap.size, 1, none⟩ (.int .i64 (H : Int))).setCell ⟨w.heap.size, 2, none⟩ (.slice (some ⟨g2, 0, none⟩) (H * stride V) cap2)) = w5 at hb5 HF5 HX5 ⊢
        obtain ⟨m0, m1, m2, _⟩ := cell_of_three hb5
        refine bodyPost_ret (v := .tuple #[.agg #[.int .i64 (V : Int), .int .i64 (H : Int), .slice (some ⟨g2, 0, none⟩) (H * stride V) cap2], .int .i64 0]) (by simp [results, Try.results15, go_sem, m0, m1, m2]) rfl ?_
        refine ⟨fun _ => ⟨g2, cap2, ?_, ?_, by have := HG2.out; omega⟩, fun h => absurd (h.symm.trans HOK.out) (by decide), HF5.out⟩
        · rw [Int.toNat_natCast, ← HH.out]
        · rw [Int.toNat_natCast, ← HH.out]; exact HO2.out.kept HX5.out (by have := HG2.out; omega)


end Go.Proofs.Ythliacfkmpijmaa
