/- The law 'CompsBack'. -/
import Derived.Test.YtgpciopoionmeaaRk
import Derived.Test.YtgpciopoionmeaaCn
import Derived.Test.YtgpciopoionmeaaWk
import Derived.Test.YtgpciopoionmeaaLe
import Derived.Deep.Cut
import Derived.Deep.CutRange
import Derived.Deep.Light
import Derived.BigQuiet
namespace Go.Proofs.Ytgpciopoionmeaa
open Go.RowKit

/-- What Back answers, in numbers. -/
def bX (L : List Rp) (x y : Int) : Int := if okBk L x y then x else 0
def bY (L : List Rp) (x y : Int) : Int := if okBk L x y then y else 0
def bL (L : List Rp) (x y : Int) : List Nat := if okBk L x y then render x.toNat y.toNat (backP L) else []
def bE (L : List Rp) (x y : Int) : Int := if okBk L x y then 0 else 90
theorem cbackP_ans {w w' : World} {L : List Rp} {x y : Int} {e : Ending} (h : CBackP w x y L e w') : ∃ ao cap, e = .returned (.tuple #[.agg #[.int .i64 (bX L x y), .int .i64 (bY L x y), .slice ao (bL L x y).length cap], .int .i64 (bE L x y)]) ∧ Seen w' (.slice ao (bL L x y).length cap) (bL L x y) ∧ Fr (fun _ => False) w w' ∧ (∀ b off, ao = some ⟨b, off, none⟩ → w.heap.size ≤ b) := by
  obtain ⟨hy, hn, hf⟩ := h
  unfold bX bY bL bE
  cases hok : okBk L x y with
  | true =>
    obtain ⟨g, cap, he, hr, hg⟩ := hy hok
    have hs : sizeOK x y = true := by unfold okBk at hok; simp only [Bool.and_eq_true] at hok; exact hok.1
    unfold sizeOK at hs
    obtain ⟨s1, s2, s3⟩ := of_decide_eq_true hs
    obtain ⟨V, rfl⟩ : ∃ V : Nat, x = V := ⟨x.toNat, by omega⟩
    obtain ⟨U, rfl⟩ : ∃ U : Nat, y = U := ⟨y.toNat, by omega⟩
    obtain ⟨f1, f2, f3⟩ := size_facts (W := V) (H := U) (by omega) (by omega) (by rw [← Int.natCast_mul] at s3; omega)
    rw [Int.toNat_natCast, Int.toNat_natCast] at he hr
    simp only [if_true, Int.toNat_natCast]
    refine ⟨some ⟨g, 0, none⟩, cap, ?_, ?_, hf, fun b off e => by cases e; exact hg⟩
    · rw [length_render]; exact he
    · rw [length_render]; exact hr.seen f3
  | false =>
    have he := hn hok
    refine ⟨none, 0, he, ?_, hf, fun b off e => by cases e⟩
    exact ⟨none, 0, rfl, by simp, fun h => absurd rfl h⟩
theorem okBk_alike {A L : List Rp} {x y : Int} (hl : A.length = L.length) (he : ∀ (i : Nat) (h : i < A.length) (h' : i < L.length), alikeR A[i] L[i]) : okBk A x y = okBk L x y ∧ backP A = backP L := by
  have key : ∀ (A L : List Rp), A.length = L.length → (∀ (i : Nat) (h : i < A.length) (h' : i < L.length), alikeR A[i] L[i]) → (A.all fun r => validB r.x r.y r.l) = (L.all fun r => validB r.x r.y r.l) ∧ ∀ Q, A.foldl orP Q = L.foldl orP Q := by
    intro A
    induction A with
    | nil => intro L hl _; cases L with
      | nil => exact ⟨rfl, fun _ => rfl⟩
      | cons a L => simp at hl
    | cons a A ih =>
      intro L hl he
      cases L with
      | nil => simp at hl
      | cons b L =>
        obtain ⟨h1, h2⟩ := ih L (by simpa using hl) (fun i h h' => he (i + 1) (by simpa using h) (by simpa using h'))
        obtain ⟨a1, a2, a3, a4, a5⟩ := he 0 (by simp) (by simp)
        simp only [List.getElem_cons_zero] at a1 a2 a3 a4 a5
        refine ⟨?_, fun Q => ?_⟩
        · rw [List.all_cons, List.all_cons, h1, a3, a4, a5]
        · rw [List.foldl_cons, List.foldl_cons, h2]
          congr 1
          funext p q
          unfold orP
          rw [a1, a2, a3, a4, a5]
  obtain ⟨h1, h2⟩ := key A L hl he
  exact ⟨by unfold okBk; rw [h1], h2 _⟩
theorem blkSet3 {w : World} {o : Nat} {x y z : Value} {t : TypeId} (h : w.heap[o]? = some (.cells #[x, y, z] t (0, 0))) (a b c : Value) : (((w.setCell ⟨o, 0, none⟩ a).setCell ⟨o, 1, none⟩ b).setCell ⟨o, 2, none⟩ c).heap[o]? = some (.cells #[a, b, c] t (0, 0)) := set3_cells h a b c
theorem Seen.set3 {w : World} {o : Nat} {v : Value} {l : List Nat} (h : Seen w v l) (hb : ∀ b off n c, v = .slice (some ⟨b, off, none⟩) n c → l ≠ [] → b ≠ o) (x y z : Value) : Seen (((w.setCell ⟨o, 0, none⟩ x).setCell ⟨o, 1, none⟩ y).setCell ⟨o, 2, none⟩ z) v l := by
  obtain ⟨ao, cap, e, hl, hc⟩ := h
  refine ⟨ao, cap, e, hl, fun hn => ?_⟩
  obtain ⟨b, off, e2, hcc⟩ := hc hn
  refine ⟨b, off, e2, fun j hj => ?_⟩
  have hne : b ≠ o := hb b off _ _ (by rw [e, e2]) hn
  have f : Fr (fun k => k = o) w (((w.setCell ⟨o, 0, none⟩ x).setCell ⟨o, 1, none⟩ y).setCell ⟨o, 2, none⟩ z) := (((Fr.refl (fun k => k = o) w).setCell (p := ⟨o, 0, none⟩) (fun _ => rfl) _).setCell (p := ⟨o, 1, none⟩) (fun _ => rfl) _).setCell (p := ⟨o, 2, none⟩) (fun _ => rfl) _
  rw [f.cellEq (seen_lt (hcc j hj)) hne]
  exact hcc j hj

set_option maxRecDepth 100000 in
set_option maxHeartbeats 8000000 in
theorem compsBack_any (v : Value) (L : List Rp) (X Y : Int) (w : World) (hv : SeenPs w v L) (hcp : ∀ r ∈ L, CapOK r.v ∧ r.l.length ≤ 17592186044416) (hbig : L.length * 56 ≤ 140737488351232) (hX : in64 X) (hY : in64 Y) :
    Calls Try.prog 4 #[.agg #[v, .int .i64 X, .int .i64 Y]] w fun e w' => e = .returned (.bool true) ∧ Fr (fun _ => False) w w' := by
  have HSN : Hid (∀ w', Fr (fun _ => False) w w' → SeenPs w' v L) := fun w' f => hv.kept f
  have HCP : Hid (∀ r ∈ L, CapOK r.v ∧ r.l.length ≤ 17592186044416) := hcp
  have HBG : Hid (L.length * 56 ≤ 140737488351232) := hbig
  obtain ⟨ao, cap, rfl, hl, _, _⟩ := hv
  have HZ : Hid (∀ w', Calls Try.prog 16 #[.int .i64 X, .int .i64 Y] w' fun e w'' => e = .returned (.bool (sizeOK X Y)) ∧ w'' = w') := fun w' => zSize_any _ _ w' hX hY
  have HSF : Hid (sizeOK X Y = true → IntKind.i64.wrap (X + 64) = X + 64 ∧ IntKind.i64.wrap ((X + 64) * Y) = (X + 64) * Y ∧ wrap64 ((X + 64) * Y) = (X + 64) * Y) := fun hs => by
    unfold sizeOK at hs
    obtain ⟨s1, s2, s3⟩ := of_decide_eq_true hs
    have e1 : (X + 64) * Y = X * Y + 64 * Y := by rw [Int.add_mul]
    have e2 : Y ≤ X * Y := by have := Int.mul_le_mul_of_nonneg_right s1 (show (0 : Int) ≤ Y by omega); omega
    have e3 : X ≤ X * Y := by have := Int.mul_le_mul_of_nonneg_left s2 (show (0 : Int) ≤ X by omega); omega
    rw [IntKind.wrap_i64, IntKind.wrap_i64, e1]
    simp only [wrap64]
    omega
  have HA : Hid (Fr (fun _ => False) w (w.alloc (.cells #[.slice ao L.length cap, .int .i64 X, .int .i64 Y] 38))) := (Fr.refl _ _).alloc _
  have HBX : Hid (∀ w', Fr (fun _ => False) (w.alloc (.cells #[.slice ao L.length cap, .int .i64 X, .int .i64 Y] 38)) w' → w'.cell? ⟨w.heap.size, 0, none⟩ = some (.slice ao L.length cap) ∧ w'.cell? ⟨w.heap.size, 1, none⟩ = some (.int .i64 X) ∧ w'.cell? ⟨w.heap.size, 2, none⟩ = some (.int .i64 Y)) := fun w' hf => by
    obtain ⟨a, b, c, _⟩ := cell_of_three (blkOld hf (heap_alloc_new w (.cells #[.slice ao L.length cap, .int .i64 X, .int .i64 Y] 38)))
    exact ⟨a, b, c⟩
  have IX : Hid (in64 X ∧ in64 Y) := ⟨hX, hY⟩
  clear hcp hX hY hbig
  go_enter Try.func4, Try.ntmps4
  go_upto_region 1 with (fail)
  generalize w.alloc (.cells #[.slice ao L.length cap, .int .i64 X, .int .i64 Y] 38) = w0 at *
  obtain ⟨B, eB⟩ : ∃ B, (sizeOK X Y && decide (20000 < (X + 64) * Y)) = B := ⟨_, rfl⟩
  obtain ⟨c0, c1, c2⟩ := HBX.out _ (Fr.refl _ _)
  go_cut [23] from 10 to 22 (fun u wc => u = .bool B ∧ Fr (fun _ => False) w0 wc)
  case first =>
    cases hs : sizeOK X Y with
    | false =>
      rw [hs] at HZ eB
      clear HSF
      go_wp2_with fail
      refine (HZ.out _).mono ?_
      rintro e w4 ⟨rfl, rfl⟩
      go_wp2_with fail
      go_meet
      exact ⟨by rw [← eB]; rfl, Fr.refl _ _⟩
    | true =>
      obtain ⟨w1, w2, w3⟩ := HSF.out hs
      rw [hs] at HZ eB
      clear HSF
      obtain ⟨z, hzz⟩ : ∃ z, z = (X + 64) * Y := ⟨_, rfl⟩
      have w2' : IntKind.i64.wrap ((X + 64) * Y) = z := by rw [w2, hzz]
      have w3' : wrap64 ((X + 64) * Y) = z := by rw [w3, hzz]
      rw [← hzz] at eB
      clear w2 w3 hzz
      have dz : decide (20000 < z) = B := by rw [← eB]; rfl
      clear eB
      go_wp2_with fail
      refine (HZ.out _).mono ?_
      rintro e w4 ⟨rfl, rfl⟩
      go_wp2_with fail
      go_meet
      exact ⟨by rw [← dz], Fr.refl _ _⟩
  case rest =>
    obtain ⟨rfl, hfc⟩ := hcut
    have HFC : Hid (Fr (fun _ => False) w0 wc) := hfc
    clear hfc c0 c1 c2 eB HZ HSF
    cases B with
    | true =>
      go_wp2_with fail
      refine (wakes_any _).mono ?_
      rintro e w1 ⟨rfl, hf1⟩
      have HF1 : Hid (Fr (fun _ => False) w w1) := (HA.out.trans HFC.out (fun _ _ h => h)).trans hf1 (fun _ _ h => h)
      clear hf1
      go_wp2_with fail
      all_goals (go_ret; exact ⟨rfl, HF1.out⟩)
    | false =>
      go_wp2_with fail
      go_loopg [3, 4] L.length (fun q nn i wr => ∃ j N : Nat, j + q = L.length ∧ i = .int .i64 (j : Int) ∧ nn = .int .i64 (N : Int) ∧ N ≤ 20000 ∧ Hid (∀ (k : Nat) (h : k < L.length), k < j → 64 * L[k].l.length ≤ N) ∧ Fr (fun _ => False) w0 wr)
      case atStart => exact ⟨0, 0, by omega, rfl, rfl, by omega, fun k h h0 => absurd h0 (Nat.not_lt_zero _), HFC.out⟩
      case round =>
        obtain ⟨j, N, hjq, rfl, rfl, hN, HALL, hfr⟩ := hrel
        have HFr : Hid (Fr (fun _ => False) w0 wr) := hfr
        obtain ⟨c0, c1, c2⟩ := HBX.out _ hfr
        clear hfr
        by_cases h1 : j < L.length
        · have d1 : decide (j < L.length) = true := decide_eq_true h1
          have HK : Hid (∃ b off ao2 cap2, ao = some ⟨b, off, none⟩ ∧ wr.cell? ⟨b, off + j * 5 + 4, none⟩ = some (.slice ao2 L[j].l.length cap2) ∧ L[j].l.length ≤ 17592186044416) := by
            obtain ⟨ao', cap', e, _, hok, hc⟩ := HSN.out wr (HA.out.trans HFr.out (fun _ _ h => h))
            cases e
            obtain ⟨b, off, e2, hcc⟩ := hc (by intro h; rw [h] at h1; simp at h1)
            obtain ⟨ao2, cap2, e3, _⟩ := (hok _ (List.getElem_mem h1)).seen
            refine ⟨b, off, ao2, cap2, e2, ?_, (HCP.out _ (List.getElem_mem h1)).2⟩
            rw [← e3]; exact (hcc j h1).2.2.2.2
          have HAK : Hid (∀ M : Nat, N + 64 * L[j].l.length = M → ∀ (k : Nat) (h : k < L.length), k < j + 1 → 64 * L[k].l.length ≤ M) := fun M hM k h h0 => by
            by_cases e : k = j
            · subst e; omega
            · have := HALL.out k h (by omega); omega
          generalize L[j].l.length = R at *
          obtain ⟨b, off, ao2, cap2, rfl, k4, hR⟩ := HK.out
          clear HK
          by_cases g1 : N + 64 * R ≤ 20000
          · have e1 : decide ((20000 : Int) < (N : Int) + 64 * (R : Int)) = false := decide_eq_false (by omega)
            go_wp2_with fail
            go_roundg (L.length - (j + 1))
            case measure => omega
            case rel => exact ⟨j + 1, N + 64 * R, by omega, congrArg (Value.int .i64) (by omega), congrArg (Value.int .i64) (by omega), by omega, HAK.out _ rfl, HFr.out⟩
          · have e1 : decide ((20000 : Int) < (N : Int) + 64 * (R : Int)) = true := decide_eq_true (by omega)
            go_wp2_with fail
            refine (wakes_any _).mono ?_
            rintro e w1 ⟨rfl, hf1⟩
            have HF1 : Hid (Fr (fun _ => False) w w1) := (HA.out.trans HFr.out (fun _ _ h => h)).trans hf1 (fun _ _ h => h)
            clear hf1
            go_wp2_with fail
            all_goals (go_ret; exact ⟨rfl, HF1.out⟩)
        · have d1 : decide (j < L.length) = false := decide_eq_false h1
          have HSM : Hid (∀ r ∈ L, r.l.length ≤ 1000) := fun r hr => by
            obtain ⟨k, hk, rfl⟩ := List.getElem_of_mem hr
            have := HALL.out k hk (by omega); omega
          clear HALL
          have HWr : Hid (Fr (fun _ => False) w wr) := HA.out.trans HFr.out (fun _ _ h => h)
          go_wp2_with fail
          refine (copyPs_any _ L _ (HSN.out _ HWr.out) HSM.out HBG.out).mono ?_
          rintro e w1 ⟨rv, A, rfl, hcp1, hl1, hal1, hf1⟩
          have HSA : Hid (∀ w', Fr (fun _ => False) w1 w' → SeenPs w' rv A) := fun w' f => hcp1.seen.kept f
          have HF1 : Hid (Fr (fun _ => False) w0 w1) := HFr.out.trans hf1 (fun _ _ h => h)
          have HEP : Hid (∀ w', Fr (fun _ => False) w1 w' → Calls Try.prog 13 #[rv, .slice ao L.length cap] w' fun e w'' => e = .returned (.bool true) ∧ Fr (fun _ => False) w' w'') := fun w' f => eqPieces_same rv _ A L w' (hcp1.seen.kept f) (HSN.out _ ((HWr.out.trans hf1 (fun _ _ h => h)).trans f (fun _ _ h => h))) hl1 hal1
          have HOK := okBk_alike (x := X) (y := Y) hl1 hal1
          have HBK : Hid (∀ w', Fr (fun _ => False) w1 w' → Calls Try.prog 18 #[rv, .int .i64 X, .int .i64 Y] w' fun e w'' => ∃ ao cap, e = .returned (.tuple #[.agg #[.int .i64 (bX L X Y), .int .i64 (bY L X Y), .slice ao (bL L X Y).length cap], .int .i64 (bE L X Y)]) ∧ Seen w'' (.slice ao (bL L X Y).length cap) (bL L X Y) ∧ Fr (fun _ => False) w' w'' ∧ (∀ b off, ao = some ⟨b, off, none⟩ → w'.heap.size ≤ b)) := fun w' f => (cback_any rv A X Y w' (hcp1.seen.kept f) IX.out.1 IX.out.2).mono (fun e w'' hp => by
            have := cbackP_ans hp
            unfold bX bY bL bE at this ⊢
            rw [HOK.1, HOK.2] at this
            exact this)
          have HRB : Hid (∀ w', Fr (fun _ => False) w1 w' → Calls Try.prog 19 #[.slice ao L.length cap, .int .i64 X, .int .i64 Y] w' fun e w'' => ∃ ao cap, e = .returned (.tuple #[.agg #[.int .i64 (bX L X Y), .int .i64 (bY L X Y), .slice ao (bL L X Y).length cap], .int .i64 (bE L X Y)]) ∧ Seen w'' (.slice ao (bL L X Y).length cap) (bL L X Y) ∧ Fr (fun _ => False) w' w'' ∧ (∀ b off, ao = some ⟨b, off, none⟩ → w'.heap.size ≤ b)) := fun w' f => (rback_any _ L X Y w' (HSN.out _ ((HWr.out.trans hf1 (fun _ _ h => h)).trans f (fun _ _ h => h))) (fun r hr => (HCP.out r hr).1) IX.out.1 IX.out.2).mono (fun e w'' hp => cbackP_ans hp)
          clear hcp1 hl1 hal1 hf1 HOK HSM c0 c1 c2
          obtain ⟨aa, HAa⟩ : ∃ l, Hid (l = bL L X Y) := ⟨_, rfl⟩
          rw [← HAa.out] at HBK HRB
          generalize bX L X Y = ax at *
          generalize bY L X Y = ay at *
          generalize bE L X Y = ae at *
          clear HAa
          have haa : (ae == ae) = true := by simp
          go_upto_region 11 with (fail)
          obtain ⟨c0, c1, c2⟩ := HBX.out _ HF1.out
          go_wp2_with fail
          refine (HBK.out _ (Fr.refl _ _)).mono ?_
          rintro e w4 ⟨ao2, cap2, rfl, hs4, hf4, hg4⟩
          have HF4 : Hid (Fr (fun _ => False) w1 (w4.alloc (.cells #[.int .i64 ax, .int .i64 ay, .slice ao2 aa.length cap2] 25))) := hf4.alloc _
          have HS4 : Hid (Seen (w4.alloc (.cells #[.int .i64 ax, .int .i64 ay, .slice ao2 aa.length cap2] 25)) (.slice ao2 aa.length cap2) aa) := hs4.kept ((Fr.refl (fun _ => False) _).alloc _)
          have HB4 : Hid ((w4.alloc (.cells #[.int .i64 ax, .int .i64 ay, .slice ao2 aa.length cap2] 25)).heap[w4.heap.size]? = some (.cells #[.int .i64 ax, .int .i64 ay, .slice ao2 aa.length cap2] 25 (0, 0))) := heap_alloc_new _ _
          clear hs4 hf4 hg4 c0 c1 c2
          obtain ⟨c0, c1, c2⟩ := HBX.out _ (HF1.out.trans HF4.out (fun _ _ h => h))
          go_wp2_with fail
          generalize hw5 : w4.alloc (.cells #[.int .i64 ax, .int .i64 ay, .slice ao2 aa.length cap2] 25) = w5 at *
          generalize w4.heap.size = o at *
          clear hw5
          refine (HRB.out _ HF4.out).mono ?_
          rintro e w6 ⟨ao3, cap3, rfl, hs6, hf6, hg6⟩
          have HFE : Hid (Fr (fun _ => False) w1 (w6.alloc (.cells #[.int .i64 ax, .int .i64 ay, .slice ao3 aa.length cap3] 25))) := (HF4.out.trans hf6 (fun _ _ h => h)).alloc _
          have hf56 : Fr (fun _ => False) w5 (w6.alloc (.cells #[.int .i64 ax, .int .i64 ay, .slice ao3 aa.length cap3] 25)) := hf6.alloc _
          have hs7 : Seen (w6.alloc (.cells #[.int .i64 ax, .int .i64 ay, .slice ao3 aa.length cap3] 25)) (.slice ao3 aa.length cap3) aa := hs6.kept ((Fr.refl (fun _ => False) _).alloc _)
          have hb7 : (w6.alloc (.cells #[.int .i64 ax, .int .i64 ay, .slice ao3 aa.length cap3] 25)).heap[w6.heap.size]? = some (.cells #[.int .i64 ax, .int .i64 ay, .slice ao3 aa.length cap3] 25 (0, 0)) := heap_alloc_new _ _
          have HEQ : Hid (∀ w', Fr (fun _ => False) (w6.alloc (.cells #[.int .i64 ax, .int .i64 ay, .slice ao3 aa.length cap3] 25)) w' → Calls Try.prog 20 #[.agg #[.int .i64 ax, .int .i64 ay, .slice ao2 aa.length cap2], .agg #[.int .i64 ax, .int .i64 ay, .slice ao3 aa.length cap3]] w' fun e w'' => e = .returned (.bool true) ∧ Fr (fun _ => False) w' w'') := fun w' f => eqBitmap_int ax ay _ _ aa w' ((HS4.out.kept hf56).kept f) (hs7.kept f)
          have HCC : Hid (∀ w', Fr (fun _ => False) (w6.alloc (.cells #[.int .i64 ax, .int .i64 ay, .slice ao3 aa.length cap3] 25)) w' → w'.cell? ⟨o, 0, none⟩ = some (.int .i64 ax) ∧ w'.cell? ⟨o, 1, none⟩ = some (.int .i64 ay) ∧ w'.cell? ⟨o, 2, none⟩ = some (.slice ao2 aa.length cap2) ∧ w'.cell? ⟨w6.heap.size, 0, none⟩ = some (.int .i64 ax) ∧ w'.cell? ⟨w6.heap.size, 1, none⟩ = some (.int .i64 ay) ∧ w'.cell? ⟨w6.heap.size, 2, none⟩ = some (.slice ao3 aa.length cap3) ∧ w'.cell? ⟨w.heap.size, 0, none⟩ = some (.slice ao L.length cap)) := fun w' f => by
            obtain ⟨q0, q1, q2, _⟩ := cell_of_three (blkOld f (blkOld hf56 HB4.out))
            obtain ⟨r0, r1, r2, _⟩ := cell_of_three (blkOld f hb7)
            exact ⟨q0, q1, q2, r0, r1, r2, (HBX.out _ ((HF1.out.trans HFE.out (fun _ _ h => h)).trans f (fun _ _ h => h))).1⟩
          have HEP2 : Hid (∀ w', Fr (fun _ => False) (w6.alloc (.cells #[.int .i64 ax, .int .i64 ay, .slice ao3 aa.length cap3] 25)) w' → Calls Try.prog 13 #[rv, .slice ao L.length cap] w' fun e w'' => e = .returned (.bool true) ∧ Fr (fun _ => False) w' w'') := fun w' f => HEP.out w' (HFE.out.trans f (fun _ _ h => h))
          have HFF : Hid (∀ w', Fr (fun _ => False) (w6.alloc (.cells #[.int .i64 ax, .int .i64 ay, .slice ao3 aa.length cap3] 25)) w' → Fr (fun _ => False) w w') := fun w' f => ((HA.out.trans HF1.out (fun _ _ h => h)).trans HFE.out (fun _ _ h => h)).trans f (fun _ _ h => h)
          obtain ⟨q0, q1, q2, r0, r1, r2, p0⟩ := HCC.out _ (Fr.refl _ _)
          clear hs6 hf6 hg6 hf56 hs7 hb7 c0 c1 c2 HEP HSA HB4 HS4
          go_wp2_with fail
          generalize hw8 : w6.alloc (.cells #[.int .i64 ax, .int .i64 ay, .slice ao3 aa.length cap3] 25) = wc at *
          generalize w6.heap.size = o2 at *
          clear hw8
          refine (HEQ.out _ (Fr.refl _ _)).mono ?_
          rintro e w5 ⟨rfl, hf5⟩
          have HF5 : Hid (Fr (fun _ => False) wc w5) := hf5
          clear hf5 q0 q1 q2 r0 r1 r2 p0
          obtain ⟨_, _, _, _, _, _, p0⟩ := HCC.out _ HF5.out
          go_wp2_with fail
          refine (HEP2.out _ HF5.out).mono ?_
          rintro e w6 ⟨rfl, hf6⟩
          have HF6 : Hid (Fr (fun _ => False) wc w6) := HF5.out.trans hf6 (fun _ _ h => h)
          clear hf6
          go_wp2_with fail
          refine (wakes_any _).mono ?_
          rintro e w7 ⟨rfl, hf7⟩
          have HF7 : Hid (Fr (fun _ => False) w w7) := HFF.out _ (HF6.out.trans hf7 (fun _ _ h => h))
          clear hf7
          go_wp2_with fail
          all_goals (go_ret; exact ⟨rfl, HF7.out⟩)
end Go.Proofs.Ytgpciopoionmeaa
