/- 'join': two neighbouring rows of runs. -/
import Derived.Deep.QuietTactic
import Derived.BigQuiet
import Derived.Deep.RegionHeld3
import Derived.Test.YtgpciopoionmeaaFo
import Derived.Test.YtgpciopoionmeaaTc
import Derived.Test.YtgpciopoionmeaaRu
import Derived.Test.YtgpciopoionmeaaLn
import Derived.Test.YtgpciopoionmeaaOs
namespace Go.Proofs.Ytgpciopoionmeaa
open Go.RowKit

/-- Which pairs have been put together: all that touch and of which one has been left behind. -/
def Met (A B : List (Nat × Nat)) (first i j : Nat) (f : Nat → Nat) : Prop :=
  ∀ (a b : Nat) (ha : a < A.length) (hb : b < B.length), (a < i ∨ b < j) → A[a].1 ≤ B[b].2 → B[b].1 ≤ A[a].2 → rt f (first + a) = rt f (first + A.length + b)
/-- Nothing is put together but what was, and what T allows. -/
def Kin (n : Nat) (T : Nat → Nat → Prop) (f : Nat → Nat) : Prop := ∀ i j, i < n → j < n → rt f i = rt f j → T i j
structure Eqv (T : Nat → Nat → Prop) : Prop where
  symm : ∀ {a b}, T a b → T b a
  trans : ∀ {a b c}, T a b → T b c → T a c

theorem unF_same {f f' : Nat → Nat} {i j : Nat} (h : ∀ k, rt f' k = unF f i j k) : rt f' i = rt f' j := by
  rw [h, h]; unfold unF
  generalize rt f i = a; generalize rt f j = b
  split <;> split <;> omega
theorem unF_keep {f f' : Nat → Nat} {i j : Nat} (h : ∀ k, rt f' k = unF f i j k) {a b : Nat} (e : rt f a = rt f b) : rt f' a = rt f' b := by
  rw [h, h]; unfold unF; rw [e]
theorem unF_kin {n : Nat} {T : Nat → Nat → Prop} (E : Eqv T) {f f' : Nat → Nat} {i j : Nat} (hi : i < n) (hj : j < n) (h : ∀ k, rt f' k = unF f i j k) (hT : T i j) (hk : Kin n T f) : Kin n T f' := by
  intro a b ha hb e
  rw [h, h] at e
  unfold unF at e
  by_cases c : rt f a = rt f b
  · exact hk a b ha hb c
  · by_cases d : rt f i ≤ rt f j
    · rw [Nat.max_eq_right d, Nat.min_eq_left d] at e
      split at e <;> split at e
      · rename_i x y; exact absurd (x.trans y.symm) c
      · rename_i x y; exact E.trans (hk a j ha hj x) (E.trans (E.symm hT) (hk i b hi hb e))
      · rename_i x y; exact E.trans (hk a i ha hi e) (E.trans hT (hk j b hj hb y.symm))
      · exact absurd e c
    · rw [Nat.max_eq_left (by omega), Nat.min_eq_right (by omega)] at e
      split at e <;> split at e
      · rename_i x y; exact absurd (x.trans y.symm) c
      · rename_i x y; exact E.trans (hk a i ha hi x) (E.trans hT (hk j b hj hb e))
      · rename_i x y; exact E.trans (hk a j ha hj e) (E.trans (E.symm hT) (hk i b hi hb y.symm))
      · exact absurd e c

theorem runCells_at : ∀ (l : List (Nat × Nat)) (i : Nat) (h : i < l.length), (runCells l)[i * 2]? = some (.int .i64 (l[i].1 : Nat)) ∧ (runCells l)[i * 2 + 1]? = some (.int .i64 (l[i].2 : Nat))
  | [], _, h => absurd h (Nat.not_lt_zero _)
  | (a, b) :: t, 0, _ => ⟨rfl, rfl⟩
  | (a, b) :: t, i + 1, h => by
    have := runCells_at t i (by simpa using h)
    have e : runCells ((a, b) :: t) = .int .i64 (a : Int) :: .int .i64 (b : Int) :: runCells t := rfl
    rw [e, show (i + 1) * 2 = i * 2 + 1 + 1 by omega, show i * 2 + 1 + 1 + 1 = (i * 2 + 1) + 1 + 1 by omega]
    simpa using this
theorem FoAt.drewN {w : World} {g n : Nat} {f : Nat → Nat} (h : FoAt w g n f) (k : Nat) : FoAt (w.drewN k) g n f := h.kept ((Fr.refl (fun _ => False) w).drewN k) (fun h => h)
/-- A run of a row, read. -/
theorem run_read {w : World} {base g c i : Nat} {A : List (Nat × Nat)} (h : w.ownsRow base 100 2 (.slice (some ⟨g, 0, none⟩) A.length c) A.length (runCells A)) (hi : i < A.length) :
    w.cell? ⟨g, i * 2, none⟩ = some (.int .i64 (A[i].1 : Nat)) ∧ w.cell? ⟨g, i * 2 + 1, none⟩ = some (.int .i64 (A[i].2 : Nat)) := by
  obtain ⟨a, b⟩ := runCells_at A i hi
  exact ⟨(World.ownsRow.cellAt (size := 2) h (i * 2) (by omega)).trans a, (World.ownsRow.cellAt (size := 2) h (i * 2 + 1) (by omega)).trans b⟩

theorem met_left {A B : List (Nat × Nat)} {W first i j : Nat} {f : Nat → Nat} (sB : Apart W 0 B) (hi : i < A.length) (hj : j < B.length) (h : Met A B first i j f) (hp : A[i].1 ≤ B[j].2 → B[j].1 ≤ A[i].2 → rt f (first + i) = rt f (first + A.length + j)) (hlt : A[i].2 < B[j].2) : Met A B first (i + 1) j f := by
  intro a b ha hb hab t1 t2
  by_cases c : a < i ∨ b < j
  · exact h a b ha hb c t1 t2
  · have e : a = i := by omega
    subst e
    by_cases d : b = j
    · subst d; exact hp t1 t2
    · have := apart_lt sB j b (by omega) hb; omega
theorem met_right {A B : List (Nat × Nat)} {W first i j : Nat} {f : Nat → Nat} (sA : Apart W 0 A) (hi : i < A.length) (hj : j < B.length) (h : Met A B first i j f) (hp : A[i].1 ≤ B[j].2 → B[j].1 ≤ A[i].2 → rt f (first + i) = rt f (first + A.length + j)) (hlt : ¬ A[i].2 < B[j].2) : Met A B first i (j + 1) f := by
  intro a b ha hb hab t1 t2
  by_cases c : a < i ∨ b < j
  · exact h a b ha hb c t1 t2
  · have e : b = j := by omega
    subst e
    by_cases d : a = i
    · subst d; exact hp t1 t2
    · have := apart_lt sA i a (by omega) ha; omega
theorem Met.keep {A B : List (Nat × Nat)} {first i j : Nat} {f f' : Nat → Nat} (h : Met A B first i j f) (hk : ∀ a b, rt f a = rt f b → rt f' a = rt f' b) : Met A B first i j f' := fun a b ha hb hab t1 t2 => hk _ _ (h a b ha hb hab t1 t2)

set_option maxRecDepth 100000 in
set_option maxHeartbeats 4000000 in
theorem join_any (g n first W ba bb : Nat) (A B : List (Nat × Nat)) (va vb : Value) (f : Nat → Nat) (T : Nat → Nat → Prop) (w : World) (E : Eqv T) (hn : first + A.length + B.length ≤ n) (hnm : n ≤ 1048576) (hd : Dn f) (ho : FoAt w g n f)
    (hA : w.ownsRow ba 100 2 va A.length (runCells A)) (hB : w.ownsRow bb 100 2 vb B.length (runCells B)) (sA : Apart W 0 A) (sB : Apart W 0 B) (hk : Kin n T f)
    (hT : ∀ (a b : Nat) (ha : a < A.length) (hb : b < B.length), A[a].1 ≤ B[b].2 → B[b].1 ≤ A[a].2 → T (first + a) (first + A.length + b)) :
    Calls Try.prog 57 #[.slice (some ⟨g, 0, none⟩) n n, va, vb, .int .i64 first] w fun e w' => ∃ f', e = .returned (.tuple #[]) ∧ FoAt w' g n f' ∧ Dn f' ∧ Kin n T f' ∧ (∀ a b, rt f a = rt f b → rt f' a = rt f' b) ∧
      (∀ (a b : Nat) (ha : a < A.length) (hb : b < B.length), A[a].1 ≤ B[b].2 → B[b].1 ≤ A[a].2 → rt f' (first + a) = rt f' (first + A.length + b)) ∧ Fr (fun k => k = g) w w' := by
  have HO0 : Hid (FoAt w g n f) := ho
  have HD0 : Hid (Dn f) := hd
  have HK0 : Hid (Kin n T f) := hk
  have HT : Hid (∀ (a b : Nat) (ha : a < A.length) (hb : b < B.length), A[a].1 ≤ B[b].2 → B[b].1 ≤ A[a].2 → T (first + a) (first + A.length + b)) := hT
  have HEQ : Hid (Eqv T) := E
  have HSA : Hid (Apart W 0 A) := sA
  have HSB : Hid (Apart W 0 B) := sB
  obtain ⟨aoA, cA, rfl⟩ := own_slice hA
  obtain ⟨aoB, cB, rfl⟩ := own_slice hB
  have HA : Hid (∀ w', Fr (fun k => k = g) w w' → w'.ownsRow ba 100 2 (.slice aoA A.length cA) A.length (runCells A)) := fun w' hf => row_kept hA hf (fun k hk e => own_ne hA ho (by decide) (by rw [hk, e]))
  have HB : Hid (∀ w', Fr (fun k => k = g) w w' → w'.ownsRow bb 100 2 (.slice aoB B.length cB) B.length (runCells B)) := fun w' hf => row_kept hB hf (fun k hk e => own_ne hB ho (by decide) (by rw [hk, e]))
  clear ho hd hk hT E sA sB hA hB
  go_enter Try.func57, Try.ntmps57
  go_wp2_with fail
  go_loopg [8, 9] (A.length + B.length) (fun q iv jv wr => ∃ (i j : Nat) (f' : Nat → Nat), i + j + q = A.length + B.length ∧ i ≤ A.length ∧ j ≤ B.length ∧ iv = .int .i64 i ∧ jv = .int .i64 j ∧ FoAt wr g n f' ∧ Dn f' ∧ Kin n T f' ∧ (∀ a b, rt f a = rt f b → rt f' a = rt f' b) ∧ Met A B first i j f' ∧ Fr (fun k => k = g) w wr)
  case atStart => exact ⟨0, 0, f, by omega, by omega, by omega, rfl, rfl, HO0.out, HD0.out, HK0.out, fun _ _ h => h, fun a b _ _ h => by omega, Fr.refl _ _⟩
  case round =>
    obtain ⟨i, j, f1, hq, hi, hj, rfl, rfl, ho, hd, hk, hkp, hm, hfr⟩ := hrel
    have HO : Hid (FoAt wr g n f1) := ho
    have HD : Hid (Dn f1) := hd
    have HK : Hid (Kin n T f1) := hk
    have HKP : Hid (∀ a b, rt f a = rt f b → rt f1 a = rt f1 b) := hkp
    have HM : Hid (Met A B first i j f1) := hm
    have HF : Hid (Fr (fun k => k = g) w wr) := hfr
    clear ho hd hk hkp hm hfr HO0 HD0 HK0
    by_cases h1 : i < A.length
    · by_cases h2 : j < B.length
      · have h1 : i < A.length := by omega
        have h2 : j < B.length := by omega
        obtain ⟨gA, kA, eA, _⟩ := row_form (HA.out wr HF.out) (by omega)
        obtain ⟨gB, kB, eB, _⟩ := row_form (HB.out wr HF.out) (by omega)
        simp only [Value.slice.injEq] at eA eB
        obtain ⟨rfl, _, rfl⟩ := eA
        obtain ⟨rfl, _, rfl⟩ := eB
        have HRD : Hid (∀ w', Fr (fun k => k = g) w w' → w'.cell? ⟨gA, i * 2, none⟩ = some (.int .i64 (A[i].1 : Nat)) ∧ w'.cell? ⟨gA, i * 2 + 1, none⟩ = some (.int .i64 (A[i].2 : Nat)) ∧ w'.cell? ⟨gB, j * 2, none⟩ = some (.int .i64 (B[j].1 : Nat)) ∧ w'.cell? ⟨gB, j * 2 + 1, none⟩ = some (.int .i64 (B[j].2 : Nat))) := fun w' hf => ⟨(run_read (HA.out w' hf) h1).1, (run_read (HA.out w' hf) h1).2, (run_read (HB.out w' hf) h2).1, (run_read (HB.out w' hf) h2).2⟩
        have HPA : Hid (A[i].1 < A[i].2) := (apart_at HSA.out i h1).2.1
        have HPB : Hid (B[j].1 < B[j].2) := (apart_at HSB.out j h2).2.1
        have HL : Hid (∀ f', Met A B first i j f' → (A[i].1 ≤ B[j].2 → B[j].1 ≤ A[i].2 → rt f' (first + i) = rt f' (first + A.length + j)) → A[i].2 < B[j].2 → Met A B first (i + 1) j f') := fun f' => met_left HSB.out h1 h2
        have HR : Hid (∀ f', Met A B first i j f' → (A[i].1 ≤ B[j].2 → B[j].1 ≤ A[i].2 → rt f' (first + i) = rt f' (first + A.length + j)) → ¬ A[i].2 < B[j].2 → Met A B first i (j + 1) f') := fun f' => met_right HSA.out h1 h2
        have HTT : Hid (A[i].1 ≤ B[j].2 → B[j].1 ≤ A[i].2 → T (first + i) (first + A.length + j)) := HT.out i j h1 h2
        generalize A[i].1 = a1 at *
        generalize A[i].2 = a2 at *
        generalize B[j].1 = b1 at *
        generalize B[j].2 = b2 at *
        clear HA HB
        have d1 : decide (i < A.length) = true := decide_eq_true h1
        have d2 : decide (j < B.length) = true := decide_eq_true h2
        have HTB : Hid (touchB a1 a2 b1 b2 = (decide (a1 ≤ b2) && decide (b1 ≤ a2))) := by
          have := HPA.out
          have := HPB.out
          show touchB _ _ _ _ = _
          unfold touchB
          rw [decide_eq_true (show (a1 : Int) < a2 by omega), decide_eq_true (show (b1 : Int) < b2 by omega), Bool.true_and, Bool.true_and]
          congr 1 <;> rw [decide_eq_decide] <;> omega
        generalize htb : touchB a1 a2 b1 b2 = tb at *
        go_wp2_with fail
        go_region_held3 (fun w' => w'.cell? ⟨gA, i * 2, none⟩ = some (.int .i64 (a1 : Nat)) ∧ w'.cell? ⟨gA, i * 2 + 1, none⟩ = some (.int .i64 (a2 : Nat)) ∧ w'.cell? ⟨gB, j * 2, none⟩ = some (.int .i64 (b1 : Nat)) ∧ w'.cell? ⟨gB, j * 2 + 1, none⟩ = some (.int .i64 (b2 : Nat))) (exact HRD.out _ (by repeat (first | with_reducible exact HF.out | with_reducible refine Fr.drew ?_ | with_reducible exact hf4))) (first | (go_at_call 71; refine (touch_any a1 a2 b1 b2 _).mono ?_; rintro e w4 ⟨rfl, hf4'⟩; rw [htb]; have hf4 : Fr (fun k => k = g) w w4 := HF.out.trans ((Fr.refl _ _).drew.trans hf4' (fun _ _ h => h)) (fun _ _ h => h.elim); have hf5 : Fr (fun _ => False) wr w4 := (Fr.refl _ _).drew.trans hf4' (fun _ _ h => h); have HO4 : Hid (FoAt w4 g n f1) := HO.out.kept hf5 (fun h => h); have HF4 : Hid (Fr (fun k => k = g) w w4) := hf4))
        clear hf4 hf5 hf4'
        have g1 : IntKind.i64.wrap ((first : Int) + (i : Int)) = ((first + i : Nat) : Int) := by rw [IntKind.wrap_i64]; omega
        have g2 : IntKind.i64.wrap ((first : Int) + (A.length : Int)) = ((first + A.length : Nat) : Int) := by rw [IntKind.wrap_i64]; omega
        have g3 : IntKind.i64.wrap (((first + A.length : Nat) : Int) + (j : Int)) = ((first + A.length + j : Nat) : Int) := by rw [IntKind.wrap_i64]; omega
        have HNX : Hid (∀ (f2 : Nat → Nat) (w5 : World), FoAt w5 g n f2 → Dn f2 → Kin n T f2 → (∀ a b, rt f1 a = rt f1 b → rt f2 a = rt f2 b) → (a1 ≤ b2 → b1 ≤ a2 → rt f2 (first + i) = rt f2 (first + A.length + j)) → (a2 < b2 → Met A B first (i + 1) j f2) ∧ (¬ a2 < b2 → Met A B first i (j + 1) f2)) := fun f2 w5 _ _ _ hkk hp => ⟨HL.out f2 (HM.out.keep hkk) hp, HR.out f2 (HM.out.keep hkk) hp⟩
        cases tb with
        | true =>
          have HAB : Hid (a1 ≤ b2 ∧ b1 ≤ a2) := by have := HTB.out; show _ ∧ _; simpa using this
          go_wp2_with (first | (go_at_call 72; refine (unite_any g n (first + i) (first + A.length + j) f1 w4 (by omega) (by omega) HD.out HO4.out).mono ?_; rintro e w5 ⟨f2, rfl, o5, d5, r5, k5⟩))
          have HO5 : Hid (FoAt w5 g n f2) := o5
          have HD5 : Hid (Dn f2) := d5
          have HK5 : Hid (Kin n T f2) := unF_kin HEQ.out (by omega) (by omega) r5 (HTT.out HAB.out.1 HAB.out.2) HK.out
          have HR5 : Hid (∀ a b, rt f1 a = rt f1 b → rt f2 a = rt f2 b) := fun a b => unF_keep r5
          have HS5 : Hid (rt f2 (first + i) = rt f2 (first + A.length + j)) := unF_same r5
          have HF5 : Hid (Fr (fun k => k = g) w w5) := HF4.out.trans k5 (fun _ _ h => h)
          clear o5 d5 r5 k5
          have HS5 : Hid (a1 ≤ b2 → b1 ≤ a2 → rt f2 (first + i) = rt f2 (first + A.length + j)) := fun _ _ => HS5.out
          have HN : Hid ((a2 < b2 → Met A B first (i + 1) j f2) ∧ (¬ a2 < b2 → Met A B first i (j + 1) f2)) := HNX.out f2 w5 HO5.out HD5.out HK5.out HR5.out HS5.out
          have HKP5 : Hid (∀ a b, rt f a = rt f b → rt f2 a = rt f2 b) := fun a b h => HR5.out a b (HKP.out a b h)
          obtain ⟨c0, c1, c2, c3⟩ := HRD.out w5 HF5.out
          clear HNX HL HR HTT HT HRD HR5 HS5 HKP HM HK HO HD
          by_cases hlt : a2 < b2
          · have dl : decide (a2 < b2) = true := decide_eq_true hlt
            go_wp2_with fail
            go_quiet (fail)
            go_wp2_with fail
            go_roundg (A.length + B.length - (i + 1 + j))
            case measure => omega
            case rel => exact ⟨i + 1, j, f2, by omega, by omega, by omega, rfl, rfl, HO5.out.drewN _, HD5.out, HK5.out, HKP5.out, HN.out.1 hlt, HF5.out.drewN _⟩
          · have dl : decide (a2 < b2) = false := decide_eq_false hlt
            go_wp2_with fail
            go_quiet (fail)
            go_wp2_with fail
            go_roundg (A.length + B.length - (i + (j + 1)))
            case measure => omega
            case rel => exact ⟨i, j + 1, f2, by omega, by omega, by omega, rfl, rfl, HO5.out.drewN _, HD5.out, HK5.out, HKP5.out, HN.out.2 hlt, HF5.out.drewN _⟩
        | false =>
          have HAB : Hid (¬ (a1 ≤ b2 ∧ b1 ≤ a2)) := by have := HTB.out; show ¬ _; simpa using this
          have HO5 : Hid (FoAt w4 g n f1) := HO4.out
          have HD5 : Hid (Dn f1) := HD.out
          have HK5 : Hid (Kin n T f1) := HK.out
          have HR5 : Hid (∀ a b, rt f1 a = rt f1 b → rt f1 a = rt f1 b) := fun _ _ h => h
          have HF5 : Hid (Fr (fun k => k = g) w w4) := HF4.out
          have HS5 : Hid (a1 ≤ b2 → b1 ≤ a2 → rt f1 (first + i) = rt f1 (first + A.length + j)) := fun u v => absurd ⟨u, v⟩ HAB.out
          have HN : Hid ((a2 < b2 → Met A B first (i + 1) j f1) ∧ (¬ a2 < b2 → Met A B first i (j + 1) f1)) := HNX.out f1 w4 HO5.out HD5.out HK5.out HR5.out HS5.out
          have HKP5 : Hid (∀ a b, rt f a = rt f b → rt f1 a = rt f1 b) := fun a b h => HR5.out a b (HKP.out a b h)
          obtain ⟨c0, c1, c2, c3⟩ := HRD.out w4 HF5.out
          clear HNX HL HR HTT HT HRD HR5 HS5 HKP HM HK HO HD
          by_cases hlt : a2 < b2
          · have dl : decide (a2 < b2) = true := decide_eq_true hlt
            go_wp2_with fail
            go_quiet (fail)
            go_wp2_with fail
            go_roundg (A.length + B.length - (i + 1 + j))
            case measure => omega
            case rel => exact ⟨i + 1, j, f1, by omega, by omega, by omega, rfl, rfl, HO5.out.drewN _, HD5.out, HK5.out, HKP5.out, HN.out.1 hlt, HF5.out.drewN _⟩
          · have dl : decide (a2 < b2) = false := decide_eq_false hlt
            go_wp2_with fail
            go_quiet (fail)
            go_wp2_with fail
            go_roundg (A.length + B.length - (i + (j + 1)))
            case measure => omega
            case rel => exact ⟨i, j + 1, f1, by omega, by omega, by omega, rfl, rfl, HO5.out.drewN _, HD5.out, HK5.out, HKP5.out, HN.out.2 hlt, HF5.out.drewN _⟩
      · have d1 : decide (i < A.length) = true := decide_eq_true h1
        have d2 : decide (j < B.length) = false := decide_eq_false h2
        have HE : Hid (∀ (a b : Nat) (ha : a < A.length) (hb : b < B.length), A[a].1 ≤ B[b].2 → B[b].1 ≤ A[a].2 → rt f1 (first + a) = rt f1 (first + A.length + b)) := fun a b ha hb => HM.out a b ha hb (by omega)
        go_wp2_with fail
        go_end0
        exact ⟨f1, rfl, HO.out, HD.out, HK.out, HKP.out, HE.out, HF.out⟩
    · have d1 : decide (i < A.length) = false := decide_eq_false h1
      have HE : Hid (∀ (a b : Nat) (ha : a < A.length) (hb : b < B.length), A[a].1 ≤ B[b].2 → B[b].1 ≤ A[a].2 → rt f1 (first + a) = rt f1 (first + A.length + b)) := fun a b ha hb => HM.out a b ha hb (by omega)
      go_wp2_with fail
      go_end0
      exact ⟨f1, rfl, HO.out, HD.out, HK.out, HKP.out, HE.out, HF.out⟩

end Go.Proofs.Ytgpciopoionmeaa
