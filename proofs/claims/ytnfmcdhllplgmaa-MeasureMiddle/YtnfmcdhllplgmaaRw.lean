/- Rows of floats: 'floats' of words; the middle of a row, of both. -/
import Derived.Test.YtnfmcdhllplgmaaSh
import Derived.Test.YtnfmcdhllplgmaaOp
import Derived.Deep.LoopGhost
import Derived.WalkMore
namespace Go.Proofs.Ytnfmcdhllplgmaa
open Go.RowKit Ieee

theorem Try.infoF : (Try.prog.info? 23).map (fun i => (i.zero, i.size, i.bytes)) = some (some (.float .f64 0), 1, 8) := by kernel_rfl

/-- Floats as cells. -/
def flCells (F : Nat → Nat) (n : Nat) : List Value := (List.range n).map fun j => .float .f64 (F j)
theorem flCells_succ (F : Nat → Nat) (n : Nat) : flCells F (n + 1) = flCells F n ++ [.float .f64 (F n)] := by
  unfold flCells; rw [List.range_succ, List.map_append]; rfl
theorem flCells_len (F : Nat → Nat) (n : Nat) : (flCells F n).length = n := by simp [flCells]
theorem flCells_get (F : Nat → Nat) {n j : Nat} (h : j < n) : (flCells F n)[j]? = some (.float .f64 (F j)) := by
  unfold flCells; rw [List.getElem?_map, List.getElem?_range h]; rfl
theorem cell_one_new (w : World) (a : Value) (t : TypeId) (j : Nat) (u : Value) (h : [a][j]? = some u) : (w.alloc (.cells #[a] t)).cell? ((⟨w.heap.size, 0, none⟩ : Addr).add j) = some u :=
  (World.ownsRow_lit (base := 0) (e := t) (size := 1) w #[a] 1 (Nat.zero_le _) (by decide) rfl).cells rfl j u h

/-- Floats in a row. -/
def FlAt (w : World) (ao : Option Addr) (n : Nat) (F : Nat → Nat) : Prop :=
  0 < n → ∃ b off, ao = some ⟨b, off, none⟩ ∧ ∀ j, j < n → w.cell? ⟨b, off + j, none⟩ = some (.float .f64 (F j))
theorem FlAt.kept {w w' : World} {ao : Option Addr} {n : Nat} {F : Nat → Nat} (h : FlAt w ao n F) (f : Fr (fun _ => False) w w') : FlAt w' ao n F := by
  intro hn
  obtain ⟨b, off, e, hc⟩ := h hn
  refine ⟨b, off, e, fun j hj => ?_⟩
  have h0 := hc j hj
  rw [f.cellEq (seen_lt h0) (fun h => h)]
  exact h0
theorem FlAt.of_own {w : World} {base : Nat} {v : Value} {n : Nat} {F : Nat → Nat} (h : w.ownsRow base 23 1 v n (flCells F n)) : ∃ ao cap, v = .slice ao n cap ∧ FlAt w ao n F ∧ cap ≤ maxLen := by
  obtain ⟨hl, ⟨rfl, rfl⟩ | ⟨g, cap, cur, rfl, hb, hg, hc, hm, hs, ht⟩⟩ := h
  · exact ⟨none, 0, rfl, fun h => absurd h (by omega), by decide⟩
  · refine ⟨some ⟨g, 0, none⟩, cap, rfl, fun hn => ⟨g, 0, rfl, fun j hj => ?_⟩, hm⟩
    have hcell : cur.toList[j]? = some (.float .f64 (F j)) := by
      have := flCells_get F hj
      rw [← ht, List.getElem?_take_of_lt (by omega)] at this
      exact this
    unfold World.cell?
    simp only [hg]
    rw [Nat.zero_add]
    simpa using hcell

/-- c is what an operation gives. -/
def OpR (op : BinOp) (a b c : Nat) : Prop := c < 18446744073709551616 ∧ (floatBits op .f64 a b = some c ∨ floatBits op .f64 a b = none ∧ isN c = true)
def Al (x y : Nat) : Prop := x = y ∨ isN x = true ∧ isN y = true
theorem add_nan {x y : Nat} (h : infR < rg x) : floatBits .add .f64 x y = none := by
  show double.add x y = none
  unfold Format.add; rw [read_nan h]; rfl
theorem div_nan {x y : Nat} (h : infR < rg x) : floatBits .quo .f64 x y = none := by
  show double.div x y = none
  unfold Format.div; rw [read_nan h]; rfl
theorem OpR.al {op : BinOp} (hop : op = .add ∨ op = .quo) {a a' b c c' : Nat} (ha : Al a a') (h : OpR op a b c) (h' : OpR op a' b c') : Al c c' := by
  have nn : ∀ x, isN x = true → floatBits op .f64 x b = none := fun x hx => by
    rcases hop with rfl | rfl
    · exact add_nan (isN_true hx)
    · exact div_nan (isN_true hx)
  rcases ha with rfl | ⟨n1, n2⟩
  · rcases h.2 with e | ⟨e, f⟩ <;> rcases h'.2 with e' | ⟨e', f'⟩
    · rw [e] at e'; cases e'; exact Or.inl rfl
    · rw [e] at e'; cases e'
    · rw [e] at e'; cases e'
    · exact Or.inr ⟨f, f'⟩
  · have m1 := nn a n1
    have m2 := nn a' n2
    rcases h.2 with e | ⟨_, f⟩
    · rw [m1] at e; cases e
    · rcases h'.2 with e' | ⟨_, f'⟩
      · rw [m2] at e'; cases e'
      · exact Or.inr ⟨f, f'⟩
theorem Al.same {x y : Nat} (h : Al x y) : sameB x y = true := by
  rcases h with rfl | ⟨a, b⟩
  · exact sameB_self x
  · exact sameB_nan a b

def SumR (F : Nat → Nat) : Nat → Nat → Prop
  | 0, s => s = F 0
  | k + 1, s => ∃ s', SumR F k s' ∧ OpR .add s' (F (k + 1)) s
theorem SumR.al {F : Nat → Nat} : ∀ {k s s' : Nat}, SumR F k s → SumR F k s' → Al s s'
  | 0, _, _, h, h' => Or.inl (h.trans h'.symm)
  | _ + 1, _, _, ⟨_, h1, h2⟩, ⟨_, h1', h2'⟩ => OpR.al (Or.inl rfl) (SumR.al h1 h1') h2 h2'
def MeanR (F : Nat → Nat) (n x : Nat) : Prop := ∃ s, SumR F (n - 1) s ∧ OpR .quo s (fi n) x
theorem MeanR.al {F : Nat → Nat} {n x y : Nat} (h : MeanR F n x) (h' : MeanR F n y) : Al x y := by
  obtain ⟨s, h1, h2⟩ := h
  obtain ⟨s', h1', h2'⟩ := h'
  exact OpR.al (Or.inr rfl) (h1.al h1') h2 h2'

set_option maxRecDepth 100000 in
theorem nanF_any (w : World) :
    Calls Try.prog 26 #[] w fun e w' => e = .returned (.float .f64 9221120237041090561) ∧ w' = w := by
  have h2 := frombits_run
  go_enter Try.func26, Try.ntmps26
  go_wp2_with (simp only [h2])
  all_goals (go_ret; exact ⟨rfl, rfl⟩)

set_option maxRecDepth 100000 in
set_option maxHeartbeats 2000000 in
theorem mean_any (ao : Option Addr) (n cap : Nat) (F : Nat → Nat) (w : World) (h0 : 1 ≤ n) (hn : n ≤ 4000) (hc : n ≤ cap) (hcm : cap ≤ maxLen) (hv : FlAt w ao n F) :
    Calls Try.prog 13 #[.slice ao n cap] w fun e w' => ∃ x, e = .returned (.float .f64 x) ∧ MeanR F n x ∧ Fr (fun _ => False) w w' := by
  have HC : Hid (∀ w', Fr (fun _ => False) w w' → FlAt w' ao n F) := fun w' f => hv.kept f
  obtain ⟨b, off, rfl, hcell⟩ := hv (by omega)
  have c0 := hcell 0 (by omega)
  clear hv hcell
  unfold maxLen at hcm
  rw [Nat.add_zero] at c0
  have hn0 : ((n : Int) == 0) = false := by simp; omega
  by_cases hcap : cap = 1
  · obtain rfl : n = 1 := by omega
    subst hcap
    go_enter Try.func13, Try.ntmps13
    go_wp2_with fail
    go_loopg [3, 5, 16] 0 (fun q s _ i wr => i = .int .i64 0 ∧ s = .float .f64 (F 0) ∧ wr = w)
    case atStart => exact ⟨rfl, rfl, rfl⟩
    case round =>
      obtain ⟨rfl, rfl, rfl⟩ := hrel
      cases hx : floatBits .quo .f64 (F 0) (fi 1) with
      | some r =>
        have hop : ∀ ty w, (binOp .quo ty (.float .f64 (F 0)) (.float .f64 (floatOfInt .f64 (1 : Int)))).run Try.prog w = .ok (.float .f64 r) w := fun ty w => run_float_arith w .quo ty .f64 (F 0) _ r hx
        have HN : Hid (MeanR F 1 r) := ⟨F 0, rfl, by have := floatBits_wf hx; simpa [Lit.wf] using this, Or.inl hx⟩
        clear hx
        go_wp2_with fail
        all_goals (go_ret; exact ⟨_, rfl, HN.out, Fr.refl _ _⟩)
      | none =>
        have hop : ∀ ty w, (binOp .quo ty (.float .f64 (F 0)) (.float .f64 (floatOfInt .f64 (1 : Int)))).run Try.prog w = .ok (.float .f64 (nanOf w (F 0) (floatOfInt .f64 (1 : Int)))) w.drew := fun ty w => run_float_nan w .quo (by simp) ty (F 0) _ hx
        have HN : Hid (∀ w, MeanR F 1 (nanOf w (F 0) (floatOfInt .f64 (1 : Int)))) := fun w => ⟨F 0, rfl, (nanOf_nan _ _ _).2, Or.inr ⟨hx, isN_of (nanOf_nan _ _ _).1⟩⟩
        clear hx
        go_wp2_with fail
        all_goals (go_ret; exact ⟨_, rfl, HN.out _, (Fr.refl _ _).drew⟩)
  go_enter Try.func13, Try.ntmps13
  go_wp2_with fail
  go_loopg [3, 5, 16] (n - 1) (fun q s _ i wr => ∃ j S : Nat, j + q = n - 1 ∧ i = .int .i64 (j : Int) ∧ s = .float .f64 S ∧ SumR F j S ∧ Fr (fun _ => False) w wr)
  case atStart => exact ⟨0, F 0, by omega, rfl, rfl, rfl, Fr.refl _ _⟩
  case round =>
    obtain ⟨j, S, hjq, rfl, rfl, hS, hfr⟩ := hrel
    have HFr : Hid (Fr (fun _ => False) w wr) := hfr
    have HS : Hid (SumR F j S) := hS
    clear hS hfr
    by_cases h1 : j < n - 1
    · have d1 : decide (j < n - 1) = true := decide_eq_true h1
      have d1' : decide ((j : Int) < (n : Int) - 1) = true := decide_eq_true (by omega)
      obtain ⟨b', off', e', hc'⟩ := HC.out wr HFr.out (by omega)
      simp only [Option.some.injEq, Addr.mk.injEq, and_true] at e'
      obtain ⟨rfl, rfl⟩ := e'
      have c1 := hc' (j + 1) (by omega)
      have c1' : wr.cell? ⟨b, off + 1 + j, none⟩ = some (.float .f64 (F (j + 1))) := by rw [← c1]; congr 2; omega
      clear hc' c1
      obtain ⟨A, eA⟩ : ∃ A, F (j + 1) = A := ⟨_, rfl⟩
      rw [eA] at c1'
      cases hx : floatBits .add .f64 S A with
      | some r =>
        have hop : ∀ ty w, (binOp .add ty (.float .f64 S) (.float .f64 A)).run Try.prog w = .ok (.float .f64 r) w := fun ty w => run_float_arith w .add ty .f64 S A r hx
        have HN : Hid (SumR F (j + 1) r) := ⟨S, HS.out, by rw [eA]; exact ⟨by have := floatBits_wf hx; simpa [Lit.wf] using this, Or.inl hx⟩⟩
        clear hx eA
        go_wp2_with fail
        go_roundg (n - 1 - (j + 1))
        case measure => omega
        case rel => exact ⟨j + 1, r, by omega, congrArg (Value.int .i64) (by omega), rfl, HN.out, HFr.out⟩
      | none =>
        have hop : ∀ ty w, (binOp .add ty (.float .f64 S) (.float .f64 A)).run Try.prog w = .ok (.float .f64 (nanOf w S A)) w.drew := fun ty w => run_float_nan w .add (by simp) ty S A hx
        have HN : Hid (∀ w, SumR F (j + 1) (nanOf w S A)) := fun w => ⟨S, HS.out, by rw [eA]; exact ⟨(nanOf_nan _ _ _).2, Or.inr ⟨hx, isN_of (nanOf_nan _ _ _).1⟩⟩⟩
        clear hx eA
        go_wp2_with fail
        go_roundg (n - 1 - (j + 1))
        case measure => omega
        case rel => exact ⟨j + 1, _, by omega, congrArg (Value.int .i64) (by omega), rfl, HN.out _, HFr.out.drew⟩
    · have d1 : decide (j < n - 1) = false := decide_eq_false h1
      have d1' : decide ((j : Int) < (n : Int) - 1) = false := decide_eq_false (by omega)
      obtain rfl : j = n - 1 := by omega
      cases hx : floatBits .quo .f64 S (fi n) with
      | some r =>
        have hop : ∀ ty w, (binOp .quo ty (.float .f64 S) (.float .f64 (floatOfInt .f64 (n : Int)))).run Try.prog w = .ok (.float .f64 r) w := fun ty w => run_float_arith w .quo ty .f64 S _ r hx
        have HN : Hid (MeanR F n r) := ⟨S, HS.out, by have := floatBits_wf hx; simpa [Lit.wf] using this, Or.inl hx⟩
        clear hx
        go_wp2_with fail
        all_goals (go_ret; exact ⟨_, rfl, HN.out, HFr.out⟩)
      | none =>
        have hop : ∀ ty w, (binOp .quo ty (.float .f64 S) (.float .f64 (floatOfInt .f64 (n : Int)))).run Try.prog w = .ok (.float .f64 (nanOf w S (floatOfInt .f64 (n : Int)))) w.drew := fun ty w => run_float_nan w .quo (by simp) ty S _ hx
        have HN : Hid (∀ w, MeanR F n (nanOf w S (floatOfInt .f64 (n : Int)))) := fun w => ⟨S, HS.out, (nanOf_nan _ _ _).2, Or.inr ⟨hx, isN_of (nanOf_nan _ _ _).1⟩⟩
        clear hx
        go_wp2_with fail
        all_goals (go_ret; exact ⟨_, rfl, HN.out _, HFr.out.drew⟩)

set_option maxRecDepth 100000 in
theorem mean_none (ao : Option Addr) (cap : Nat) (w : World) :
    Calls Try.prog 13 #[.slice ao 0 cap] w fun e w' => ∃ x, e = .returned (.float .f64 x) ∧ isN x = true ∧ Fr (fun _ => False) w w' := by
  go_enter Try.func13, Try.ntmps13
  go_wp2_with fail
  refine (nanF_any _).mono ?_
  rintro e w1 ⟨rfl, rfl⟩
  go_wp2_with fail
  all_goals (go_ret; exact ⟨_, rfl, by decide, Fr.refl _ _⟩)

end Go.Proofs.Ytnfmcdhllplgmaa
