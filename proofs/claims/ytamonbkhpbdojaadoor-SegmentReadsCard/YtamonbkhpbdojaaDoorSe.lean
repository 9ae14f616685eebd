/- Segments' headers: the reader's 'kind' and 'rising'. -/
import Derived.Test.YtamonbkhpbdojaaDoorSd
import Derived.Test.YtamonbkhpbdojaaDoorRef
namespace Go.Proofs.YtamonbkhpbdojaaDoor
set_option maxRecDepth 100000
open Go.RowKit

def PanW (er : Nat) (e : Ending) : Prop := e = .panicked [{ v := .iface 29 (.int .i64 (er : Int)), recovered := false }]

def kindS (l : List Nat) (a : Nat) : Nat × Nat × Nat :=
  if l.length ≤ a then (163, 0, 0) else if 1 ≤ l[a]?.getD 0 ∧ l[a]?.getD 0 ≤ 7 then (0, l[a]?.getD 0, a + 1) else (161, 0, 0)

theorem take8_pt {l : List Nat} {a : Nat} (hb : ∀ x ∈ l, x < 256) (h : a < l.length) : num (nextBits (pt l a 1) 0 8) = l[a]?.getD 0 := by
  have := num_at (pt l a 1) 0 (pt_lt a 1 hb) (by rw [length_pt]; omega)
  rw [pt_get l a 1 0 (by omega)] at this
  exact this

set_option maxHeartbeats 2000000 in
theorem kind_end (bs : Nat) (ao : Option Addr) (cap : Nat) (l : List Nat) (a : Nat) (w : World) (h : SR w bs ao cap l a) (ha : l.length ≤ a) :
    Calls Tryd.prog 57 #[.pointer (some ⟨bs, 0, none⟩)] w (Pan 163 w) := by
  have hlen := length_pt l a 1
  have HP : Hid (Calls Tryd.prog 64 #[.pointer (some ⟨bs, 0, none⟩), .int .i64 1] w (PartP w (pt l a 1))) := part_any bs ao cap l a 1 w h (by omega) (by omega)
  have HE : Hid (8 * (pt l a 1).length < 0 + 8) := by show _ < _; omega
  clear h hlen ha
  go_enter Tryd.func57, Tryd.ntmps57
  go_wp2_with fail
  refine HP.out.mono ?_
  rintro e w1 ⟨br, v, rfl, hr1, hf1, hb1, hv1⟩
  have HRA : Hid (RAt w1 br v (pt l a 1) 0) := hr1
  have HF1 : Hid (Fr (fun _ => False) w w1) := hf1
  clear hr1 hf1 hv1 HP hb1
  go_wp2_with fail
  refine (take_end br v _ 0 8 _ HRA.out (by omega) HE.out).mono ?_
  rintro e w2 ⟨rfl, q2, rfl⟩
  go_wp2_with fail
  refine (demandBits_end _).mono ?_
  rintro e w4 ⟨rfl, rfl⟩
  exact ⟨rfl, rfl, HF1.out.drewN q2⟩

set_option maxHeartbeats 2000000 in
theorem kind_any (bs : Nat) (ao : Option Addr) (cap : Nat) (l : List Nat) (a x : Nat) (w : World) (h : SR w bs ao cap l a) (ha : a < l.length) (hx : l[a]?.getD 0 = x) :
    Calls Tryd.prog 57 #[.pointer (some ⟨bs, 0, none⟩)] w fun e w' => Fr (fun k => k = bs) w w' ∧ ((1 ≤ x ∧ x ≤ 7 ∧ e = .returned (.int .i64 (x : Int)) ∧ SR w' bs ao cap l (a + 1)) ∨ (¬ (1 ≤ x ∧ x ≤ 7) ∧ PanW 161 e)) := by
  have hlen := length_pt l a 1
  have hx2 : x < 256 := by
    rw [List.getElem?_eq_getElem ha] at hx
    rw [← hx]; exact h.byt _ (List.getElem_mem ha)
  have HP : Hid (Calls Tryd.prog 64 #[.pointer (some ⟨bs, 0, none⟩), .int .i64 1] w (PartP w (pt l a 1))) := part_any bs ao cap l a 1 w h (by omega) (by omega)
  have HE : Hid (0 + 8 ≤ 8 * (pt l a 1).length) := by show _ ≤ _; omega
  have HX : Hid (num (nextBits (pt l a 1) 0 8) = x) := by show _ = _; rw [take8_pt h.byt ha]; exact hx
  have HS : Hid (SR w bs ao cap l a) := h
  have hlt := h.lt
  have hlim := h.lim
  clear h hlen hx
  go_enter Tryd.func57, Tryd.ntmps57
  go_wp2_with fail
  refine HP.out.mono ?_
  rintro e w1 ⟨br, v, rfl, hr1, hf1, hb1, hv1⟩
  have HRA : Hid (RAt w1 br v (pt l a 1) 0) := hr1
  have HF1 : Hid (Fr (fun _ => False) w w1) := hf1
  have HL1 : Hid (bs < w.heap.size ∧ w.heap.size ≤ br) := ⟨hlt, hb1⟩
  clear hr1 hf1 hv1 HP hb1 hlt
  go_wp2_with fail
  refine (take_any br v _ 0 8 _ HRA.out (by omega) HE.out).mono ?_
  rw [HX.out]
  rintro e w2 ⟨rfl, hr2, hf2⟩
  have HF2 : Hid (Fr (fun _ => False) w w2) := by
    refine HF1.out.trans hf2 (fun i hi e => ?_)
    have := HL1.out; omega
  have HS2 : Hid (SR w2 bs ao cap l a) := HS.out.keptF HF2.out
  clear hr2 hf2
  go_wp2_with fail
  refine (demandBits_ok _).mono ?_
  rintro e w4 ⟨rfl, rfl⟩
  go_wp2_with fail
  refine (between64_any _ _ _ _).mono ?_
  rintro e w5 ⟨rfl, rfl⟩
  by_cases hk : 1 ≤ x ∧ x ≤ 7
  · have d1 : (decide ((1 : Int) ≤ (x : Int)) && decide ((x : Int) ≤ 7)) = true := by rw [decide_eq_true (by omega), decide_eq_true (by omega)]; rfl
    rw [d1]
    go_wp2_with fail
    refine (demand_yes _ _).mono ?_
    rintro e w6 ⟨rfl, rfl⟩
    obtain ⟨s0, s1, sf⟩ := cell_of_two HS2.out.blk
    have e1 : IntKind.i64.wrap ((a : Int) + 1) = (a : Int) + 1 := by rw [IntKind.wrap_i64]; omega
    have e2 : IntKind.i64.wrap (x : Int) = (x : Int) := by rw [IntKind.wrap_i64]; omega
    go_wp2_with fail
    go_ret
    exact ⟨(HF2.out.mono (T := fun k => k = bs) (fun _ _ h => h.elim)).setCell (fun _ => rfl) _, Or.inl ⟨hk.1, hk.2, rfl, HS2.out.moved (by omega) (by omega)⟩⟩
  · have d1 : (decide ((1 : Int) ≤ (x : Int)) && decide ((x : Int) ≤ 7)) = false := by
      rcases Nat.lt_or_ge x 1 with h | h
      · rw [decide_eq_false (by omega), Bool.false_and]
      · rw [decide_eq_false (by omega : ¬ (x : Int) ≤ 7), Bool.and_false]
    rw [d1]
    go_wp2_with fail
    refine (demand_no _ _).mono ?_
    rintro e w6 ⟨rfl, rfl⟩
    exact ⟨rfl, (HF2.out.mono (T := fun k => k = bs) (fun _ _ h => h.elim)), Or.inr ⟨hk, rfl⟩⟩

/-- What 'rising' reads: so many numbers, from 'least' on, up to 'last'. -/
def risS (l : List Nat) (last : Nat) : Nat → Nat → Nat → Nat × List Nat × Nat
  | 0, a, _ => (0, [], a)
  | c + 1, a, least =>
    if (numS l a least last).1 = 0 then ((risS l last c (numS l a least last).2.2 ((numS l a least last).2.1 + 1)).1, (numS l a least last).2.1 :: (risS l last c (numS l a least last).2.2 ((numS l a least last).2.1 + 1)).2.1, (risS l last c (numS l a least last).2.2 ((numS l a least last).2.1 + 1)).2.2)
    else ((numS l a least last).1, [], 0)
def appR (L : List Nat) (r : Nat × List Nat × Nat) : Nat × List Nat × Nat := (r.1, L ++ r.2.1, r.2.2)
theorem appR_app (L M : List Nat) (r : Nat × List Nat × Nat) : appR L (appR M r) = appR (L ++ M) r := by simp [appR]
theorem risS_more {l : List Nat} {last c a least n a' : Nat} (h : numS l a least last = (0, n, a')) : risS l last (c + 1) a least = appR [n] (risS l last c a' (n + 1)) := by
  simp [risS, h, appR]
theorem risS_no {l : List Nat} {last c a least : Nat} (h : (numS l a least last).1 ≠ 0) : risS l last (c + 1) a least = ((numS l a least last).1, [], 0) := by
  simp [risS, h]

def intCells (l : List Nat) : List Value := l.map fun (x : Nat) => Value.int .i64 x
theorem length_intCells (l : List Nat) : (intCells l).length = l.length := by simp [intCells]
theorem intCells_snoc (l : List Nat) (x : Nat) : intCells (l ++ [x]) = intCells l ++ [Value.int .i64 (x : Int)] := by simp [intCells]

theorem SR.blt {w : World} {bs : Nat} {ao : Option Addr} {cap : Nat} {l : List Nat} {a : Nat} (h : SR w bs ao cap l a) (hl : l ≠ []) : ∀ b off, ao = some ⟨b, off, none⟩ → b < w.heap.size := by
  intro b off e
  obtain ⟨b', off', e', hc⟩ := h.seen hl
  rw [e] at e'
  cases e'
  have := hc 0 (List.length_pos_iff.2 hl)
  rcases Nat.lt_or_ge b w.heap.size with h | h
  · exact h
  · simp [World.cell?, Array.getElem?_eq_none h] at this
end Go.Proofs.YtamonbkhpbdojaaDoor
