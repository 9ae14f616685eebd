/- A class more: what memory says behind each step. -/
import Derived.Test.YtodgdbbhllejkaaKCl
namespace Go.Proofs.Ytodgdbbhllejkaa
open Go.RowKit Go.Maps

variable {w w' : World} {base bc bm t m : Nat} {A : Nat → Bp} {R : List Nat} {rv : Value} {U : Nat → Value} {D : DataW Value} {V : Nat → Nat → Value}

theorem getD_append_lt (R : List Nat) (i : Nat) {c : Nat} (h : c < R.length) : (R ++ [i]).getD c 0 = R.getD c 0 := by
  rw [List.getD_eq_getElem?_getD, List.getD_eq_getElem?_getD, List.getElem?_append_left h]
theorem getD_append_eq (R : List Nat) (i : Nat) : (R ++ [i]).getD R.length 0 = i := by
  rw [List.getD_eq_getElem?_getD, List.getElem?_append_right (Nat.le_refl _), Nat.sub_self]; rfl
theorem ofSz_snoc (sz : Nat → Nat → Nat → Bool) (R : List Nat) (i x y : Nat) : ofSz sz (R ++ [i]) x y = ofSz sz R x y ++ (if sz i x y then [R.length] else []) := by
  unfold ofSz
  rw [List.length_append, List.length_singleton, List.range_succ, List.filter_append]
  congr 1
  · refine List.filter_congr fun c hc => ?_
    rw [getD_append_lt R i (List.mem_range.1 hc)]
  · simp only [List.filter_cons, List.filter_nil, getD_append_eq]
theorem length_ofSz (sz : Nat → Nat → Nat → Bool) (R : List Nat) (x y : Nat) : (ofSz sz R x y).length ≤ R.length := by
  have := List.length_filter_le (fun c => sz (R.getD c 0) x y) (List.range R.length)
  rw [List.length_range] at this
  exact this
theorem repCells_snoc (A : Nat → Bp) (U : Nat → Value) (R : List Nat) (i : Nat) (u : Value) : repCells A (updU U R.length u) (R ++ [i]) (R.length + 1) = repCells A U R R.length ++ [.int .i64 (A i).x, .int .i64 (A i).y, u] := by
  show repCells A (updU U R.length u) (R ++ [i]) R.length ++ _ = _
  rw [getD_append_eq, show updU U R.length u R.length = u from if_pos rfl]
  congr 1
  refine repCells_congr fun c hc => ?_
  rw [getD_append_lt R i hc]
  exact ⟨rfl, rfl, if_neg (by omega)⟩

theorem grown_fr {S : Nat → Prop} {a b : World} {row : Option Nat} (hg : a.grownBy b row) (hs : ∀ k, row = some k → S k) : Fr S a b :=
  (Fr.refl S a).grown hg (fun k hk _ => hs k hk)

theorem ClR.step {w1 w3 : World} {i g cap : Nat} {u : Value} (h : ClR w base bc bm t A R rv U) (hb : base ≤ w.heap.size) (f01 : Fr (fun _ => False) w w1) (hu : w1.ownsRow w.heap.size 23 1 u (A i).l.length (wordCells (A i).l))
    (o : Obj) (ho : w3.ownsRow 0 48 3 (.slice (some ⟨g, 0, none⟩) (R.length + 1) cap) (R.length + 1) (repCells A U R R.length ++ [.int .i64 (A i).x, .int .i64 (A i).y, u]))
    (hg : (w1.alloc o).grownBy w3 rv.ownBlock) (hloc : rv.ownBlock = some g ∨ (w1.alloc o).heap.size ≤ g) :
    ClR (w3.setCell ⟨bc, 1, none⟩ (.slice (some ⟨g, 0, none⟩) (R.length + 1) cap)) base bc bm t A (R ++ [i]) (.slice (some ⟨g, 0, none⟩) (R.length + 1) cap) (updU U R.length u) ∧
    Fr (fun k => k = bc ∨ rv.ownBlock = some k) w (w3.setCell ⟨bc, 1, none⟩ (.slice (some ⟨g, 0, none⟩) (R.length + 1) cap)) := by
  have hbr : rv.ownBlock ≠ some bc := row_not_cells h.reps h.blk (by decide)
  have hsz := f01.size
  have f13 : Fr (fun k => rv.ownBlock = some k) w w3 := ((f01.alloc o).mono (fun _ _ h => h.elim)).trans (grown_fr (S := fun k => rv.ownBlock = some k) hg (fun k hk => hk)) (fun _ _ h => h)
  have hb3 : w3.heap[bc]? = some (.cells #[.float .f64 t, rv, .map (some bm)] 60 (0, 0)) := by rw [f13.block bc (lt_of_block h.blk) hbr]; exact h.blk
  have hf4 : Fr (fun k => k = bc) w3 (w3.setCell ⟨bc, 1, none⟩ (.slice (some ⟨g, 0, none⟩) (R.length + 1) cap)) := (Fr.refl (fun k => k = bc) w3).setCell (p := ⟨bc, 1, none⟩) (fun _ => rfl) _
  have hgb : ∀ k, Value.ownBlock (.slice (some ⟨g, 0, none⟩) (R.length + 1) cap) = some k → k ≠ bc := fun k hk e => by
    subst e
    exact row_not_cells ho hb3 (by decide) hk
  have hgbase : base ≤ g := by
    rcases hloc with e | e
    · exact (h.reps.lt g e).1
    · rw [World.size_alloc] at e; omega
  have hlen : (R ++ [i]).length = R.length + 1 := by simp
  refine ⟨⟨?_, ?_, ?_, ?_⟩, ?_⟩
  · simp [World.setCell, Array.getElem?_modify, hb3]
  · rw [hlen, repCells_snoc]
    refine ownsRow_base (row_kept ho hf4 (fun k hk e => hgb k hk e)) (fun k hk => ?_)
    simp [Value.ownBlock] at hk
    omega
  · intro c hc
    rw [hlen] at hc
    by_cases e : c = R.length
    · subst e
      rw [getD_append_eq, show updU U R.length u R.length = u from if_pos rfl]
      have q1 : w3.ownsRow w.heap.size 23 1 u _ _ := row_kept hu (((Fr.refl (fun k => rv.ownBlock = some k) w1).alloc o).trans (grown_fr (S := fun k => rv.ownBlock = some k) hg (fun k hk => hk)) (fun _ _ h => h)) (fun k hk e => by
        have h1 := (hu.lt k hk).1
        have h2 := (h.reps.lt k e).2
        omega)
      refine ownsRow_base (row_kept q1 hf4 (fun k hk e => by
        subst e
        have h1 := (hu.lt k hk).1
        have := lt_of_block h.blk
        omega)) (fun k hk => by have := (hu.lt k hk).1; omega)
    · have hc' : c < R.length := by omega
      rw [getD_append_lt R i hc', show updU U R.length u c = U c from if_neg e]
      have q0 := h.words c hc'
      have q1 := row_kept q0 f13 (fun k hk e => by
        rcases own_ne2 q0 h.reps (by decide) with h' | h'
        · rw [h'] at hk; cases hk
        · exact h' (hk.trans e.symm))
      exact row_kept q1 hf4 (fun k hk e => by subst e; exact row_not_cells q0 h.blk (by decide) hk)
  · intro c c' g' hc hc' hne h1 h2
    rw [hlen] at hc hc'
    unfold updU at h1 h2
    by_cases e : c = R.length
    · by_cases e' : c' = R.length
      · omega
      · rw [if_pos e] at h1
        rw [if_neg e'] at h2
        have k1 := (hu.lt g' h1).1
        have k2 := ((h.words c' (by omega)).lt g' h2).2
        omega
    · rw [if_neg e] at h1
      by_cases e' : c' = R.length
      · rw [if_pos e'] at h2
        have k1 := (hu.lt g' h2).1
        have k2 := ((h.words c (by omega)).lt g' h1).2
        omega
      · rw [if_neg e'] at h2
        exact h.wsep c c' g' (by omega) (by omega) hne h1 h2
  · exact (f13.mono (fun _ _ h => Or.inr h)).trans hf4 (fun _ _ h => Or.inl h)

def updV (V : Nat → Nat → Value) (x y : Nat) (v : Value) : Nat → Nat → Value := fun a b => if a = x ∧ b = y then v else V a b

theorem ClM.off {x y : Nat} (h : ClM w base bm A R m D V) : (V x y).ownBlock ≠ some bm := by
  obtain ⟨es, cl, hb, _⟩ := h.map
  exact row_not_map (h.row x y) hb

theorem ClM.step {w2 w3 w4 : World} {i x y g cap : Nat} (h : ClM w base bm A R m D V) (hx : x ≤ 1048576) (hy : y ≤ 1048576) (hAx : (A i).x = x) (hAy : (A i).y = y) (hb1 : base ≤ w.heap.size) (f12 : Fr (fun _ => False) w w2)
    (ho3 : w3.ownsRow 0 3 1 (.slice (some ⟨g, 0, none⟩) ((ofSz (szB A) R x y).length + 1) cap) ((ofSz (szB A) R x y).length + 1) (intCells (ofSz (szB A) R x y) ++ [.int .i64 (R.length : Int)]))
    (h23 : w2.grownBy w3 (V x y).ownBlock) (hloc : (V x y).ownBlock = some g ∨ w2.heap.size ≤ g)
    (ho4 : w4.ownsMap Try.prog 77 heldR bm (m + 1) (D.put (kS x y) (.held (.slice (some ⟨g, 0, none⟩) ((ofSz (szB A) R x y).length + 1) cap)))) (h34 : w3.grownBy w4 (some bm)) :
    ClM w4 base bm A (R ++ [i]) (m + 1) (D.put (kS x y) (.held (.slice (some ⟨g, 0, none⟩) ((ofSz (szB A) R x y).length + 1) cap))) (updV V x y (.slice (some ⟨g, 0, none⟩) ((ofSz (szB A) R x y).length + 1) cap)) ∧
    Fr (fun k => k = bm ∨ (V x y).ownBlock = some k) w w4 := by
  have hIM := h.map.isMap
  have hsz := f12.size
  have hself : szB A i x y = true := by unfold szB; rw [hAx, hAy]; simp
  have hoth : ∀ a b, ¬ (a = x ∧ b = y) → szB A i a b = false := fun a b hn => by
    unfold szB
    rw [hAx, hAy]
    by_cases e : x = a
    · have : y ≠ b := fun e' => hn ⟨e.symm, e'.symm⟩
      rw [Bool.and_eq_false_iff]; exact Or.inr (decide_eq_false (by omega))
    · rw [Bool.and_eq_false_iff]; exact Or.inl (decide_eq_false (by omega))
  have hnb : some g ≠ some bm := by
    have hblt := h.map.lt
    intro e
    cases e
    rcases hloc with e | e
    · exact h.off e
    · omega
  have hother : ∀ a b, ¬ (a = x ∧ b = y) → (V a b).ownBlock ≠ some g := fun a b hk e => by
    rcases hloc with e' | e'
    · exact h.vsep x y a b g (fun e => hk (by simp at e; exact ⟨e.1.symm, e.2.symm⟩)) e' e
    · have := ((h.row a b).lt g e).2; omega
  refine ⟨⟨ho4, fun a b ha hb => ?_, fun a b => ?_, fun a b a' b' g' hne hk hk' => ?_⟩, ?_⟩
  · unfold updV
    by_cases e : a = x ∧ b = y
    · obtain ⟨rfl, rfl⟩ := e
      rw [if_pos ⟨rfl, rfl⟩, atKey_put_same hIM (kS_key _ _)]
    · rw [if_neg e, atKey_put_other (fun h => e (kS_inj ha hb hx hy h)), h.val a b ha hb]
  · rw [ofSz_snoc]
    unfold updV
    by_cases e : a = x ∧ b = y
    · obtain ⟨rfl, rfl⟩ := e
      rw [if_pos ⟨rfl, rfl⟩, if_pos hself, List.length_append, intCells_append]
      exact ownsRow_base (World.ownsRow.kept ho3 h34 (Or.inr hnb)) (fun j hj => by
        simp [Value.ownBlock] at hj
        subst hj
        rcases hloc with e' | e'
        · exact ((h.row a b).lt _ e').1
        · omega)
    · rw [if_neg e, if_neg (by rw [hoth a b e]; decide), List.append_nil]
      have q1 := row_kept (h.row a b) f12 (fun _ _ h => h)
      have q2 : w3.ownsRow base 3 1 (V a b) _ _ := q1.kept h23 (by
        cases hv : (V a b).ownBlock with
        | none => exact Or.inl rfl
        | some g' => exact Or.inr (fun e' => h.vsep a b x y g' (fun e2 => e (by simp at e2; exact e2)) hv e'.symm))
      exact q2.kept h34 (Or.inr h.off)
  · unfold updV at hk hk'
    by_cases e : a = x ∧ b = y
    · rw [if_pos e] at hk
      rw [if_neg (fun e' => hne (by rw [e.1, e.2, e'.1, e'.2]))] at hk'
      simp [Value.ownBlock] at hk
      subst hk
      exact hother a' b' (fun e' => hne (by rw [e.1, e.2, e'.1, e'.2])) hk'
    · rw [if_neg e] at hk
      by_cases e' : a' = x ∧ b' = y
      · rw [if_pos e'] at hk'
        simp [Value.ownBlock] at hk'
        subst hk'
        exact hother a b e hk
      · rw [if_neg e'] at hk'
        exact h.vsep a b a' b' g' hne hk hk'
  · exact ((f12.mono (fun _ _ h => h.elim)).trans (grown_fr (S := fun k => k = bm ∨ (V x y).ownBlock = some k) h23 (fun k hk => Or.inr hk)) (fun _ _ h => h)).trans (grown_fr (S := fun k => k = bm ∨ (V x y).ownBlock = some k) h34 (fun k hk => Or.inl (Option.some.inj hk).symm)) (fun _ _ h => h)

end Go.Proofs.Ytodgdbbhllejkaa
