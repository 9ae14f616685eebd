/- 'CopyBitmap' of no words, and of any; 'CopyPieces'. -/
import Derived.Test.YtgpciopoionmeaaCw
import Derived.Test.YtgpciopoionmeaaCb
import Derived.Test.YtgpciopoionmeaaOs
import Derived.Test.YtgpciopoionmeaaEp
import Derived.Laws.OwnMore
namespace Go.Proofs.Ytgpciopoionmeaa
open Go.RowKit

theorem Try.infoPc : (Try.prog.info? 34).map (fun i => (i.zero, i.size, i.bytes)) = some (some (.agg #[.int .i64 0, .int .i64 0, .int .i64 0, .int .i64 0, .slice none 0 0]), 5, 56) := by kernel_rfl
theorem own_ne3 {w : World} {base base' e e' s s' n n' : Nat} {v v' : Value} {xs ys : List Value} (h : w.ownsRow base e s v n xs) (h' : w.ownsRow base' e' s' v' n' ys) (he : e ≠ e') : v.ownBlock = none ∨ v.ownBlock ≠ v'.ownBlock := by
  rcases h'.2 with ⟨rfl, _⟩ | ⟨g2, c2, cur2, rfl, _⟩
  · cases hv : v.ownBlock with
    | none => exact Or.inl rfl
    | some g => exact Or.inr (by simp [Value.ownBlock])
  · exact Or.inr (own_ne h h' he)

theorem run_append_zero {P : Program} (w : World) (t ty e : TypeId) (i : TypeInfo) (ht : P.underlying t = some (.slice e)) (hi : P.info? e = some i) (ao : Option Addr) (c : Nat) :
    (Builtin.append_ #[t, t] ty #[.slice none 0 0, .slice ao 0 c]).run P w = .ok (.slice none 0 0) w := by
  cases ao <;> simp [Builtin.append_, run_underlying ht, sizeOf, typeInfo, hi, Builtin.lenOf, Builtin.firstCells, loadCells, loadCellsFrom]

theorem step_append_zero {P : Program} {w : World} {ops : Array Oper} {o : Oper} {a : Act} {K : Act → World → Prop} {Q : Exit → Act → World → Prop} {E : Prop} (hgd : o.guard = none) (s x : Operand) (t : TypeId)
    (ho : o.op = .call { callee := .builtin .append, args := #[s, x], argTypes := #[t, t] }) (e : TypeId) (i : TypeInfo) (ht : P.underlying t = some (.slice e)) (hi : P.info? e = some i)
    (hs : a.eval s = .slice none 0 0) (ao : Option Addr) (c : Nat) (hx : a.eval x = .slice ao 0 c) (h : K (a.put o.dst (.slice none 0 0)) w) :
    if Region.wanted o (yielded ops a.tmps) = true then Oper.wp P o a w K Q else E := by
  have hw : Region.wanted o (yielded ops a.tmps) = true := by simp [Region.wanted, hgd]
  rw [if_pos hw]
  have hrun := run_append_zero (P := P) w t o.type e i ht hi ao c
  unfold Oper.wp execOp
  simp only [ho, resolve, invoke, builtin, Sem.run_bind, Sem.run_pure, Result.andThen_ok, List.map_toArray, List.map_cons, List.map_nil, hs, hx, hrun]
  exact h

set_option maxRecDepth 100000 in
set_option maxHeartbeats 4000000 in
theorem copy_none (x y : Int) (ao : Option Addr) (cap : Nat) (w : World) :
    Calls Try.prog 32 #[.agg #[.int .i64 x, .int .i64 y, .slice ao 0 cap]] w fun e w' => e = .returned (.agg #[.int .i64 x, .int .i64 y, .slice none 0 0]) ∧ Fr (fun _ => False) w w' := by
  obtain ⟨i0, hi, hz0, hz1, hz2⟩ := info_parts Try.infoUw
  have HA0 : Hid (Fr (fun _ => False) w ((w.alloc (.cells #[.int .i64 x, .int .i64 y, .slice ao 0 cap] 25)).alloc (.cells #[.int .i64 0, .int .i64 0, .slice none 0 0] 25))) := ((Fr.refl _ _).alloc _).alloc _
  have HB1 : Hid (∀ w', Fr (fun _ => False) ((w.alloc (.cells #[.int .i64 x, .int .i64 y, .slice ao 0 cap] 25)).alloc (.cells #[.int .i64 0, .int .i64 0, .slice none 0 0] 25)) w' → w'.heap[w.heap.size]? = some (.cells #[.int .i64 x, .int .i64 y, .slice ao 0 cap] 25 (0, 0)) ∧ w'.heap[w.heap.size + 1]? = some (.cells #[.int .i64 0, .int .i64 0, .slice none 0 0] 25 (0, 0))) := fun w' hf =>
    ⟨blkOld hf (blkUp (heap_alloc_new _ _) _), blkOld hf (by have := heap_alloc_new (w.alloc (.cells #[.int .i64 x, .int .i64 y, .slice ao 0 cap] 25)) (.cells #[.int .i64 0, .int .i64 0, .slice none 0 0] 25); rwa [World.size_alloc] at this)⟩
  go_enter Try.func32, Try.ntmps32
  go_wp2_with fail
  generalize hw0 : (w.alloc (.cells #[.int .i64 x, .int .i64 y, .slice ao 0 cap] 25)).alloc (.cells #[.int .i64 0, .int .i64 0, .slice none 0 0] 25) = w0 at *
  have HSZ : Hid (w0.heap.size = w.heap.size + 2) := by show _ = _; rw [← hw0]; simp
  clear hw0
  obtain ⟨hb1, hb2⟩ := HB1.out w0 (Fr.refl _ _)
  have HKB0 : Hid (w0.heap[w.heap.size + 1]? = some (.cells #[.int .i64 0, .int .i64 0, .slice none 0 0] 25 (0, 0))) := hb2
  obtain ⟨c0, c1, c2, _⟩ := cell_of_three hb1
  obtain ⟨d0, d1, d2, df⟩ := cell_of_three hb2
  have z0 := df 0
  have z1 := df 1
  have z2 := df 2
  clear hb1 hb2 df
  go_region_law ((refine step_append_zero (by rfl) _ _ _ (by rfl) 62 i0 Try.underlying23 hi (by rfl) ao cap (by rfl) ?_))
  all_goals
    go_wp2_with fail
    have hb5 := set3_cells HKB0.out (.int .i64 x) (.int .i64 y) (.slice none 0 0)
    have hfz : Fr (fun k => k = w.heap.size + 1) w0 (((w0.setCell ⟨w.heap.size + 1, 0, none⟩ (.int .i64 x)).setCell ⟨w.heap.size + 1, 1, none⟩ (.int .i64 y)).setCell ⟨w.heap.size + 1, 2, none⟩ (.slice none 0 0)) := (((Fr.refl (fun k => k = w.heap.size + 1) w0).setCell (p := ⟨w.heap.size + 1, 0, none⟩) (fun _ => rfl) _).setCell (p := ⟨w.heap.size + 1, 1, none⟩) (fun _ => rfl) _).setCell (p := ⟨w.heap.size + 1, 2, none⟩) (fun _ => rfl) _
    have HF : Hid (Fr (fun _ => False) w (((w0.setCell ⟨w.heap.size + 1, 0, none⟩ (.int .i64 x)).setCell ⟨w.heap.size + 1, 1, none⟩ (.int .i64 y)).setCell ⟨w.heap.size + 1, 2, none⟩ (.slice none 0 0))) := HA0.out.trans hfz (fun i hi e => by omega)
    generalize (((w0.setCell ⟨w.heap.size + 1, 0, none⟩ (.int .i64 x)).setCell ⟨w.heap.size + 1, 1, none⟩ (.int .i64 y)).setCell ⟨w.heap.size + 1, 2, none⟩ (.slice none 0 0)) = w5 at *
    obtain ⟨m0, m1, m2, _⟩ := cell_of_three hb5
    have n0 : w5.drew.cell? ⟨w.heap.size + 1, 0, none⟩ = some (.int .i64 x) := m0
    have n1 : w5.drew.cell? ⟨w.heap.size + 1, 1, none⟩ = some (.int .i64 y) := m1
    have n2 : w5.drew.cell? ⟨w.heap.size + 1, 2, none⟩ = some (.slice none 0 0) := m2
    refine bodyPost_ret (v := .agg #[.int .i64 x, .int .i64 y, .slice none 0 0]) (by simp [results, Try.results32, go_sem, n0, n1, n2]) rfl ?_
    exact ⟨rfl, HF.out.drew⟩

/-- A copied piece's words. -/
def BitsOK (w : World) (r : Rp) : Prop := (r.l = [] ∧ r.v = .slice none 0 0) ∨ ∃ g cap, r.v = .slice (some ⟨g, 0, none⟩) r.l.length cap ∧ OwnW w g cap r.l
theorem BitsOK.kept {S : Nat → Prop} {w w' : World} {r : Rp} (h : BitsOK w r) (f : Fr S w w') (h1 : ∀ g cap, r.v = .slice (some ⟨g, 0, none⟩) r.l.length cap → ¬ S g) : BitsOK w' r := by
  rcases h with h | ⟨g, cap, e, ho⟩
  · exact Or.inl h
  · exact Or.inr ⟨g, cap, e, ho.kept f (h1 g cap e)⟩
theorem BitsOK.seen {w : World} {r : Rp} (h : BitsOK w r) : Seen w r.v r.l := by
  rcases h with ⟨e1, e2⟩ | ⟨g, cap, e, ho⟩
  · rw [e1, e2]; exact ⟨none, 0, rfl, by simp, fun hn => absurd rfl hn⟩
  · have hm : r.l.length ≤ 9223372036854775807 := by
      rcases ho.2 with ⟨_, e0⟩ | ⟨g, cap, cur, _, _, _, hc, hm, _⟩
      · omega
      · unfold maxLen at hm; omega
    refine ⟨some ⟨g, 0, none⟩, cap, e, hm, fun _ => ⟨g, 0, rfl, fun j hj => ?_⟩⟩
    have := World.ownsRow.cellAt ho j (by omega)
    rw [Nat.zero_add, this, wordCells_get, List.getElem?_eq_getElem hj]; rfl
theorem BitsOK.grown {w w' : World} {v : Value} {n : Nat} {xs : List Value} {r : Rp} (h : BitsOK w r) (ho : w.ownsRow 0 34 5 v n xs) (hg : w.grownBy w' v.ownBlock) : BitsOK w' r := by
  rcases h with h | ⟨g, cap, e, hw⟩
  · exact Or.inl h
  · exact Or.inr ⟨g, cap, e, World.ownsRow.kept hw hg (own_ne3 hw ho (by decide))⟩
/-- Pieces as cells. -/
def cellsR (A : List Rp) : List Value := A.flatMap fun r => [.int .i64 r.X, .int .i64 r.Y, .int .i64 r.x, .int .i64 r.y, r.v]
theorem cellsR_len (A : List Rp) : (cellsR A).length = A.length * 5 := by
  unfold cellsR
  induction A with
  | nil => rfl
  | cons a A ih => rw [List.flatMap_cons, List.length_append, ih]; simp; omega
theorem cellsR_snoc (A : List Rp) (r : Rp) : cellsR (A ++ [r]) = cellsR A ++ [.int .i64 r.X, .int .i64 r.Y, .int .i64 r.x, .int .i64 r.y, r.v] := by
  simp [cellsR]
theorem cellsR_get : ∀ (A : List Rp) (i : Nat) (h : i < A.length) (k : Nat), k < 5 → (cellsR A)[i * 5 + k]? = [Value.int .i64 A[i].X, .int .i64 A[i].Y, .int .i64 A[i].x, .int .i64 A[i].y, A[i].v][k]?
  | [], i, h, _, _ => absurd h (Nat.not_lt_zero _)
  | a :: A, 0, _, k, hk => by
    unfold cellsR
    rw [List.flatMap_cons, List.getElem?_append_left (by simp; omega), Nat.zero_mul, Nat.zero_add]; rfl
  | a :: A, i + 1, h, k, hk => by
    unfold cellsR
    rw [List.flatMap_cons, List.getElem?_append_right (by simp; omega)]
    have := cellsR_get A i (by simpa using h) k hk
    unfold cellsR at this
    rw [show (i + 1) * 5 + k - [Value.int .i64 a.X, .int .i64 a.Y, .int .i64 a.x, .int .i64 a.y, a.v].length = i * 5 + k from by simp; omega, this]
    rfl

/-- Copied pieces. -/
structure CpPs (w w0 : World) (v : Value) (A : List Rp) : Prop where
  own : w.ownsRow 0 34 5 v A.length (cellsR A)
  new : ∀ k, v.ownBlock = some k → w0.heap.size ≤ k
  bits : ∀ r ∈ A, BitsOK w r
  num : ∀ r ∈ A, in64 r.X ∧ in64 r.Y ∧ in64 r.x ∧ in64 r.y ∧ ∀ j : Nat, r.l[j]?.getD 0 < 18446744073709551616
theorem CpPs.seen {w w0 : World} {v : Value} {A : List Rp} (h : CpPs w w0 v A) : SeenPs w v A := by
  obtain ⟨ao, c, rfl⟩ := own_slice h.own
  have hlen : A.length ≤ 9223372036854775807 := by
    rcases h.own.2 with ⟨_, e⟩ | ⟨g, cap, cur, _, _, _, hc, hm, _⟩
    · omega
    · unfold maxLen at hm; omega
  refine ⟨ao, c, rfl, hlen, fun r hr => ?_, fun hn => ?_⟩
  · obtain ⟨a1, a2, a3, a4, a5⟩ := h.num r hr
    exact ⟨a1, a2, a3, a4, (h.bits r hr).seen, a5⟩
  · have hpos : 0 < A.length := by
      cases A with
      | nil => simp at hn
      | cons a A => simp
    obtain ⟨g, cap, e, _⟩ := row_form h.own hpos
    simp only [Value.slice.injEq] at e
    obtain ⟨rfl, _, rfl⟩ := e
    refine ⟨g, 0, rfl, fun i hi => ?_⟩
    have hc := fun k (hk : k < 5) => (World.ownsRow.cellAt h.own (i * 5 + k) (by omega)).trans (cellsR_get A i hi k hk)
    rw [Nat.zero_add]
    exact ⟨hc 0 (by omega), hc 1 (by omega), hc 2 (by omega), hc 3 (by omega), hc 4 (by omega)⟩

theorem copy_any (x y : Int) (v : Value) (l : List Nat) (w : World) (hv : Seen w v l) (h2 : l.length ≤ 1000) :
    Calls Try.prog 32 #[.agg #[.int .i64 x, .int .i64 y, v]] w fun e w' => ∃ v', e = .returned (.agg #[.int .i64 x, .int .i64 y, v']) ∧ ((l = [] ∧ v' = .slice none 0 0) ∨ ∃ g cap, v' = .slice (some ⟨g, 0, none⟩) l.length cap ∧ OwnW w' g cap l ∧ w.heap.size ≤ g) ∧ Fr (fun _ => False) w w' := by
  by_cases h : l = []
  · subst h
    obtain ⟨ao, cap, rfl, _, _⟩ := hv
    exact (copy_none x y ao cap w).mono fun e w' ⟨he, hf⟩ => ⟨_, he, Or.inl ⟨rfl, rfl⟩, hf⟩
  · have hp : 0 < l.length := by cases l with
      | nil => exact absurd rfl h
      | cons a l => simp
    exact (copy_words x y v l w hv hp h2).mono fun e w' ⟨g, cap, he, ho, hf, hg⟩ => ⟨_, he, Or.inr ⟨g, cap, rfl, ho, hg⟩, hf⟩

theorem cell_five_new1 (w : World) (a b c d e : Value) (t : TypeId) (j : Nat) (u : Value) (h : [a, b, c, d, e][j]? = some u) : (w.alloc (.cells #[a, b, c, d, e] t)).cell? ((⟨w.heap.size, 0, none⟩ : Addr).add j) = some u :=
  (World.ownsRow_lit (base := 0) (e := t) (size := 5) w #[a, b, c, d, e] 1 (Nat.zero_le _) (by decide) rfl).cells rfl j u h

set_option maxRecDepth 100000 in
set_option maxHeartbeats 8000000 in
theorem copyPs_any (v : Value) (L : List Rp) (w : World) (hv : SeenPs w v L) (hb : ∀ r ∈ L, r.l.length ≤ 1000) (hbig : L.length * 56 ≤ 140737488351232) :
    Calls Try.prog 17 #[v] w fun e w' => ∃ rv A, e = .returned rv ∧ CpPs w' w rv A ∧ A.length = L.length ∧ (∀ (i : Nat) (h : i < A.length) (h' : i < L.length), alikeR A[i] L[i]) ∧ Fr (fun _ => False) w w' := by
  have HSN : Hid (∀ w', Fr (fun _ => False) w w' → SeenPs w' v L) := fun w' f => hv.kept f
  have HBL : Hid (∀ r ∈ L, r.l.length ≤ 1000) := hb
  obtain ⟨i0, hi, hz0, hz1, hz2⟩ := info_parts Try.infoPc
  obtain ⟨ao, cap, rfl, hl, _, _⟩ := hv
  clear hb
  go_enter Try.func17, Try.ntmps17
  go_wp2_with fail
  go_loopg [3, 4] L.length (fun q o i wr => ∃ (j : Nat) (A : List Rp), j + q = L.length ∧ i = .int .i64 (j : Int) ∧ A.length = j ∧ CpPs wr w o A ∧ Hid (∀ (i : Nat) (h : i < A.length) (h' : i < L.length), alikeR A[i] L[i]) ∧ Fr (fun _ => False) w wr)
  case atStart => exact ⟨0, [], by omega, rfl, rfl, ⟨World.ownsRow_nil _ _ _ _, fun k h => by simp [Value.ownBlock] at h, fun r hr => by simp at hr, fun r hr => by simp at hr⟩, fun i h => absurd h (Nat.not_lt_zero _), Fr.refl _ _⟩
  case round =>
    obtain ⟨j, A, hjq, rfl, hA, hcp, HAL, hfr⟩ := hrel
    have HFr : Hid (Fr (fun _ => False) w wr) := hfr
    have HCP : Hid (CpPs wr w u3 A) := hcp
    have HLN : Hid (A.length = j) := hA
    clear hcp hfr hA
    by_cases h1 : j < L.length
    · have d1 : decide (j < L.length) = true := decide_eq_true h1
      have HK : Hid (∃ b off, ao = some ⟨b, off, none⟩ ∧ ∀ w', Fr (fun _ => False) w w' → RpOK w' L[j] ∧ w'.cell? ⟨b, off + j * 5, none⟩ = some (.int .i64 L[j].X) ∧ w'.cell? ⟨b, off + j * 5 + 1, none⟩ = some (.int .i64 L[j].Y) ∧ w'.cell? ⟨b, off + j * 5 + 2, none⟩ = some (.int .i64 L[j].x) ∧ w'.cell? ⟨b, off + j * 5 + 3, none⟩ = some (.int .i64 L[j].y) ∧ w'.cell? ⟨b, off + j * 5 + 4, none⟩ = some L[j].v) := by
        obtain ⟨ao', cap', e, _, _, hc⟩ := HSN.out w (Fr.refl _ _)
        cases e
        obtain ⟨b, off, e2, _⟩ := hc (by intro h; rw [h] at h1; simp at h1)
        refine ⟨b, off, e2, fun w' f => ?_⟩
        obtain ⟨ao'', cap'', e', _, hok, hc'⟩ := HSN.out w' f
        cases e'
        obtain ⟨b', off', e3, hcc⟩ := hc' (by intro h; rw [h] at h1; simp at h1)
        rw [e2] at e3
        cases e3
        exact ⟨hok _ (List.getElem_mem h1), hcc j h1⟩
      have HB1 : Hid (L[j].l.length ≤ 1000) := HBL.out _ (List.getElem_mem h1)
      have HAK : Hid (∀ r, alikeR r L[j] → ∀ (i : Nat) (h : i < (A ++ [r]).length) (h' : i < L.length), alikeR (A ++ [r])[i] L[i]) := fun r hr i h h' => by
        by_cases e : i < A.length
        · rw [List.getElem_append_left e]; exact HAL.out i e h'
        · have hl2 := HLN.out
          have : i = j := by simp at h; omega
          subst this
          rw [List.getElem_append_right (by omega)]
          simpa using hr
      generalize L[j] = R at *
      obtain ⟨b, off, rfl, hk⟩ := HK.out
      have HKK : Hid (∀ w', Fr (fun _ => False) w w' → RpOK w' R ∧ w'.cell? ⟨b, off + j * 5, none⟩ = some (.int .i64 R.X) ∧ w'.cell? ⟨b, off + j * 5 + 1, none⟩ = some (.int .i64 R.Y) ∧ w'.cell? ⟨b, off + j * 5 + 2, none⟩ = some (.int .i64 R.x) ∧ w'.cell? ⟨b, off + j * 5 + 3, none⟩ = some (.int .i64 R.y) ∧ w'.cell? ⟨b, off + j * 5 + 4, none⟩ = some R.v) := hk
      clear hk HK
      have hln := HLN.out
      have hsz : w.heap.size ≤ wr.heap.size := HFr.out.size
      have HCA : Hid (∀ w', Fr (fun _ => False) w w' → Calls Try.prog 32 #[.agg #[.int .i64 R.x, .int .i64 R.y, R.v]] w' fun e w'' => ∃ v', e = .returned (.agg #[.int .i64 R.x, .int .i64 R.y, v']) ∧ ((R.l = [] ∧ v' = .slice none 0 0) ∨ ∃ g cap, v' = .slice (some ⟨g, 0, none⟩) R.l.length cap ∧ OwnW w'' g cap R.l ∧ w'.heap.size ≤ g) ∧ Fr (fun _ => False) w' w'') := fun w' f => copy_any R.x R.y R.v R.l w' (HKK.out w' f).1.seen HB1.out
      obtain ⟨_, k0, k1, k2, k3, k4⟩ := HKK.out _ HFr.out
      go_wp2_with fail
      go_region_held3 (fun w' => w'.cell? ⟨b, off + j * 5, none⟩ = some (.int .i64 R.X) ∧ w'.cell? ⟨b, off + j * 5 + 1, none⟩ = some (.int .i64 R.Y) ∧ w'.cell? ⟨b, off + j * 5 + 2, none⟩ = some (.int .i64 R.x) ∧ w'.cell? ⟨b, off + j * 5 + 3, none⟩ = some (.int .i64 R.y) ∧ w'.cell? ⟨b, off + j * 5 + 4, none⟩ = some R.v) (first | exact (HKK.out _ HFr.out.drew).2 | exact (HKK.out _ (HFr.out.drew.trans hf4 (fun _ _ h => h))).2 | exact (HKK.out _ ((HFr.out.drew.trans hf4 (fun _ _ h => h)).alloc _)).2 | exact (HKK.out _ hf5).2) (first | (go_at_call 32; refine (HCA.out _ HFr.out.drew).mono ?_; rintro e w4 ⟨v', rfl, hb4, hf4⟩; (have HOW4 : Hid (w4.ownsRow 0 34 5 u3 A.length (cellsR A)) := row_kept HCP.out.own ((Fr.refl (fun _ => False) wr).drew.trans hf4 (fun _ _ h => h)) (fun _ _ h => h))) | (refine step_append_lies _ (by rfl) _ _ _ (by rfl) 0 34 i0 (.agg #[.int .i64 0, .int .i64 0, .int .i64 0, .int .i64 0, .slice none 0 0]) 5 56 Try.underlying26 hi hz0 hz1 hz2 rfl (by decide) u3 A.length (cellsR A) (by rfl) (HOW4.out.alloc _) ⟨w4.heap.size, 0, none⟩ 1 1 [.int .i64 R.X, .int .i64 R.Y, .int .i64 R.x, .int .i64 R.y, v'] (by rfl) (by rfl) (cell_five_new1 _ _ _ _ _ _ _) ?_ (by decide) (by unfold maxLen; omega) (by omega) (Nat.zero_le _) (w4.heap.size + 1) (by simp) ?_; (intro u hu; simp at hu; rcases hu with rfl | rfl | rfl | rfl | rfl <;> first | rfl | (rcases hb4 with ⟨_, rfl⟩ | ⟨g, cp, rfl, _⟩ <;> rfl)); intro g' cap' w5 hown5 hgrow5 hat5 hlt5; (have hf5 : Fr (fun _ => False) w w5 := ((HFr.out.drew.trans hf4 (fun _ _ h => h)).alloc _).grown hgrow5 (fun k hk hlt => by have := HCP.out.new k hk; omega))))
      all_goals
        have HF5 : Hid (Fr (fun _ => False) w w5) := hf5
        have HNW : Hid (CpPs w5 w (.slice (some ⟨g', 0, none⟩) (A.length + 1) cap') (A ++ [⟨R.X, R.Y, R.x, R.y, v', R.l⟩])) := by
          have f4 : Fr (fun _ => False) wr w4 := (Fr.refl (fun _ => False) wr).drew.trans hf4 (fun _ _ h => h)
          refine ⟨?_, fun k hk => ?_, fun r hr => ?_, fun r hr => ?_⟩
          · rw [cellsR_snoc, List.length_append]; exact hown5
          · simp only [Value.ownBlock, Option.some.injEq] at hk
            subst hk
            rcases hat5 with e | e
            · exact HCP.out.new _ e
            · have := f4.size; omega
          · rcases List.mem_append.1 hr with h | h
            · exact BitsOK.grown (((HCP.out.bits r h).kept f4 (fun _ _ _ h => h)).kept ((Fr.refl (fun _ => False) w4).alloc _) (fun _ _ _ h => h)) (HOW4.out.alloc _) hgrow5
            · obtain rfl := List.mem_singleton.1 h
              refine BitsOK.grown (w := w4.alloc _) ?_ (HOW4.out.alloc _) hgrow5
              rcases hb4 with ⟨e1, e2⟩ | ⟨g, cp, e1, e2, _⟩
              · exact Or.inl ⟨e1, e2⟩
              · exact Or.inr ⟨g, cp, e1, e2.kept ((Fr.refl (fun _ => False) w4).alloc _) (fun h => h)⟩
          · rcases List.mem_append.1 hr with h | h
            · exact HCP.out.num r h
            · obtain rfl := List.mem_singleton.1 h
              have := (HKK.out _ HFr.out).1
              exact ⟨this.X, this.Y, this.x, this.y, this.lt⟩
        have HA2 : Hid (∀ (i : Nat) (h : i < (A ++ [(⟨R.X, R.Y, R.x, R.y, v', R.l⟩ : Rp)]).length) (h' : i < L.length), alikeR (A ++ [(⟨R.X, R.Y, R.x, R.y, v', R.l⟩ : Rp)])[i] L[i]) := HAK.out ⟨R.X, R.Y, R.x, R.y, v', R.l⟩ ⟨rfl, rfl, rfl, rfl, rfl⟩
        clear hf5 hown5 hgrow5 hat5 hlt5 hb4 hf4 HOW4
        go_wp2_with fail
        go_roundg (L.length - (j + 1))
        case measure => omega
        case rel => exact ⟨j + 1, A ++ [⟨R.X, R.Y, R.x, R.y, v', R.l⟩], by omega, congrArg (Value.int .i64) (by omega), by rw [List.length_append, HLN.out]; rfl, (by have h9 := HNW.out; rw [HLN.out] at h9; exact h9), HA2, HF5.out⟩
    · have d1 : decide (j < L.length) = false := decide_eq_false h1
      have hln := HLN.out
      go_wp2_with fail
      all_goals (go_ret; exact ⟨_, A, rfl, HCP.out, by omega, HAL.out, HFr.out⟩)

end Go.Proofs.Ytgpciopoionmeaa
