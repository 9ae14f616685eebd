/- The document's own 'Order': numbers, inserted one by one. -/
import Derived.Test.YtodgdbbhllejkaaKWk
import Derived.Test.YtodgdbbhllejkaaKLi
import Derived.Laws.OwnMore
namespace Go.Proofs.Ytodgdbbhllejkaa
open Go.RowKit

theorem run_append_no {P : Program} (w : World) (t ty e : TypeId) (i : TypeInfo) (ht : P.underlying t = some (.slice e)) (hi : P.info? e = some i) (b ao : Option Addr) (n cap c : Nat) (hc : n ≤ cap) :
    (Builtin.append_ #[t, t] ty #[.slice b n cap, .slice ao 0 c]).run P w = .ok (.slice b n cap) w := by
  cases ao <;> cases b <;> simp [Builtin.append_, run_underlying ht, sizeOf, typeInfo, hi, Builtin.lenOf, Builtin.firstCells, loadCells, loadCellsFrom, storeCells, hc]

/-- append, whatever is appended, nothing too. -/
theorem wpList_append_any {P : Program} (w : World) {ops : Array Oper} {rest : List Oper} {o : Oper} {a : Act} {Q : Exit → Act → World → Prop} (hgd : o.guard = none) (s x : Operand) (t : TypeId)
    (ho : o.op = .call { callee := .builtin .append, args := #[s, x], argTypes := #[t, t] })
    (base : Nat) (e : TypeId) (i : TypeInfo) (z : Value) (size bytes : Nat) (ht : P.underlying t = some (.slice e)) (hi : P.info? e = some i) (hz : i.zero = some z)
    (hsize : i.size = size) (hby : i.bytes = bytes) (hzs : z.cells.size = size) (hsz : 0 < size)
    (v : Value) (n : Nat) (xs : List Value) (hs : a.eval s = v) (hown : w.ownsRow base e size v n xs)
    (ao : Option Addr) (m c : Nat) (news : List Value) (hx : a.eval x = .slice ao m c) (hl : news.length = m * size) (hnews : 0 < m → ∃ ad, ao = some ad ∧ ∀ j u, news[j]? = some u → w.cell? (ad.add j) = some u) (h1 : ∀ u ∈ news, u.oneCell' = true)
    (h63 : n + m ≤ maxLen) (hbytes : (n + m) * bytes ≤ 140737488355328) (hbase : base ≤ w.heap.size)
    (h : ∀ v' w', w'.ownsRow base e size v' (n + m) (xs ++ news) → w.grownBy w' v.ownBlock → wpList P ops Q rest (a.put o.dst v') w') : wpList P ops Q (o :: rest) a w := by
  rcases Nat.eq_zero_or_pos m with h0 | h0
  · subst h0
    have hne : news = [] := List.eq_nil_of_length_eq_zero (by omega)
    subst hne
    have hv : ∃ b cap, v = .slice b n cap ∧ n ≤ cap := by
      rcases hown.2 with ⟨rfl, rfl⟩ | ⟨g, cap, cur, rfl, _, _, hc, _⟩
      · exact ⟨none, 0, rfl, Nat.le_refl _⟩
      · exact ⟨_, cap, rfl, hc⟩
    obtain ⟨b, cap, rfl, hc⟩ := hv
    refine wpList_plain hgd fun K' hK' => ?_
    have hrun := run_append_no (P := P) w t o.type e i ht hi b ao n cap c hc
    unfold Oper.wp execOp
    simp only [ho, resolve, invoke, builtin, Sem.run_bind, Sem.run_pure, Result.andThen_ok, List.map_toArray, List.map_cons, List.map_nil, hs, hx, hrun]
    exact hK' _ _ (h _ w (by rw [List.append_nil]; exact hown) ⟨rfl, rfl, rfl, Nat.le_refl _, fun _ _ _ => rfl⟩)
  · obtain ⟨ad, rfl, hn⟩ := hnews h0
    exact wpList_append_own w hgd s x t ho base e i z size bytes ht hi hz hsize hby hzs hsz v n xs hs hown ad m c news hx hl hn h1 h63 hbytes hbase (fun v' w' a b _ => h v' w' a b)

/-- Ahead, by height and width. -/
def lessB (a b : Bp) : Bool := decide (a.y < b.y ∨ a.y = b.y ∧ a.x < b.x)

set_option maxRecDepth 100000 in
set_option maxHeartbeats 2000000 in
theorem less_any (a b : Bp) (w : World) :
    Calls Try.prog 37 #[.agg #[.int .i64 a.x, .int .i64 a.y, a.v], .agg #[.int .i64 b.x, .int .i64 b.y, b.v]] w fun e w' => e = .returned (.bool (lessB a b)) ∧ Fr (fun _ => False) w w' := by
  have HA : Hid (Fr (fun _ => False) w ((w.alloc (.cells #[.int .i64 a.x, .int .i64 a.y, a.v] 48)).alloc (.cells #[.int .i64 b.x, .int .i64 b.y, b.v] 48))) := ((Fr.refl _ _).alloc _).alloc _
  obtain ⟨c0, c1, c2, -⟩ := cell_of_three (blkUp (heap_alloc_new w (.cells #[.int .i64 a.x, .int .i64 a.y, a.v] 48)) (.cells #[.int .i64 b.x, .int .i64 b.y, b.v] 48))
  obtain ⟨d0, d1, d2⟩ : ((w.alloc (.cells #[.int .i64 a.x, .int .i64 a.y, a.v] 48)).alloc (.cells #[.int .i64 b.x, .int .i64 b.y, b.v] 48)).cell? ⟨w.heap.size + 1, 0, none⟩ = some (.int .i64 b.x) ∧ ((w.alloc (.cells #[.int .i64 a.x, .int .i64 a.y, a.v] 48)).alloc (.cells #[.int .i64 b.x, .int .i64 b.y, b.v] 48)).cell? ⟨w.heap.size + 1, 1, none⟩ = some (.int .i64 b.y) ∧ ((w.alloc (.cells #[.int .i64 a.x, .int .i64 a.y, a.v] 48)).alloc (.cells #[.int .i64 b.x, .int .i64 b.y, b.v] 48)).cell? ⟨w.heap.size + 1, 2, none⟩ = some b.v := by
    have h := heap_alloc_new (w.alloc (.cells #[.int .i64 a.x, .int .i64 a.y, a.v] 48)) (.cells #[.int .i64 b.x, .int .i64 b.y, b.v] 48)
    rw [World.size_alloc] at h
    obtain ⟨a, b, c, _⟩ := cell_of_three h
    exact ⟨a, b, c⟩
  have HL : Hid (lessB a b = decide (a.y < b.y ∨ a.y = b.y ∧ a.x < b.x)) := rfl
  rw [HL.out]
  clear HL
  generalize a.x = ax at *
  generalize a.y = ay at *
  generalize b.x = bx at *
  generalize b.y = by_ at *
  by_cases h1 : ay < by_
  · have t1 : decide (ay < by_) = true := decide_eq_true h1
    have HR : Hid (decide (ay < by_ ∨ ay = by_ ∧ ax < bx) = true) := decide_eq_true (Or.inl h1)
    rw [HR.out]
    clear h1
    go_enter Try.func37, Try.ntmps37
    go_wp2_with fail
    go_ret
    exact ⟨rfl, HA.out⟩
  · have t1 : decide (ay < by_) = false := decide_eq_false h1
    by_cases h2 : ay = by_
    · have t2 : (ay == by_) = true := by rw [beq_iff_eq]; exact h2
      have HR : Hid (decide (ay < by_ ∨ ay = by_ ∧ ax < bx) = decide (ax < bx)) := by
        show _ = _
        rw [decide_eq_decide]
        constructor
        · rintro (h | h)
          · exact absurd h h1
          · exact h.2
        · exact fun h => Or.inr ⟨h2, h⟩
      rw [HR.out]
      clear h1 h2
      go_enter Try.func37, Try.ntmps37
      go_wp2_with fail
      go_ret
      exact ⟨rfl, HA.out⟩
    · have t2 : (ay == by_) = false := by rw [beq_eq_false_iff_ne]; exact h2
      have HR : Hid (decide (ay < by_ ∨ ay = by_ ∧ ax < bx) = false) := decide_eq_false (fun h => by rcases h with h | h; exact h1 h; exact h2 h.1)
      rw [HR.out]
      clear h1 h2
      go_enter Try.func37, Try.ntmps37
      go_wp2_with fail
      go_ret
      exact ⟨rfl, HA.out⟩

/-! The mathematics of it. -/
theorem ltO_less {A : Nat → Bp} {i j : Nat} (h : j < i) : ltO A i j = lessB (A i) (A j) := by
  unfold ltO lessB
  rw [decide_eq_decide]
  constructor
  · rintro (h1 | ⟨h1, h2 | ⟨h2, h3⟩⟩)
    · exact Or.inl h1
    · exact Or.inr ⟨h1, h2⟩
    · omega
  · rintro (h1 | ⟨h1, h2⟩)
    · exact Or.inl h1
    · exact Or.inr ⟨h1, Or.inl h2⟩
theorem ltO_asym {A : Nat → Bp} {i j : Nat} (h : ltO A i j = true) : ltO A j i = false := by
  unfold ltO at *
  simp only [decide_eq_true_eq, decide_eq_false_iff_not] at *
  omega
theorem ltO_anti {A : Nat → Bp} {i j : Nat} (h1 : ltO A i j = false) (h2 : ltO A j i = false) : i = j := by
  unfold ltO at *
  simp only [decide_eq_false_iff_not] at *
  omega
theorem ltO_ntr {A : Nat → Bp} {i j k : Nat} (h1 : ltO A i j = false) (h2 : ltO A j k = false) : ltO A i k = false := by
  unfold ltO at *
  simp only [decide_eq_false_iff_not] at *
  omega
theorem sorted_one {A : Nat → Bp} : ∀ {l l' : List Nat}, l.Perm l' → l.Pairwise (fun a b => ltO A b a = false) → l'.Pairwise (fun a b => ltO A b a = false) → l = l'
  | [], l', hp, _, _ => (List.nil_perm.1 hp).symm
  | a :: l, [], hp, _, _ => absurd hp.length_eq (by simp)
  | a :: l, b :: l', hp, h1, h2 => by
    have hab : a = b := by
      by_cases e : a = b
      · exact e
      · have ha : a ∈ b :: l' := hp.subset (by simp)
        have hb : b ∈ a :: l := hp.symm.subset (by simp)
        have ha' : a ∈ l' := by rcases List.mem_cons.1 ha with h | h; exact absurd h e; exact h
        have hb' : b ∈ l := by rcases List.mem_cons.1 hb with h | h; exact absurd h.symm e; exact h
        exact ltO_anti ((List.pairwise_cons.1 h2).1 a ha') ((List.pairwise_cons.1 h1).1 b hb')
    subst hab
    rw [sorted_one (hp.cons_inv) (List.pairwise_cons.1 h1).2 (List.pairwise_cons.1 h2).2]
/-- i is put in at k. -/
def putAt (O : List Nat) (k i : Nat) : List Nat := O.take k ++ [i] ++ O.drop k
theorem putAt_perm {O : List Nat} {k i : Nat} (h : O.Perm (List.range i)) : (putAt O k i).Perm (List.range (i + 1)) := by
  unfold putAt
  rw [List.range_succ, List.append_assoc]
  have h1 : (O.take k ++ ([i] ++ O.drop k)).Perm ([i] ++ (O.take k ++ O.drop k)) := by
    rw [← List.append_assoc, ← List.append_assoc]
    exact List.perm_append_comm.append_right _
  rw [List.take_append_drop] at h1
  exact h1.trans ((List.perm_append_comm).trans (h.append_right _))
theorem putAt_sorted {A : Nat → Bp} {O : List Nat} {k i : Nat} (hp : O.Perm (List.range i)) (hs : O.Pairwise (fun a b => ltO A b a = false)) (hk : k ≤ O.length) (h1 : ∀ j, k ≤ j → j < O.length → lessB (A i) (A (O.getD j 0)) = true) (h2 : 0 < k → lessB (A i) (A (O.getD (k - 1) 0)) = false) : (putAt O k i).Pairwise (fun a b => ltO A b a = false) := by
  have hlt : ∀ x ∈ O, x < i := fun x hx => List.mem_range.1 (hp.subset hx)
  have hget : ∀ j, j < O.length → O.getD j 0 ∈ O := fun j hj => by rw [List.getD_eq_getElem?_getD, List.getElem?_eq_getElem hj]; exact List.getElem_mem hj
  unfold putAt
  rw [List.append_assoc, List.pairwise_append]
  refine ⟨hs.sublist (List.take_sublist _ _), ?_, fun a ha b hb => ?_⟩
  · rw [List.singleton_append, List.pairwise_cons]
    refine ⟨fun b hb => ?_, hs.sublist (List.drop_sublist _ _)⟩
    obtain ⟨j, hj, e⟩ := List.getElem_of_mem hb
    rw [List.getElem_drop] at e
    rw [List.length_drop] at hj
    have := h1 (k + j) (by omega) (by omega)
    rw [List.getD_eq_getElem?_getD, List.getElem?_eq_getElem (by omega)] at this
    rw [show O[k + j] = b from e] at this
    change lessB (A i) (A b) = true at this
    have hb' : b < i := hlt b (List.mem_of_mem_drop hb)
    rw [← ltO_less hb'] at this
    exact ltO_asym this
  · have hk0 : 0 < k := by
      rcases Nat.eq_zero_or_pos k with h | h
      · subst h; simp at ha
      · exact h
    obtain ⟨j, hj, e⟩ := List.getElem_of_mem ha
    rw [List.getElem_take] at e
    rw [List.length_take] at hj
    -- a is not behind the one ahead of k
    have hlast := h2 hk0
    have hm := hget (k - 1) (by omega)
    rw [← ltO_less (hlt _ hm)] at hlast
    have hal : ltO A (O.getD (k - 1) 0) a = false := by
      by_cases ej : j = k - 1
      · rw [← e, List.getD_eq_getElem?_getD, List.getElem?_eq_getElem (by omega)]
        show ltO A O[k - 1] O[j] = false
        simp only [ej]
        unfold ltO; simp
      · have := List.pairwise_iff_getElem.1 hs j (k - 1) (by omega) (by omega) (by omega)
        rw [e] at this
        rw [List.getD_eq_getElem?_getD, List.getElem?_eq_getElem (by omega)]
        exact this
    have hia : ltO A i a = false := ltO_ntr hlast hal
    rcases List.mem_append.1 hb with hb | hb
    · rw [List.mem_singleton.1 hb]; exact hia
    · obtain ⟨j', hj', e'⟩ := List.getElem_of_mem hb
      rw [List.getElem_drop] at e'
      rw [List.length_drop] at hj'
      have := List.pairwise_iff_getElem.1 hs j (k + j') (by omega) (by omega) (by omega)
      rw [e, e'] at this
      exact this

set_option maxRecDepth 100000 in
set_option maxHeartbeats 4000000 in
theorem rorder_bad (ao : Option Addr) (n cap : Nat) (A : Nat → Bp) (w : World) (hB : BpsAt w ao n A) (hall : allB A n = false) :
    Calls Try.prog 20 #[.slice ao n cap] w fun e w' => e = .returned (.tuple #[.slice none 0 0, .int .i64 110]) ∧ Fr (fun _ => False) w w' := by
  have hn0 := hB.len
  have HB : Hid (∀ w', Fr (fun _ => False) w w' → BpsAt w' ao n A) := fun w' f => hB.kept f
  have HC : Hid (∀ w', Fr (fun _ => False) w w' → ∀ j, j < n → Calls Try.prog 28 #[.agg #[.int .i64 (A j).x, .int .i64 (A j).y, (A j).v]] w' fun e w'' => e = .returned (.bool (okB (A j))) ∧ Fr (fun _ => False) w' w'') := fun w' f j hj => by
    have := (HB.out w' f).ok j hj
    exact may_any _ _ _ _ w' this.hx this.hy this.hv this.hlt
  have HCE : Hid (∀ w', Fr (fun _ => False) w w' → ∀ j, j < n → ∃ b off, ao = some ⟨b, off, none⟩ ∧ w'.cell? ⟨b, off + j * 3, none⟩ = some (.int .i64 (A j).x) ∧ w'.cell? ⟨b, off + j * 3 + 1, none⟩ = some (.int .i64 (A j).y) ∧ w'.cell? ⟨b, off + j * 3 + 2, none⟩ = some (A j).v) := fun w' f j hj => by
    obtain ⟨b, off, e, hc⟩ := (HB.out w' f).cells (by omega)
    exact ⟨b, off, e, hc j hj⟩
  have HSL : Hid (∀ j, j < n → ∃ av nv cv, (A j).v = .slice av nv cv) := fun j hj => by
    obtain ⟨av, cv, e, _⟩ := (hB.ok j hj).hv
    exact ⟨_, _, _, e⟩
  have HAL : Hid (allB A n = false) := hall
  clear hB hall
  go_enter Try.func20, Try.ntmps20
  go_wp2_with fail
  go_loopg [4] n (fun q k wr => ∃ (j : Nat), j + q = n ∧ k = .int .i64 (j : Int) ∧ Hid (∀ k, k < j → okB (A k) = true) ∧ Fr (fun _ => False) w wr)
  case atStart => exact ⟨0, by omega, rfl, fun _ h => absurd h (Nat.not_lt_zero _), Fr.refl _ _⟩
  case round =>
    obtain ⟨j, hjq, rfl, HNO, hfr⟩ := hrel
    have HFr : Hid (Fr (fun _ => False) w wr) := hfr
    clear hfr
    by_cases h1 : j < n
    · have d1 : decide (j < n) = true := decide_eq_true h1
      obtain ⟨b, off, rfl, k0, k1, k2⟩ := HCE.out wr HFr.out j h1
      obtain ⟨av, nv, cv, hv⟩ := HSL.out j h1
      have HCK := HC.out wr HFr.out j h1
      rw [hv] at HCK k2
      have HCK' : Hid _ := HCK
      have HOK : Hid (okB (A j) = true → ∀ k, k < j + 1 → okB (A k) = true) := fun hb k hk => by
        by_cases e : k = j
        · subst e; exact hb
        · exact HNO.out k (by omega)
      have HNA : Hid (okB (A j) = false → allB A n = false) := fun hf => decide_eq_false (fun h => by have := h j h1; rw [hf] at this; cases this)
      clear HCK hv
      generalize hx : (A j).x = x at *
      generalize hy : (A j).y = y at *
      clear hx hy
      cases hbb : okB (A j)
      · rw [hbb] at HCK'
        clear hbb HOK HNA
        go_wp2_with fail
        refine Calls.mono HCK'.out ?_
        rintro e w4 ⟨rfl, hf4⟩
        have HF4 : Hid (Fr (fun _ => False) w w4) := HFr.out.trans hf4 (fun _ _ h => h)
        clear hf4
        go_wp2_with fail
        go_ret2
        exact ⟨rfl, HF4.out⟩
      · rw [hbb] at HCK'
        have HOK' : Hid (∀ k, k < j + 1 → okB (A k) = true) := fun k hk => HOK.out hbb k hk
        clear hbb HOK HNA
        go_wp2_with fail
        refine Calls.mono HCK'.out ?_
        rintro e w4 ⟨rfl, hf4⟩
        have HF4 : Hid (Fr (fun _ => False) w w4) := HFr.out.trans hf4 (fun _ _ h => h)
        clear hf4
        go_wp2_with fail
        go_roundg (n - (j + 1))
        case measure => omega
        case rel => exact ⟨j + 1, by omega, by go_num, HOK'.out, HF4.out⟩
    · have d1 : decide (j < n) = false := decide_eq_false h1
      have h2 : allB A n = true := decide_eq_true (fun k hk => HNO.out k (by omega))
      rw [HAL.out] at h2
      cases h2

end Go.Proofs.Ytodgdbbhllejkaa
