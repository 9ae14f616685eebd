/- Segments' headers: segments that are handed in, in a row; bytes that are joined. -/
import Derived.Test.YtamonbkhpbdojaaDoorSw
import Derived.Test.YtamonbkhpbdojaaDoorVars
import Derived.Deep.AppendLies
import Derived.Laws.OwnMore
namespace Go.Proofs.YtamonbkhpbdojaaDoor
set_option maxRecDepth 100000
open Go.RowKit

theorem run_append_no {P : Program} (w : World) (t ty e : TypeId) (i : TypeInfo) (ht : P.underlying t = some (.slice e)) (hi : P.info? e = some i) (b ao : Option Addr) (n cap c : Nat) (hc : n ≤ cap) :
    (Builtin.append_ #[t, t] ty #[.slice b n cap, .slice ao 0 c]).run P w = .ok (.slice b n cap) w := by
  cases ao <;> cases b <;> simp [Builtin.append_, run_underlying ht, sizeOf, typeInfo, hi, Builtin.lenOf, Builtin.firstCells, loadCells, loadCellsFrom, storeCells, hc]

/-- append, whatever is appended, nothing too: at the operation. -/
theorem wp_append_any {P : Program} (w : World) {o : Oper} {a : Act} {K : Act → World → Prop} {Q : Exit → Act → World → Prop} (s x : Operand) (t : TypeId)
    (ho : o.op = .call { callee := .builtin .append, args := #[s, x], argTypes := #[t, t] })
    (base : Nat) (e : TypeId) (i : TypeInfo) (z : Value) (size bytes : Nat) (ht : P.underlying t = some (.slice e)) (hi : P.info? e = some i) (hz : i.zero = some z)
    (hsize : i.size = size) (hby : i.bytes = bytes) (hzs : z.cells.size = size) (hsz : 0 < size)
    (v : Value) (n : Nat) (xs : List Value) (hs : a.eval s = v) (hown : w.ownsRow base e size v n xs)
    (ao : Option Addr) (m c : Nat) (news : List Value) (hx : a.eval x = .slice ao m c) (hl : news.length = m * size) (hnews : 0 < m → ∃ ad, ao = some ad ∧ ∀ j u, news[j]? = some u → w.cell? (ad.add j) = some u) (h1 : ∀ u ∈ news, u.oneCell' = true)
    (h63 : n + m ≤ maxLen) (hbytes : (n + m) * bytes ≤ 140737488355328) (hbase : base ≤ w.heap.size)
    (h : ∀ v' w', w'.ownsRow base e size v' (n + m) (xs ++ news) → w.grownBy w' v.ownBlock → K (a.put o.dst v') w') : o.wp P a w K Q := by
  rcases Nat.eq_zero_or_pos m with h0 | h0
  · subst h0
    have hne : news = [] := List.eq_nil_of_length_eq_zero (by omega)
    subst hne
    have hv : ∃ b cap, v = .slice b n cap ∧ n ≤ cap := by
      rcases hown.2 with ⟨rfl, rfl⟩ | ⟨g, cap, cur, rfl, _, _, hc, _⟩
      · exact ⟨none, 0, rfl, Nat.le_refl _⟩
      · exact ⟨_, cap, rfl, hc⟩
    obtain ⟨b, cap, rfl, hc⟩ := hv
    have hrun := run_append_no (P := P) w t o.type e i ht hi b ao n cap c hc
    unfold Oper.wp execOp
    simp only [ho, resolve, invoke, builtin, Sem.run_bind, Sem.run_pure, Result.andThen_ok, List.map_toArray, List.map_cons, List.map_nil, hs, hx, hrun]
    exact h _ w (by rw [List.append_nil]; exact hown) ⟨rfl, rfl, rfl, Nat.le_refl _, fun _ _ _ => rfl⟩
  · obtain ⟨ad, rfl, hn⟩ := hnews h0
    exact wp_append_lies w s x t ho base e i z size bytes ht hi hz hsize hby hzs hsz v n xs hs hown ad m c news hx hl hn h1 h0 h63 hbytes hbase w.heap.size rfl (fun g cap w' h2 h3 _ _ => h _ w' h2 h3)
theorem step_append_any {P : Program} (w : World) {ops : Array Oper} {o : Oper} {a : Act} {K : Act → World → Prop} {Q : Exit → Act → World → Prop} {E : Prop} (hgd : o.guard = none) (s x : Operand) (t : TypeId)
    (ho : o.op = .call { callee := .builtin .append, args := #[s, x], argTypes := #[t, t] })
    (base : Nat) (e : TypeId) (i : TypeInfo) (z : Value) (size bytes : Nat) (ht : P.underlying t = some (.slice e)) (hi : P.info? e = some i) (hz : i.zero = some z)
    (hsize : i.size = size) (hby : i.bytes = bytes) (hzs : z.cells.size = size) (hsz : 0 < size)
    (v : Value) (n : Nat) (xs : List Value) (hs : a.eval s = v) (hown : w.ownsRow base e size v n xs)
    (ao : Option Addr) (m c : Nat) (news : List Value) (hx : a.eval x = .slice ao m c) (hl : news.length = m * size) (hnews : 0 < m → ∃ ad, ao = some ad ∧ ∀ j u, news[j]? = some u → w.cell? (ad.add j) = some u) (h1 : ∀ u ∈ news, u.oneCell' = true)
    (h63 : n + m ≤ maxLen) (hbytes : (n + m) * bytes ≤ 140737488355328) (hbase : base ≤ w.heap.size)
    (h : ∀ v' w', w'.ownsRow base e size v' (n + m) (xs ++ news) → w.grownBy w' v.ownBlock → K (a.put o.dst v') w') :
    if Region.wanted o (yielded ops a.tmps) = true then Oper.wp P o a w K Q else E := by
  have hw : Region.wanted o (yielded ops a.tmps) = true := by simp [Region.wanted, hgd]
  rw [if_pos hw]
  exact wp_append_any w s x t ho base e i z size bytes ht hi hz hsize hby hzs hsz v n xs hs hown ao m c news hx hl hnews h1 h63 hbytes hbase h

theorem DB.cells {w : World} {ao : Option Addr} {cap : Nat} {l : List Nat} (h : DB w ao cap l) (h0 : 0 < l.length) : ∃ ad, ao = some ad ∧ ∀ j u, (byteCells l)[j]? = some u → w.cell? (ad.add j) = some u := by
  obtain ⟨b, off, e, hc⟩ := h.seen (List.length_pos_iff.1 h0)
  refine ⟨_, e, fun j u hu => ?_⟩
  have hj : j < l.length := by
    rw [byteCells_get] at hu
    rcases Nat.lt_or_ge j l.length with h | h
    · exact h
    · rw [List.getElem?_eq_none h] at hu; simp at hu
  have h2 : (⟨b, off, none⟩ : Addr).add j = ⟨b, off + j, none⟩ := by unfold Addr.add; split <;> simp_all
  rw [h2, hc j hj]
  rw [byteCells_get, List.getElem?_eq_getElem hj] at hu
  rw [List.getElem?_eq_getElem hj]
  simpa using hu
theorem DB.take {w : World} {ao : Option Addr} {cap : Nat} {l : List Nat} (h : DB w ao cap l) (n : Nat) : DB w ao cap (l.take n) := by
  refine ⟨fun hl => ?_, by have := h.lim; rw [List.length_take]; omega, fun x hx => h.byt x (List.mem_of_mem_take hx), h.nil, by have := h.cp; rw [List.length_take]; omega, h.cl, h.sp⟩
  obtain ⟨b, off, e, hc⟩ := h.seen (fun e => hl (by rw [e]; exact List.take_nil))
  refine ⟨b, off, e, fun j hj => ?_⟩
  rw [List.length_take] at hj
  rw [hc j (by omega), List.getElem?_take, if_pos (by omega)]

/-- Copy of bytes. -/
theorem copy_any (ao : Option Addr) (cap : Nat) (l : List Nat) (w : World) (h : DB w ao cap l) :
    Calls Tryd.prog 19 #[.slice ao l.length cap] w fun e w' => ∃ rv, e = .returned rv ∧ w'.ownsRow w.heap.size 5 1 rv l.length (byteCells l) ∧ Fr (fun _ => False) w w' := by
  rcases Nat.eq_zero_or_pos l.length with h0 | h0
  · have hl : l = [] := List.eq_nil_of_length_eq_zero h0
    subst hl
    obtain ⟨i0, hi, hz0, hz1, hz2⟩ := info_parts Tryd.info5
    show Calls Tryd.prog 19 #[.slice ao 0 cap] w _
    clear h h0 hz0 hz1 hz2
    cases ao
    all_goals
      go_enter Tryd.func19, Tryd.ntmps19
      go_wp2_with fail
      go_ret
      exact ⟨_, rfl, own_nil _ _ _, Fr.refl _ _⟩
  · obtain ⟨ad, rfl, hc⟩ := h.cells h0
    refine (copy_some ad l.length cap l w rfl (by have := h.lim; omega) hc).mono ?_
    rintro e w' ⟨rv, rfl, ho, hb⟩
    exact ⟨rv, rfl, ho, Fr.of_below hb _⟩

theorem hdr_len {s : Seg} {d : Nat} (h : OkS s d) : (hdrB s d).length ≤ 131085 := by
  have h1 := (hb_room h).2.2.2.2.2
  rw [← hbE_pack h, length_pack]; omega

/-- A segment as it is handed in: what it is, its lists. -/
structure SgR where
  s : SgX
  vr : Value
  vk : Value
  vd : Value
/-- A row of segments. -/
structure SgsAt (w : World) (ao : Option Addr) (n : Nat) (A : Nat → SgR) : Prop where
  len : n ≤ 9223372036854775807
  cells : 0 < n → ∃ b off, ao = some ⟨b, off, none⟩ ∧ ∀ j, j < n → (w.cell? ⟨b, off + j * 7, none⟩ = some (.int .i64 (A j).s.num) ∧ w.cell? ⟨b, off + j * 7 + 1, none⟩ = some (.int .i64 (A j).s.kind) ∧ w.cell? ⟨b, off + j * 7 + 2, none⟩ = some (.int .i64 (A j).s.page) ∧ w.cell? ⟨b, off + j * 7 + 3, none⟩ = some (A j).vr ∧ w.cell? ⟨b, off + j * 7 + 4, none⟩ = some (A j).vk ∧ w.cell? ⟨b, off + j * 7 + 5, none⟩ = some (.bool (A j).s.stay) ∧ w.cell? ⟨b, off + j * 7 + 6, none⟩ = some (A j).vd)
  ok : ∀ j, j < n → SgAt w (A j).s (A j).vr (A j).vk (A j).vd
end Go.Proofs.YtamonbkhpbdojaaDoor
