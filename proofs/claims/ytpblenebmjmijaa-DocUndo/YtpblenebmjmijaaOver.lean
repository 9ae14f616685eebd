/- 'OverWords': words that were told are written over, and beyond their end. -/
import Derived.Test.YtpblenebmjmijaaEq
namespace Go.Proofs.Ytpblenebmjmijaa
open Go.RowKit

theorem row_form {w : World} {b e size n : Nat} {v : Value} {xs : List Value} (h : w.ownsRow b e size v n xs) (hn : 0 < n) : ∃ g cap, v = .slice (some ⟨g, 0, none⟩) n cap ∧ b ≤ g ∧ n ≤ cap ∧ cap ≤ maxLen := by
  rcases h.2 with ⟨_, e⟩ | ⟨g, cap, cur, rfl, hb, _, hc, hm, _⟩
  · omega
  · exact ⟨g, cap, rfl, hb, hc, hm⟩

theorem wpList_append_row {P : Program} (w : World) {ops : Array Oper} {rest : List Oper} {o : Oper} {a : Act} {Q : Exit → Act → World → Prop} (hgd : o.guard = none) (s x : Operand) (t : TypeId)
    (ho : o.op = Op.call { callee := Callee.builtin Builtin.append, args := #[s, x], argTypes := #[t, t] }) (e : TypeId) (i : TypeInfo) (z : Value) (size bytes : Nat)
    (ht : P.underlying t = some (TypeDesc.slice e)) (hi : P.info? e = some i) (hz : i.zero = some z) (hsize : i.size = size) (hby : i.bytes = bytes) (hzs : z.cells.size = size) (hsz : 0 < size)
    (v : Value) (n : Nat) (xs : List Value) (hs : a.eval s = v) (hown : w.ownsRow 0 e size v n xs) (ad : Addr) (m c : Nat) (news : List Value) (hx : a.eval x = Value.slice (some ad) m c) (hl : news.length = m * size)
    (hnews : ∀ (j : Nat) (u : Value), news[j]? = some u → w.cell? (ad.add j) = some u) (h1 : ∀ (u : Value), u ∈ news → u.oneCell' = true) (h63 : n + m ≤ maxLen) (hbytes : (n + m) * bytes ≤ 140737488355328) (hm : 0 < m)
    (h : ∀ (g' cap' : Nat) (w' : World), w'.ownsRow 0 e size (.slice (some ⟨g', 0, none⟩) (n + m) cap') (n + m) (xs ++ news) → w.grownBy w' v.ownBlock → (v.ownBlock = some g' ∨ w.heap.size ≤ g') → n + m ≤ cap' → cap' ≤ maxLen →
      wpList P ops Q rest (a.put o.dst (.slice (some ⟨g', 0, none⟩) (n + m) cap')) w') : wpList P ops Q (o :: rest) a w := by
  have hownc := hown
  rcases hown.2 with ⟨rfl, rfl⟩ | ⟨g, cap, cur, rfl, hb, hg, hc, hmx, hcs, htk⟩
  · have hxs : xs = [] := List.eq_nil_of_length_eq_zero (by have := hown.1; omega)
    subst hxs
    refine wpList_append_grows w hgd s x t ho e i z size bytes ht hi hz hsize hby hzs hsz none 0 0 [] hs (fun _ => ⟨rfl, rfl⟩) (by simp) (fun b hb => by cases hb) ad m c news hx hl hnews h1 (by omega) h63 hbytes ?_
    intro v' w' ho' hgr
    obtain ⟨g', cap', rfl, hb', hc', hm'⟩ := row_form ho' (by omega)
    exact h g' cap' w' (ownsRow_base ho' (fun _ _ => Nat.zero_le _)) hgr (Or.inr hb') hc' hm'
  · by_cases hroom : n + m ≤ cap
    · refine wpList_append_fits w hgd s x t ho 0 e i size ht hi hsize g n cap xs hs hownc ad m c news hx hl hnews h1 hroom ?_
      intro w' ho' hgr
      exact h g cap w' ho' hgr (Or.inl rfl) hroom hmx
    · refine wpList_append_grows w hgd s x t ho e i z size bytes ht hi hz hsize hby hzs hsz (some ⟨g, 0, none⟩) n cap xs hs (fun hh => by cases hh) hown.1 ?_ ad m c news hx hl hnews h1 (by omega) h63 hbytes ?_
      · intro b hb j u hu
        simp only [Option.some.injEq] at hb
        subst hb
        exact hownc.cells (g := g) rfl j u hu
      · intro v' w' ho' hgr
        obtain ⟨g', cap', rfl, hb', hc', hm'⟩ := row_form ho' (by omega)
        refine h g' cap' w' (ownsRow_base ho' (fun _ _ => Nat.zero_le _)) ?_ (Or.inr hb') hc' hm'
        exact ⟨hgr.os, hgr.tape, hgr.output, hgr.size, fun k hk _ => hgr.block k hk (by simp)⟩


set_option maxRecDepth 100000 in
set_option maxHeartbeats 2000000 in
theorem over_any (g cap n : Nat) (xs : List Value) (w : World) (hn : n ≤ 1048576) (h : w.ownsRow 0 32 1 (.slice (some ⟨g, 0, none⟩) n cap) n xs) :
    Calls Try.prog 33 #[.slice (some ⟨g, 0, none⟩) n cap] w fun e w' => e = .returned (.tuple #[]) ∧ Fr (fun k => k = g) w w' := by
  obtain ⟨i0, hi, hz0, hz1, hz2⟩ := info_parts Try.info70
  have HO : Hid (w.ownsRow 0 32 1 (.slice (some ⟨g, 0, none⟩) n cap) n xs) := h
  clear h
  go_enter Try.func33, Try.ntmps33
  go_wp2_with fail
  go_loopw [2] (fun i wr => ∃ (k : Nat) (ys : List Value), k ≤ n ∧ i = .int .i64 k ∧ wr.ownsRow 0 32 1 (.slice (some ⟨g, 0, none⟩) n cap) n ys ∧ Fr (fun k => k = g) w wr) (fun i _ => n - (intOf i).toNat)
  case atStart => exact ⟨0, xs, Nat.zero_le _, rfl, HO.out, Fr.refl _ _⟩
  case round =>
    obtain ⟨k, ys, hk, rfl, hown, hfr⟩ := hrel
    have HO2 : Hid (wr.ownsRow 0 32 1 (.slice (some ⟨g, 0, none⟩) n cap) n ys) := hown
    have HF : Hid (Fr (fun k => k = g) w wr) := hfr
    by_cases hlt : k < n
    · have hcx : ∃ x, wr.cell? ⟨g, k, none⟩ = some x := by
        rw [hown.cellAt k (by omega)]
        have hl := hown.1
        exact ⟨_, List.getElem?_eq_getElem (by omega)⟩
      obtain ⟨x, hcx⟩ := hcx
      have hfx := hown.frozenAt k
      clear hown hfr
      go_wp2_with fail
      go_roundw
      case rel => exact ⟨k + 1, _, by omega, congrArg (Value.int .i64) (by omega), (HO2.out.stored k _).1, HF.out.setCell (p := ⟨g, k, none⟩) (fun _ => rfl) _⟩
      case measure => simp [intOf]; omega
    · clear hfr
      go_wp2_with (first | (at_builtin; refine wpList_append_row _ rfl _ _ 52 rfl 32 i0 (.int .u64 0) 1 8 Try.underlying52 hi hz0 hz1 hz2 rfl (by decide) _ _ _ rfl (hown.alloc _) ⟨wr.heap.size, 0, none⟩ 2 2 [.int .u64 1, .int .u64 2] rfl rfl ?c1 ?c2 ?c3 ?c4 (by decide) ?_))
      case c1 => exact fun j u hu => cell_two_new _ _ _ _ j u hu
      case c2 => intro u hu; simp at hu; rcases hu with rfl | rfl <;> rfl
      case c3 => unfold maxLen; omega
      case c4 => omega
      intro g' cap' w2 hown2 hgrow hrow hc' hm'
      have hcx : ∃ x, w2.cell? ⟨g', n, none⟩ = some x := by
        rw [hown2.cellAt n (by omega)]
        have hl := hown2.1
        exact ⟨_, List.getElem?_eq_getElem (by omega)⟩
      obtain ⟨x, hcx⟩ := hcx
      have hfx := hown2.frozenAt n
      have HFZ : Hid (Fr (fun k => k = g) w w2) := (HF.out.alloc _).grown hgrow (fun k hk _ => by simp [Value.ownBlock] at hk; exact hk.symm)
      have HGR : Hid (g' = g ∨ w.heap.size ≤ g') := by
        rcases hrow with e | e
        · simp [Value.ownBlock] at e; exact Or.inl e.symm
        · have h1 := HF.out.size
          have e' : wr.heap.size + 1 ≤ g' := by simpa using e
          exact Or.inr (by omega)
      clear hgrow hown2 hrow hown
      unfold maxLen at hm'
      go_wp2_with fail
      go_end0
      refine ⟨rfl, HFZ.out.setCell (p := ⟨g', n, none⟩) (fun hp => ?_) _⟩
      rcases HGR.out with e | e
      · exact e
      · exact absurd hp (by simp; omega)

end Go.Proofs.Ytpblenebmjmijaa
