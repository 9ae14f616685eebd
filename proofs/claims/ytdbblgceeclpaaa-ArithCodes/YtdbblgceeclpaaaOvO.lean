/- 'Over': bytes of a slice that begins anywhere in its block. -/
import Derived.ArgAppend
import Derived.Test.YtdbblgceeclpaaaOvB
namespace Go.Proofs.Ytdbblgceeclpaaa
open Go.RowKit

/-- Cells that are there and are not frozen. -/
def Free (w : World) (g off cap : Nat) : Prop := ∀ j, j < cap → (∃ x, w.cell? ⟨g, off + j, none⟩ = some x) ∧ w.frozen? ⟨g, off + j, none⟩ = false
theorem Free.set {w : World} {g off cap : Nat} (h : Free w g off cap) (p : Addr) (u : Value) : Free (w.setCell p u) g off cap := fun j hj => by
  obtain ⟨⟨x, hx⟩, hf⟩ := h j hj
  obtain ⟨y, hy⟩ := cell?_setCell_some (p := p) (x := u) hx
  exact ⟨⟨y, hy⟩, by rw [World.frozen?_setCell]; exact hf⟩
theorem Fr.setCells {S : Nat → Prop} {a : World} {g : Nat} (hg : S g) : ∀ (vs : List Value) (o : Nat) (b : World), Fr S a b → Fr S a (b.setCells g o vs)
  | [], _, _, h => h
  | v :: vs, o, _, h => Fr.setCells hg vs (o + 1) _ (h.setCell (p := ⟨g, o, none⟩) (fun _ => hg) v)

set_option maxRecDepth 100000 in
set_option maxHeartbeats 4000000 in
theorem overB_off (g off n cap : Nat) (w : World) (hn : n ≤ 1000000000) (hle : n ≤ cap) (hfree : Free w g off cap) (hg : g < w.heap.size) :
    Calls Try.prog 22 #[.slice (some ⟨g, off, none⟩) n cap] w fun e w' => e = .returned (.tuple #[]) ∧ Fr (fun k => k = g) w w' := by
  obtain ⟨i0, hi, hz0, hz1, hz2⟩ := info_parts Try.info5b
  have HG : Hid (g < w.heap.size) := hg
  clear hg
  go_enter Try.func22, Try.ntmps22
  go_wp2_with fail
  go_loopw [2] (fun i wr => ∃ k : Nat, k ≤ n ∧ i = .int .i64 k ∧ Free wr g off cap ∧ Fr (fun k => k = g) w wr) (fun i _ => n - (intOf i).toNat)
  case atStart => exact ⟨0, Nat.zero_le _, rfl, hfree, Fr.refl _ _⟩
  case round =>
    obtain ⟨k, hk, rfl, hfr1, hfr⟩ := hrel
    have HFe : Hid (Free wr g off cap) := hfr1
    have HF2 : Hid (Fr (fun k => k = g) w wr) := hfr
    by_cases hlt : k < n
    · obtain ⟨⟨x, hcx⟩, hfx⟩ := hfr1 k (by omega)
      clear hfr1 hfr hfree
      go_wp2_with fail
      go_roundw
      case rel => exact ⟨k + 1, by omega, congrArg (Value.int .i64) (by omega), HFe.out.set _ _, HF2.out.setCell (p := ⟨g, off + k, none⟩) (fun _ => rfl) _⟩
      case measure => simp [intOf]; omega
    · obtain rfl : n = k := by omega
      clear hfr1 hfr hfree
      have HOL : Hid (∃ olds : List Value, olds.length = n * 1 ∧ ∀ j u, olds[j]? = some u → (wr.alloc (.cells #[.int .u8 1, .int .u8 2, .int .u8 3] 5)).cell? ⟨g, off + j, none⟩ = some u) := by
        refine ⟨(List.range n).map (fun j => (wr.cell? ⟨g, off + j, none⟩).getD undef), by simp, fun j u hu => ?_⟩
        have hj : j < n := by
          rcases Nat.lt_or_ge j n with h | h
          · exact h
          · rw [List.getElem?_eq_none (by simp; omega)] at hu; cases hu
        rw [List.getElem?_map, List.getElem?_range hj] at hu
        simp at hu
        obtain ⟨⟨x, hx⟩, _⟩ := HFe.out j (by omega)
        rw [hx] at hu
        simp at hu
        subst hu
        rw [((Fr.refl (fun _ => False) wr).alloc _).cell hx (fun h => h)]
      obtain ⟨olds, ho1, ho2⟩ := HOL.out
      have HGr : Hid (g < wr.heap.size) := by have h1 := HF2.out.size; have h2 := HG.out; show _ < _; omega
      have hspare : n + 3 ≤ cap → ∀ j, j < [Value.int .u8 1, .int .u8 2, .int .u8 3].length → ((wr.alloc (.cells #[.int .u8 1, .int .u8 2, .int .u8 3] 5)).cell? ⟨g, off + n * 1 + j, none⟩).isSome = true ∧ (wr.alloc (.cells #[.int .u8 1, .int .u8 2, .int .u8 3] 5)).frozen? ⟨g, off + n * 1 + j, none⟩ = false := fun hr j hj => by
        obtain ⟨⟨x, hx⟩, hf⟩ := HFe.out (n + j) (by simp at hj; omega)
        rw [show off + n * 1 + j = off + (n + j) by omega]
        refine ⟨by rw [((Fr.refl (fun _ => False) wr).alloc _).cell hx (fun h => h)]; rfl, ?_⟩
        exact ((Fr.refl (fun _ => False) wr).alloc _).frozen HGr.out hf (fun h => h)
      go_wp2_with (first | (at_builtin; refine wpList_append_arg _ rfl _ _ 22 rfl 5 i0 (.int .u8 0) 1 1 Try.underlying22 hi hz0 hz1 hz2 rfl (by decide) g off n cap olds rfl ho1 ho2 ⟨wr.heap.size, 0, none⟩ 3 3 [.int .u8 1, .int .u8 2, .int .u8 3] rfl rfl ?c1 ?c2 hspare ?c3 ?c4 ?c5 ?c6))
      case c1 => exact World.news_of_block (heap_alloc_new wr (.cells #[.int .u8 1, .int .u8 2, .int .u8 3] 5))
      case c2 => intro u hu; simp at hu; rcases hu with rfl | rfl | rfl <;> rfl
      case c3 => unfold maxLen; omega
      case c4 => omega
      case c5 =>
        intro hr
        simp only [Nat.mul_one] at hspare
        have hcx := World.cell?_setCells_in g [.int .u8 1, .int .u8 2, .int .u8 3] (off + n) (wr.alloc (.cells #[.int .u8 1, .int .u8 2, .int .u8 3] 5)) (fun j hj => (hspare hr j hj).1) 0 (by decide)
        have hfx : ((wr.alloc (.cells #[.int .u8 1, .int .u8 2, .int .u8 3] 5)).setCells g (off + n) [.int .u8 1, .int .u8 2, .int .u8 3]).frozen? ⟨g, off + n, none⟩ = false := by
          rw [World.frozen?_setCells]; exact (hspare hr 0 (by decide)).2
        have HF0 : Hid (Fr (fun k => k = g) w ((wr.alloc (.cells #[.int .u8 1, .int .u8 2, .int .u8 3] 5)).setCells g (off + n) [.int .u8 1, .int .u8 2, .int .u8 3])) := Fr.setCells (S := fun k => k = g) rfl _ _ _ (HF2.out.alloc _)
        rw [Nat.add_zero] at hcx
        generalize (wr.alloc (.cells #[.int .u8 1, .int .u8 2, .int .u8 3] 5)).setCells g (off + n) [.int .u8 1, .int .u8 2, .int .u8 3] = w2 at *
        clear hspare ho2
        go_wp2_with fail
        go_end0
        exact ⟨rfl, HF0.out.setCell (p := ⟨g, off + n, none⟩) (fun _ => rfl) _⟩
      case c6 =>
        intro hgr v' w1 hown1 hgrow
        obtain ⟨g', cap', rfl, hb', _⟩ := hown1.form (by omega)
        have hcn : ∃ x, w1.cell? ⟨g', n, none⟩ = some x := by
          rw [hown1.cellAt n (by omega)]
          have hl := hown1.1
          exact ⟨_, List.getElem?_eq_getElem (by omega)⟩
        obtain ⟨x0, hcx⟩ := hcn
        have hfx := hown1.frozenAt n
        have HF : Hid (Fr (fun k => k = g) w (w1.setCell ⟨g', n, none⟩ (.int .u8 90))) := by
          refine ((HF2.out.alloc _).grown hgrow (fun k hk _ => by cases hk)).setCell (p := ⟨g', n, none⟩) (fun hh => ?_) _
          exfalso
          have h1 := HF2.out.size
          have h2 : g' < w.heap.size := hh
          have h3 : wr.heap.size + 1 ≤ g' := by simpa using hb'
          omega
        clear hown1 hgrow
        go_wp2_with fail
        go_end0
        exact ⟨rfl, HF.out⟩

end Go.Proofs.Ytdbblgceeclpaaa
