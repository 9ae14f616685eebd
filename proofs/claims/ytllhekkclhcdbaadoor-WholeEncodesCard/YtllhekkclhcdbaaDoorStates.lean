/- 'States'. -/
import Derived.Test.YtllhekkclhcdbaaDoorNew
namespace Go.Proofs.YtllhekkclhcdbaaDoor
open Go.RowKit

theorem take_set_states (x : List Nat) (k : Nat) (hk : k < x.length) : (x.take k ++ List.replicate (x.length - k) 0).set k (x[k]?.getD 0) = x.take (k + 1) ++ List.replicate (x.length - (k + 1)) 0 := by
  apply List.ext_getElem?
  intro i
  rw [List.getElem?_set]
  split
  · rename_i e; subst e
    rw [if_pos (by simp; omega), List.getElem?_append_left (by simp; omega), List.getElem?_take_of_lt (by omega), List.getElem?_eq_getElem hk]; rfl
  · rename_i e
    by_cases hi : i < k
    · rw [List.getElem?_append_left (by simp; omega), List.getElem?_append_left (by simp; omega), List.getElem?_take_of_lt hi, List.getElem?_take_of_lt (by omega)]
    · rw [List.getElem?_append_right (by simp; omega), List.getElem?_append_right (by simp; omega), List.getElem?_replicate, List.getElem?_replicate]
      simp only [List.length_take]
      by_cases h2 : i < x.length
      · rw [if_pos (by omega), if_pos (by omega)]
      · rw [if_neg (by omega), if_neg (by omega)]

set_option maxRecDepth 100000 in
set_option maxHeartbeats 1000000 in
theorem states_at (w : World) (bc gc cc : Nat) (x : List Nat) (hpos : 0 < x.length) (hlim : x.length ≤ 131072) (e0 : w.cell? ⟨bc, 0, none⟩ = some (.slice (some ⟨gc, 0, none⟩) x.length cc)) (hx : w.ownsRow 0 100 1 (.slice (some ⟨gc, 0, none⟩) x.length cc) x.length (byteCells x)) :
    Calls Tryd.prog 29 #[.pointer (some ⟨bc, 0, none⟩)] w fun e w' => ∃ g, e = .returned (.slice (some ⟨g, 0, none⟩) x.length x.length) ∧ w'.ownsRow 0 5 1 (.slice (some ⟨g, 0, none⟩) x.length x.length) x.length (byteCells x) ∧ Fr (fun _ => False) w w' ∧ w.heap.size ≤ g := by
  obtain ⟨i0, hi, hz0, hz1, hz2⟩ := info_parts Tryd.info5
  have HX : Hid (w.ownsRow 0 100 1 (.slice (some ⟨gc, 0, none⟩) x.length cc) x.length (byteCells x)) := hx
  obtain ⟨n, Hn⟩ : ∃ n, Hid (n = x.length) := ⟨_, rfl⟩
  rw [← Hn.out] at hpos hlim e0 HX ⊢
  clear hx
  have hbl : bc < w.heap.size := World.block_lt_of_cell? w ⟨bc, 0, none⟩ e0
  go_enter Tryd.func29, Tryd.ntmps29
  go_wp2_with (first | (at_make; refine wpList_make_full _ rfl _ _ 24 rfl w.heap.size 5 i0 (.int .u8 0) 1 Tryd.underlying24 hi hz0 hz1 .i64 .i64 _ _ n rfl rfl ?_ ?_ ?_ ?_ ?_ ?_))
  · omega
  · omega
  · rw [hz2]; omega
  · unfold maxLen; omega
  · exact Nat.le_refl _
  · intro w2 hown hgrow
    have f : Fr (fun _ => False) w w2 := (Fr.refl _ _).grown hgrow (fun k hk _ => by cases hk)
    have e02 := f.cell e0 (fun hh => hh)
    have HF : Hid (Fr (fun _ => False) w w2) := f
    obtain ⟨g, HG⟩ : ∃ g, Hid (g = w.heap.size) := ⟨_, rfl⟩
    rw [← HG.out] at hown ⊢
    have HO : Hid (w2.ownsRow 0 5 1 (.slice (some ⟨g, 0, none⟩) n n) n (byteCells (x.take 0 ++ List.replicate (n - 0) 0))) := by
      rw [List.take_zero, List.nil_append, Nat.sub_zero, byteCells_replicate, ← toList_madeCells_one]
      exact ownsRow_base hown (fun _ _ => Nat.zero_le _)
    have HXC : Hid (∀ wr, Fr (fun k => k = g) w2 wr → ∀ j, j < n → wr.cell? ⟨gc, j, none⟩ = some (.int .u8 (x[j]?.getD 0 : Nat))) := by
      intro wr f2 j hj
      have hgc := (HX.out.lt gc rfl).2
      have c := HX.out.cellAt j (by omega)
      rw [byteCells_get, List.getElem?_eq_getElem (by have := Hn.out; omega)] at c
      rw [f2.cell (f.cell c (fun hh => hh)) (by show ¬ gc = g; rw [HG.out]; omega), List.getElem?_eq_getElem (by have := Hn.out; omega)]; rfl
    clear hown hgrow f
    go_wp2_with fail
    go_loopw [17] (fun i wr => ∃ k : Nat, k ≤ n ∧ i = .int .i64 k ∧ wr.ownsRow 0 5 1 (.slice (some ⟨g, 0, none⟩) n n) n (byteCells (x.take k ++ List.replicate (n - k) 0)) ∧ Fr (fun k => k = g) w2 wr) (fun i _ => n - (intOf i).toNat)
    case atStart => exact ⟨0, Nat.zero_le _, rfl, HO.out, Fr.refl _ _⟩
    case round =>
      obtain ⟨k, hk, rfl, hown, hfr⟩ := hrel
      have HO2 : Hid (wr.ownsRow 0 5 1 (.slice (some ⟨g, 0, none⟩) n n) n (byteCells (x.take k ++ List.replicate (n - k) 0))) := hown
      have HF2 : Hid (Fr (fun k => k = g) w2 wr) := hfr
      by_cases hlt : k < n
      · have cx := HXC.out wr hfr k hlt
        have cg : ∃ v, wr.cell? ⟨g, k, none⟩ = some v := by
          rw [hown.cellAt k (by omega)]
          have hl := hown.1
          exact ⟨_, List.getElem?_eq_getElem (by omega)⟩
        obtain ⟨v, cg⟩ := cg
        have cf := hown.frozenAt k
        clear hown hfr
        go_wp2_with fail
        go_roundw
        case rel =>
          refine ⟨k + 1, by omega, congrArg (Value.int .i64) (by omega), ?_, HF2.out.setCell (p := ⟨g, k, none⟩) (fun _ => rfl) _⟩
          have := (HO2.out.stored k (.int .u8 (x[k]?.getD 0 : Nat))).1
          rw [byteCells_set, Hn.out, take_set_states x k (by have := Hn.out; omega), ← Hn.out] at this
          exact this
        case measure => simp [intOf]; omega
      · have hkn : k = n := by omega
        subst hkn
        clear hown hfr
        go_wp2_with fail
        go_ret
        refine ⟨g, rfl, ?_, HF.out.trans HF2.out (fun i hi e => by have := HG.out; omega), by rw [HG.out]; exact Nat.le_refl _⟩
        have := HO2.out
        rw [Nat.sub_self, List.replicate_zero, List.append_nil, List.take_of_length_le (by have := Hn.out; omega)] at this
        exact this

end Go.Proofs.YtllhekkclhcdbaaDoor
