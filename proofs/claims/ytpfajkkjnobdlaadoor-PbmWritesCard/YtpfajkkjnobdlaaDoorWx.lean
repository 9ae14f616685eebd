/- The reference's 'Write': refusals. -/
import Derived.Test.YtpfajkkjnobdlaaDoorWc
import Derived.Test.YtpfajkkjnobdlaaDoorNu
import Derived.Test.YtpfajkkjnobdlaaDoorCrop
import Derived.Test.YtpfajkkjnobdlaaDoorMay
namespace Go.Proofs.YtpfajkkjnobdlaaDoor
set_option maxRecDepth 100000
open Go.RowKit

/-- A row of bytes of the call's own that grows. -/
structure Gw (w1 wr : World) (v : Value) (l : List Nat) : Prop where
  ex : ∃ gx cx, v = .slice (some ⟨gx, 0, none⟩) l.length cx ∧ RowM wr gx cx l ∧ w1.heap.size ≤ gx
  fr : Fr (fun _ => False) w1 wr
theorem Gw.grow {w1 wr w' : World} {gx g' c' n : Nat} {l' : List Nat} (f : Fr (fun _ => False) w1 wr) (hg : w1.heap.size ≤ gx) (hr : RowM w' g' c' l') (f2 : Fr (fun k => k = gx) wr w') (h' : g' = gx ∨ wr.heap.size ≤ g') (hn : n = l'.length) : Gw w1 w' (.slice (some ⟨g', 0, none⟩) n c') l' := by
  have hsz := f.size
  refine ⟨⟨g', c', by rw [hn], hr, ?_⟩, f.trans f2 (fun i hi e => by omega)⟩
  omega

theorem rwrite_kind (x y : Int) (v : Value) (k : Int) (w : World) (hk : k ≠ 0 ∧ k ≠ 1) (hv : ∃ ao n cap, v = .slice ao n cap) :
    Calls Tryd.prog 9 #[.agg #[.int .i64 x, .int .i64 y, v], .int .i64 k] w fun e w' => e = .returned (.tuple #[.slice none 0 0, .int .i64 34]) ∧ Fr (fun _ => False) w w' := by
  obtain ⟨ao, n, cap, rfl⟩ := hv
  have k0 : (k != 0) = true := by simp [hk.1]
  have k1 : (k != 1) = true := by simp [hk.2]
  go_enter Tryd.func9, Tryd.ntmps9
  go_wp2_with fail
  go_ret2
  exact ⟨rfl, (Fr.refl _ _).alloc _⟩
set_option maxHeartbeats 1000000 in
theorem rwrite_no (x y : Int) (v : Value) (l : List Nat) (k : Int) (w : World) (hk : k = 0 ∨ k = 1) (hx : -9223372036854775808 ≤ x ∧ x ≤ 9223372036854775807) (hy : -9223372036854775808 ≤ y ∧ y ≤ 9223372036854775807) (hv : Seen w v l) (hlt : ∀ j : Nat, l[j]?.getD 0 < 18446744073709551616) (hb : validB x y l = false) :
    Calls Tryd.prog 9 #[.agg #[.int .i64 x, .int .i64 y, v], .int .i64 k] w fun e w' => e = .returned (.tuple #[.slice none 0 0, .int .i64 30]) ∧ Fr (fun _ => False) w w' := by
  have HC : Hid (∀ w', Fr (fun _ => False) w w' → Calls Tryd.prog 18 #[.agg #[.int .i64 x, .int .i64 y, v]] w' fun e w'' => e = .returned (.bool false) ∧ Fr (fun _ => False) w' w'') := fun w' hf => by
    have h := may_any x y v l w' hx hy (hv.kept hf) hlt
    rw [hb] at h
    exact h
  obtain ⟨ao, cap, rfl, hll, _⟩ := hv
  generalize l.length = n at *
  have HF1 : Hid (Fr (fun _ => False) w (w.alloc (.cells #[.int .i64 x, .int .i64 y, .slice ao n cap] 25))) := (Fr.refl _ w).alloc _
  have HB1 := heap_alloc_new w (.cells #[.int .i64 x, .int .i64 y, .slice ao n cap] 25)
  obtain ⟨c0, c1, c2, cf⟩ := cell_of_three HB1
  clear hb hlt
  rcases hk with rfl | rfl
  · go_enter Tryd.func9, Tryd.ntmps9
    go_wp2_with fail
    refine Calls.mono (HC.out _ HF1.out) ?_
    rintro e w2 ⟨rfl, hf2⟩
    go_wp2_with fail
    go_ret2
    exact ⟨rfl, HF1.out.trans hf2 (fun _ _ h => h)⟩
  · go_enter Tryd.func9, Tryd.ntmps9
    go_wp2_with fail
    refine Calls.mono (HC.out _ HF1.out) ?_
    rintro e w2 ⟨rfl, hf2⟩
    go_wp2_with fail
    go_ret2
    exact ⟨rfl, HF1.out.trans hf2 (fun _ _ h => h)⟩

end Go.Proofs.YtpfajkkjnobdlaaDoor
