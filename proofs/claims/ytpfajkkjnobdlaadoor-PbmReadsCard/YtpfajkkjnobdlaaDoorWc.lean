/- 'Write'. -/
import Derived.Test.YtpfajkkjnobdlaaDoorWa
import Derived.Test.YtpfajkkjnobdlaaDoorWb
namespace Go.Proofs.YtpfajkkjnobdlaaDoor
set_option maxRecDepth 100000
open Go.RowKit

theorem write_kind (x y : Int) (v : Value) (k : Int) (w : World) (hk : k ≠ 0 ∧ k ≠ 1) (hv : ∃ ao n cap, v = .slice ao n cap) :
    Calls Tryd.prog 8 #[.agg #[.int .i64 x, .int .i64 y, v], .int .i64 k] w fun e w' => e = .returned (.tuple #[.slice none 0 0, .int .i64 34]) ∧ Fr (fun _ => False) w w' := by
  obtain ⟨ao, n, cap, rfl⟩ := hv
  have k0 : (k != 0) = true := by simp [hk.1]
  have k1 : (k != 1) = true := by simp [hk.2]
  go_enter Tryd.func8, Tryd.ntmps8
  go_wp2_with fail
  go_ret2
  exact ⟨rfl, (Fr.refl _ _).alloc _⟩
set_option maxHeartbeats 1000000 in
theorem write_no (x y : Int) (v : Value) (l : List Nat) (k : Int) (w : World) (hk : k = 0 ∨ k = 1) (hx : -9223372036854775808 ≤ x ∧ x ≤ 9223372036854775807) (hy : -9223372036854775808 ≤ y ∧ y ≤ 9223372036854775807) (hv : Seen w v l) (hlt : ∀ j : Nat, l[j]?.getD 0 < 18446744073709551616) (hb : validB x y l = false) :
    Calls Tryd.prog 8 #[.agg #[.int .i64 x, .int .i64 y, v], .int .i64 k] w fun e w' => e = .returned (.tuple #[.slice none 0 0, .int .i64 30]) ∧ Fr (fun _ => False) w w' := by
  have HC : Hid (∀ w', Fr (fun _ => False) w w' → Calls Tryd.prog 24 #[.agg #[.int .i64 x, .int .i64 y, v]] w' fun e w'' => e = .returned (.tuple #[.pointer none, .int .i64 21]) ∧ Fr (fun _ => False) w' w'') := fun w' hf => from_no x y v l w' hx hy (hv.kept hf) hlt hb
  obtain ⟨ao, cap, rfl, hll, _⟩ := hv
  generalize l.length = n at *
  have HF1 : Hid (Fr (fun _ => False) w (w.alloc (.cells #[.int .i64 x, .int .i64 y, .slice ao n cap] 25))) := (Fr.refl _ w).alloc _
  have HB1 := heap_alloc_new w (.cells #[.int .i64 x, .int .i64 y, .slice ao n cap] 25)
  obtain ⟨c0, c1, c2, cf⟩ := cell_of_three HB1
  clear hb hlt
  rcases hk with rfl | rfl
  · go_enter Tryd.func8, Tryd.ntmps8
    go_wp2_with fail
    refine Calls.mono (HC.out _ HF1.out) ?_
    rintro e w2 ⟨rfl, hf2⟩
    go_wp2_with fail
    go_ret2
    exact ⟨rfl, HF1.out.trans hf2 (fun _ _ h => h)⟩
  · go_enter Tryd.func8, Tryd.ntmps8
    go_wp2_with fail
    refine Calls.mono (HC.out _ HF1.out) ?_
    rintro e w2 ⟨rfl, hf2⟩
    go_wp2_with fail
    go_ret2
    exact ⟨rfl, HF1.out.trans hf2 (fun _ _ h => h)⟩

/-- A file that was written: a row of bytes that is new. -/
def FileR (w : World) (l : List Nat) (v : Value) (w' : World) : Prop := ∃ g cap, v = .slice (some ⟨g, 0, none⟩) l.length cap ∧ RowM w' g cap l ∧ w.heap.size ≤ g
theorem head_len (c W H : Nat) (hW : W ≤ 1048576) (hH : H ≤ 1048576) : (headS c W H).length ≤ 4194304 := by
  have h1 := decDigits_len W hW
  have h2 := decDigits_len H hH
  unfold headS decN
  simp
  omega
theorem valid_size {x y : Int} {l : List Nat} (h : validB x y l = true) : ∃ W H : Nat, x = W ∧ y = H ∧ W ≤ 1048576 ∧ H ≤ 1048576 ∧ 1 ≤ W ∧ 1 ≤ H ∧ W * H ≤ 1048576 := by
  obtain ⟨W, H, rfl, rfl, h1, h2, h3, _⟩ := valid_parts h
  obtain ⟨f1, f2, _⟩ := size_facts h1 h2 h3
  exact ⟨W, H, rfl, rfl, f1, f2, h1, h2, h3⟩

set_option maxHeartbeats 2000000 in
theorem write_ok (txt : Bool) (W H : Nat) (v : Value) (l : List Nat) (w : World) (hv : Seen w v l) (hlt : ∀ j : Nat, l[j]?.getD 0 < 18446744073709551616) (hb : validB W H l = true) (ht : TabAt w) :
    Calls Tryd.prog 8 #[.agg #[.int .i64 W, .int .i64 H, v], .int .i64 (if txt then 0 else 1)] w fun e w' => Fr (fun _ => False) w w' ∧ ∃ r, e = .returned (.tuple #[r, .int .i64 0]) ∧ FileR w (fileS txt W H (pixOf W l)) r w' := by
  have HT : Hid (TabAt w) := ht
  have hWH : W ≤ 1048576 ∧ H ≤ 1048576 := by
    obtain ⟨W', H', e1, e2, f1, f2, _⟩ := valid_size hb
    omega
  have HFM : Hid (∀ w', Fr (fun _ => False) w w' → Calls Tryd.prog 24 #[.agg #[.int .i64 W, .int .i64 H, v]] w' fun e w'' => ∃ b g cap, e = .returned (.tuple #[.pointer (some ⟨b, 0, none⟩), .int .i64 0]) ∧ NewMap w' w'' b g cap W H (pixOf W l)) := fun w' hf => by
    obtain ⟨W', H', e1, e2, h1, h2, h3, hl, hr⟩ := valid_parts hb
    have e1' : W' = W := by omega
    have e2' : H' = H := by omega
    subst e1' e2'
    exact from_yes W' H' v l w' h1 h2 h3 (hv.kept hf) hlt hl hr
  obtain ⟨ao, cap, rfl, hll, _⟩ := hv
  generalize l.length = n at *
  have HF1 : Hid (Fr (fun _ => False) w (w.alloc (.cells #[.int .i64 (W : Int), .int .i64 (H : Int), .slice ao n cap] 25))) := (Fr.refl _ w).alloc _
  have HB1 : Hid ((w.alloc (.cells #[.int .i64 (W : Int), .int .i64 (H : Int), .slice ao n cap] 25)).heap[w.heap.size]? = some (.cells #[.int .i64 (W : Int), .int .i64 (H : Int), .slice ao n cap] 25 (0, 0))) := heap_alloc_new w _
  obtain ⟨c0, c1, c2, cf⟩ := cell_of_three HB1.out
  clear hb hlt ht
  have hWH1 := hWH.1
  have hWH2 := hWH.2
  cases txt
  · go_enter Tryd.func8, Tryd.ntmps8
    go_wp2_with fail
    refine Calls.mono (HFM.out _ HF1.out) ?_
    rintro e w2 ⟨b, gm, cm, rfl, hn⟩
    have HF2 : Hid (Fr (fun _ => False) w w2) := HF1.out.trans hn.fr (fun _ _ h => h)
    have HM2 : Hid (MapAt w2 b gm cm W H (pixOf W l)) := hn.at_
    have HB2 : Hid (w2.heap[w.heap.size]? = some (.cells #[.int .i64 (W : Int), .int .i64 (H : Int), .slice ao n cap] 25 (0, 0))) := by show _ = _; rw [hn.fr.block _ (lt_of_block HB1.out) (fun h => h)]; exact HB1.out
    clear hn c0 c1 c2 cf
    obtain ⟨c0, c1, c2, cf⟩ := cell_of_three HB2.out
    go_wp2_with fail
    refine Calls.mono (head_any 52 (.slice ao n cap) W H w2 hWH.1 hWH.2 (HT.out.kept HF2.out)) ?_
    rintro e w3 ⟨g, cp, rfl, hr3, hf3, hg3⟩
    have HF3 : Hid (Fr (fun _ => False) w w3) := HF2.out.trans hf3 (fun _ _ h => h)
    have HM3 : Hid (MapAt w3 b gm cm W H (pixOf W l)) := HM2.out.kept hf3 (fun h => h) (fun h => h)
    have HR3 : Hid (RowM w3 g cp (headS 52 W H)) := hr3
    have HNE : Hid (b ≠ g ∧ gm ≠ g) := ⟨by have := HM2.out.lt; omega, by have := HM2.out.glt; omega⟩
    have HG3 : Hid (w.heap.size ≤ g) := Nat.le_trans HF2.out.size hg3
    clear hr3 hf3 hg3
    go_wp2_with fail
    refine Calls.mono (appendRows_any b gm cm W H (pixOf W l) g cp (headS 52 W H) w3 HM3.out HR3.out (head_len 52 W H hWH.1 hWH.2) HNE.out) ?_
    rintro e w4 ⟨v4, rfl, ⟨gx, cx, rfl, hr4, hg4⟩, hf4⟩
    have HR4 : Hid (RowM w4 gx cx (headS 52 W H ++ txtB W H (pixOf W l))) := hr4
    have HF4 : Hid (Fr (fun _ => False) w w4) := HF3.out.trans hf4 (fun i hi e => by have := HG3.out; omega)
    have HG4 : Hid (w.heap.size ≤ gx) := by have := HG3.out; have := HF3.out.size; show _ ≤ _; omega
    clear hr4 hg4 hf4
    go_wp2_with fail
    go_ret2
    exact ⟨HF4.out, _, rfl, gx, cx, congrArg (fun z => Value.slice (some ⟨gx, 0, none⟩) z cx) (by simp [fileS]), HR4.out, HG4.out⟩
  · go_enter Tryd.func8, Tryd.ntmps8
    go_wp2_with fail
    refine Calls.mono (HFM.out _ HF1.out) ?_
    rintro e w2 ⟨b, gm, cm, rfl, hn⟩
    have HF2 : Hid (Fr (fun _ => False) w w2) := HF1.out.trans hn.fr (fun _ _ h => h)
    have HM2 : Hid (MapAt w2 b gm cm W H (pixOf W l)) := hn.at_
    have HB2 : Hid (w2.heap[w.heap.size]? = some (.cells #[.int .i64 (W : Int), .int .i64 (H : Int), .slice ao n cap] 25 (0, 0))) := by show _ = _; rw [hn.fr.block _ (lt_of_block HB1.out) (fun h => h)]; exact HB1.out
    clear hn c0 c1 c2 cf
    obtain ⟨c0, c1, c2, cf⟩ := cell_of_three HB2.out
    go_wp2_with fail
    refine Calls.mono (head_any 49 (.slice ao n cap) W H w2 hWH.1 hWH.2 (HT.out.kept HF2.out)) ?_
    rintro e w3 ⟨g, cp, rfl, hr3, hf3, hg3⟩
    have HF3 : Hid (Fr (fun _ => False) w w3) := HF2.out.trans hf3 (fun _ _ h => h)
    have HM3 : Hid (MapAt w3 b gm cm W H (pixOf W l)) := HM2.out.kept hf3 (fun h => h) (fun h => h)
    have HR3 : Hid (RowM w3 g cp (headS 49 W H)) := hr3
    have HNE : Hid (b ≠ g ∧ gm ≠ g) := ⟨by have := HM2.out.lt; omega, by have := HM2.out.glt; omega⟩
    have HG3 : Hid (w.heap.size ≤ g) := Nat.le_trans HF2.out.size hg3
    clear hr3 hf3 hg3
    go_wp2_with fail
    refine Calls.mono (appendDigits_any b gm cm W H (pixOf W l) g cp (headS 49 W H) w3 HM3.out HR3.out (head_len 49 W H hWH.1 hWH.2) HNE.out) ?_
    rintro e w4 ⟨v4, rfl, ⟨gx, cx, rfl, hr4, hg4⟩, hf4⟩
    have HR4 : Hid (RowM w4 gx cx (headS 49 W H ++ txtT W H (pixOf W l))) := hr4
    have HF4 : Hid (Fr (fun _ => False) w w4) := HF3.out.trans hf4 (fun i hi e => by have := HG3.out; omega)
    have HG4 : Hid (w.heap.size ≤ gx) := by have := HG3.out; have := HF3.out.size; show _ ≤ _; omega
    clear hr4 hg4 hf4
    go_wp2_with fail
    go_ret2
    exact ⟨HF4.out, _, rfl, gx, cx, congrArg (fun z => Value.slice (some ⟨gx, 0, none⟩) z cx) (by simp [fileS]), HR4.out, HG4.out⟩
end Go.Proofs.YtpfajkkjnobdlaaDoor
