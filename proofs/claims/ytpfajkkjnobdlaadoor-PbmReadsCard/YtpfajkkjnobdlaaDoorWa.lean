/- A pbm file's head. -/
import Derived.Test.YtpfajkkjnobdlaaDoorMw
namespace Go.Proofs.YtpfajkkjnobdlaaDoor
set_option maxRecDepth 100000
open Go.RowKit

/-- The library's table of powers of ten lies as its text lays it. -/
def TabAt (w : World) : Prop := Lib.TabIs Tryd.prog w "internal/strconv.uint64pow10" .u64 Lib.pow10Tab
theorem TabAt.block {w : World} (h : TabAt w) : ∃ G cs ty ex, Tryd.prog.globalNamed "internal/strconv.uint64pow10" = some G ∧ w.heap[G]? = some (.cells cs ty ex) ∧ cs = (Lib.pow10Tab.map fun z => Value.int .u64 z).toArray := by
  unfold TabAt Lib.TabIs World.var? at h
  rcases hg : Tryd.prog.globalNamed "internal/strconv.uint64pow10" with _ | G
  · rw [hg] at h; cases h
  · rw [hg] at h
    simp only [Option.bind_some] at h
    split at h
    · rename_i cs ty ex hb
      simp only [Option.some.injEq] at h
      exact ⟨G, cs, ty, ex, rfl, hb, h⟩
    · cases h
theorem TabAt.of_block {w : World} {G : Nat} {cs : Array Value} {ty : TypeId} {ex : Nat × Nat} (hg : Tryd.prog.globalNamed "internal/strconv.uint64pow10" = some G) (hb : w.heap[G]? = some (.cells cs ty ex)) (hc : cs = (Lib.pow10Tab.map fun z => Value.int .u64 z).toArray) : TabAt w := by
  unfold TabAt Lib.TabIs World.var?
  rw [hg]
  simp only [Option.bind_some, hb, hc]
theorem TabAt.kept {w w' : World} (h : TabAt w) (f : Fr (fun _ => False) w w') : TabAt w' := by
  obtain ⟨G, cs, ty, ex, hg, hb, hc⟩ := h.block
  exact TabAt.of_block hg (by rw [f.block G (lt_of_block hb) (fun h => h)]; exact hb) hc

theorem fr_grow (w : World) (k : Nat) (os : Array Obj) : Fr (fun _ => False) w (Sort.grow (w.drewN k) os) := by
  refine ⟨rfl, rfl, rfl, by simp [Sort.grow], fun i hi _ => ?_⟩
  simp only [Sort.grow]
  rw [Array.getElem?_append_left (by exact hi)]
  rfl
theorem itoa_any (n : Nat) (w : World) (hn : n ≤ 1048576) (ht : TabAt w) :
    Calls Tryd.prog 41 #[.int .i64 (n : Int)] w fun e w' => e = .returned (.string ⟨(Lib.decDigits n).toArray⟩) ∧ Fr (fun _ => False) w w' := by
  refine Calls.mono (Any.strconv_Itoa Tryd.itoaL (n : Int) (by omega) (by omega) w ht) ?_
  rintro e w' ⟨rfl, k, os, rfl⟩
  refine ⟨?_, fr_grow w k os⟩
  have : Lib.itoa (n : Int) = Lib.decDigits n := by
    unfold Lib.itoa
    rw [if_neg (by omega)]
    rfl
  rw [this]

def str (l : List UInt8) : ByteArray := ⟨l.toArray⟩
theorem head_bytes (c : UInt8) (W H : Nat) : (str ([80, c] ++ [10] ++ Lib.decDigits W ++ [32] ++ Lib.decDigits H ++ [10])).data.toList.map UInt8.toNat = headS c.toNat W H := by
  unfold headS decN str
  simp
theorem decDigits_len (n : Nat) (hn : n ≤ 1048576) : (Lib.decDigits n).length ≤ 1048577 := by
  have key : ∀ n, (Lib.decDigits n).length ≤ n + 1 := by
    intro n
    induction n using Nat.strongRecOn with
    | _ n ih =>
      by_cases h : n < 10
      · rw [Lib.decDigits, dif_pos h]; simp
      · rw [Lib.decDigits, dif_neg h]
        have := ih (n / 10) (by omega)
        simp; omega
  have := key n
  omega
theorem str_add (w : World) (x y : List UInt8) (hx : x.length ≤ 8388608) (hy : y.length ≤ 8388608) : (Op.stringOp .add (str x) (str y)).run Tryd.prog w = .ok (.string (str (x ++ y))) w :=
  run_string_add_lists (P := Tryd.prog) w x y (by omega) (by omega)
theorem str_size (x : List UInt8) : (str x).size = x.length := by unfold str; simp [ByteArray.size]

set_option linter.unusedSimpArgs false in
set_option maxHeartbeats 3000000 in
theorem head_any (c : UInt8) (v : Value) (W H : Nat) (w : World) (hW : W ≤ 1048576) (hH : H ≤ 1048576) (ht : TabAt w) :
    Calls Tryd.prog 26 #[.string { data := #[80, c] }, .agg #[.int .i64 (W : Int), .int .i64 (H : Int), v]] w fun e w' => ∃ g cap, e = .returned (.slice (some ⟨g, 0, none⟩) (headS c.toNat W H).length cap) ∧ RowM w' g cap (headS c.toNat W H) ∧ Fr (fun _ => False) w w' ∧ w.heap.size ≤ g := by
  have kc := fun (w : World) (s : ByteArray) => run_bytes_of_string (P := Tryd.prog) w 9 27 5 s Tryd.underlying9 Tryd.underlying27 Tryd.underlying5
  have HT : Hid (TabAt w) := ht
  clear ht
  have lenW : (Lib.decDigits W).length ≤ 1048577 := decDigits_len W hW
  have lenH : (Lib.decDigits H).length ≤ 1048577 := decDigits_len H hH
  obtain ⟨S1, hS1⟩ : ∃ S1, S1 = str ([80, c] ++ [10]) := ⟨_, rfl⟩
  obtain ⟨S2, hS2⟩ : ∃ S2, S2 = str ([80, c] ++ [10] ++ Lib.decDigits W) := ⟨_, rfl⟩
  obtain ⟨S3, hS3⟩ : ∃ S3, S3 = str ([80, c] ++ [10] ++ Lib.decDigits W ++ [32]) := ⟨_, rfl⟩
  obtain ⟨S4, hS4⟩ : ∃ S4, S4 = str ([80, c] ++ [10] ++ Lib.decDigits W ++ [32] ++ Lib.decDigits H) := ⟨_, rfl⟩
  obtain ⟨S5, hS5⟩ : ∃ S5, S5 = str ([80, c] ++ [10] ++ Lib.decDigits W ++ [32] ++ Lib.decDigits H ++ [10]) := ⟨_, rfl⟩
  have k1 : ∀ w, (Op.stringOp .add { data := #[80, c] } { data := #[10] }).run Tryd.prog w = .ok (.string S1) w := fun w => by rw [hS1]; exact str_add w [80, c] [10] (by simp) (by decide)
  have k2 : ∀ w, (Op.stringOp .add S1 ⟨(Lib.decDigits W).toArray⟩).run Tryd.prog w = .ok (.string S2) w := fun w => by rw [hS1, hS2]; exact str_add w _ _ (by simp) (by omega)
  have k3 : ∀ w, (Op.stringOp .add S2 { data := #[32] }).run Tryd.prog w = .ok (.string S3) w := fun w => by rw [hS2, hS3]; exact str_add w _ [32] (by simp; omega) (by decide)
  have k4 : ∀ w, (Op.stringOp .add S3 ⟨(Lib.decDigits H).toArray⟩).run Tryd.prog w = .ok (.string S4) w := fun w => by rw [hS3, hS4]; exact str_add w _ _ (by simp; omega) (by omega)
  have k5 : ∀ w, (Op.stringOp .add S4 { data := #[10] }).run Tryd.prog w = .ok (.string S5) w := fun w => by rw [hS4, hS5]; exact str_add w _ [10] (by simp; omega) (by decide)
  have HS5 : Hid (S5.data.toList.map UInt8.toNat = headS c.toNat W H ∧ S5.size = (headS c.toNat W H).length ∧ S5.size ≤ 4194304) := by
    have e : S5.data.toList.map UInt8.toNat = headS c.toNat W H := by rw [hS5]; exact head_bytes c W H
    have e2 : S5.size = (headS c.toNat W H).length := by rw [← e, List.length_map]; rfl
    refine ⟨e, e2, ?_⟩
    rw [hS5, str_size]; simp; omega
  have z1 : S1.size ≤ 4194304 := by rw [hS1, str_size]; simp
  have z2 : S2.size ≤ 4194304 := by rw [hS2, str_size]; simp; omega
  have z3 : S3.size ≤ 4194304 := by rw [hS3, str_size]; simp; omega
  have z4 : S4.size ≤ 4194304 := by rw [hS4, str_size]; simp; omega
  clear hS1 hS2 hS3 hS4 hS5
  go_enter Tryd.func26, Tryd.ntmps26
  go_wp2_with fail
  have HF1 : Hid (Fr (fun _ => False) w (w.alloc (.cells #[.int .i64 (W : Int), .int .i64 (H : Int), v] 25))) := (Fr.refl _ w).alloc _
  have HB1 : Hid ((w.alloc (.cells #[.int .i64 (W : Int), .int .i64 (H : Int), v] 25)).heap[w.heap.size]? = some (.cells #[.int .i64 (W : Int), .int .i64 (H : Int), v] 25 (0, 0))) := heap_alloc_new _ _
  have HT1 : Hid (TabAt (w.alloc (.cells #[.int .i64 (W : Int), .int .i64 (H : Int), v] 25))) := HT.out.kept HF1.out
  generalize (w.alloc (.cells #[.int .i64 (W : Int), .int .i64 (H : Int), v] 25)) = w1 at *
  have HBL : Hid (w.heap.size < w1.heap.size) := lt_of_block HB1.out
  have HKK : Hid (∀ w', Fr (fun _ => False) w1 w' → w'.cell? ⟨w.heap.size, 0, none⟩ = some (.int .i64 (W : Int)) ∧ w'.cell? ⟨w.heap.size, 1, none⟩ = some (.int .i64 (H : Int))) := fun w' f => by
    have hB : w'.heap[w.heap.size]? = _ := (f.block _ HBL.out (fun h => h)).trans HB1.out
    obtain ⟨c0, c1, _, _⟩ := cell_of_three hB
    exact ⟨c0, c1⟩
  obtain ⟨c0, c1⟩ := HKK.out w1 (Fr.refl _ _)
  obtain ⟨B, hB⟩ : ∃ B, B = w.heap.size := ⟨_, rfl⟩
  rw [← hB] at c0 c1 HKK ⊢
  have HBB : Hid (B = w.heap.size) := hB
  clear hB
  refine wp_region_held_drew (S := (fun w' => w'.cell? ⟨B, 0, none⟩ = some (.int .i64 (W : Int)) ∧ w'.cell? ⟨B, 1, none⟩ = some (.int .i64 (H : Int)))) (by kernel_rfl) (HKK.out _ (Fr.refl _ _).drew) (fun hHeld => ?_)
  refine wpAnyH_take (i := 0) (oi := _) (v := ?vv0) rfl (by kernel_rfl) (by kernel_rfl) (by kernel_rfl) (fun _ _ _ h => h) (Or.inl ⟨by kernel_rfl, ?hy0⟩) (by assumption) ?_
  case hy0 => (intro w hSw; (try dsimp only at hSw); obtain ⟨q0, q1⟩ := hSw; go_simp; all_goals (with_reducible rfl))
  (try simp only [Act.put, List.setIfInBounds_toArray, List.set_cons_zero, List.set_cons_succ])
  refine wpAnyH_take (i := 1) (oi := _) (v := ?vv1) rfl (by kernel_rfl) (by kernel_rfl) (by kernel_rfl) (fun _ _ _ h => h) (Or.inl ⟨by kernel_rfl, ?hy1⟩) (by assumption) ?_
  case hy1 => (intro w hSw; (try dsimp only at hSw); obtain ⟨q0, q1⟩ := hSw; go_simp; all_goals (with_reducible rfl))
  (try simp only [Act.put, List.setIfInBounds_toArray, List.set_cons_zero, List.set_cons_succ])
  refine wpAnyH_take (i := 2) (oi := _) (v := ?vv2) rfl (by kernel_rfl) (by kernel_rfl) (by kernel_rfl) (fun _ _ _ h => h) (Or.inl ⟨by kernel_rfl, ?hy2⟩) (by assumption) ?_
  case hy2 => (intro w hSw; (try dsimp only at hSw); obtain ⟨q0, q1⟩ := hSw; go_simp; all_goals (with_reducible rfl))
  (try simp only [Act.put, List.setIfInBounds_toArray, List.set_cons_zero, List.set_cons_succ])
  refine wpAnyH_take (i := 3) (oi := _) (v := ?vv3) rfl (by kernel_rfl) (by kernel_rfl) (by kernel_rfl) (fun _ _ _ h => h) (Or.inl ⟨by kernel_rfl, ?hy3⟩) (by assumption) ?_
  case hy3 => (intro w hSw; (try dsimp only at hSw); obtain ⟨q0, q1⟩ := hSw; go_simp; all_goals (with_reducible rfl))
  (try simp only [Act.put, List.setIfInBounds_toArray, List.set_cons_zero, List.set_cons_succ])
  refine wpAnyH_take (i := 7) (oi := _) (v := ?vv7) rfl (by kernel_rfl) (by kernel_rfl) (by kernel_rfl) (fun _ _ _ h => h) (Or.inl ⟨by kernel_rfl, ?hy7⟩) (by assumption) ?_
  case hy7 => (intro w hSw; (try dsimp only at hSw); obtain ⟨q0, q1⟩ := hSw; go_simp; all_goals (with_reducible rfl))
  (try simp only [Act.put, List.setIfInBounds_toArray, List.set_cons_zero, List.set_cons_succ])
  refine wpAnyH_take (i := 8) (oi := _) (v := ?vv8) rfl (by kernel_rfl) (by kernel_rfl) (by kernel_rfl) (fun _ _ _ h => h) (Or.inl ⟨by kernel_rfl, ?hy8⟩) (by assumption) ?_
  case hy8 => (intro w hSw; (try dsimp only at hSw); obtain ⟨q0, q1⟩ := hSw; go_simp; all_goals (with_reducible rfl))
  (try simp only [Act.put, List.setIfInBounds_toArray, List.set_cons_zero, List.set_cons_succ])
  refine wpAnyH_ready (rs := [4]) (by kernel_rfl) (by simp) ?_
  refine AllReadyH.cons (o := _) rfl (fun C hC => ?_) AllReadyH.nil
  go_simp
  refine Calls.mono (itoa_any W _ hW (HT1.out.kept ((Fr.refl _ w1).drew))) ?_
  rintro e w5 ⟨rfl, hf5⟩
  have HF5 : Hid (Fr (fun _ => False) w1 w5) := ((Fr.refl _ w1).drew).trans hf5 (fun _ _ h => h)
  clear hf5
  go_simp
  refine hC.out _ _ (HKK.out _ HF5.out) (fun hHeld => ?_)
  clear hC C
  (try simp only [Act.put, List.setIfInBounds_toArray, List.set_cons_zero, List.set_cons_succ])
  refine wpAnyH_take (i := 5) (oi := _) (v := ?vv5) rfl (by kernel_rfl) (by kernel_rfl) (by kernel_rfl) (fun _ _ _ h => h) (Or.inl ⟨by kernel_rfl, ?hy5⟩) (by assumption) ?_
  case hy5 => (intro w hSw; (try dsimp only at hSw); obtain ⟨q0, q1⟩ := hSw; go_simp; all_goals (with_reducible rfl))
  (try simp only [Act.put, List.setIfInBounds_toArray, List.set_cons_zero, List.set_cons_succ])
  refine wpAnyH_take (i := 6) (oi := _) (v := ?vv6) rfl (by kernel_rfl) (by kernel_rfl) (by kernel_rfl) (fun _ _ _ h => h) (Or.inl ⟨by kernel_rfl, ?hy6⟩) (by assumption) ?_
  case hy6 => (intro w hSw; (try dsimp only at hSw); obtain ⟨q0, q1⟩ := hSw; go_simp; all_goals (with_reducible rfl))
  (try simp only [Act.put, List.setIfInBounds_toArray, List.set_cons_zero, List.set_cons_succ])
  refine wpAnyH_ready (rs := [9]) (by kernel_rfl) (by simp) ?_
  refine AllReadyH.cons (o := _) rfl (fun C hC => ?_) AllReadyH.nil
  go_simp
  refine Calls.mono (itoa_any H _ hH (HT1.out.kept HF5.out)) ?_
  rintro e w6 ⟨rfl, hf6⟩
  have HF6 : Hid (Fr (fun _ => False) w1 w6) := HF5.out.trans hf6 (fun _ _ h => h)
  clear hf6
  go_simp
  refine hC.out _ _ (HKK.out _ HF6.out) (fun hHeld => ?_)
  clear hC C
  (try simp only [Act.put, List.setIfInBounds_toArray, List.set_cons_zero, List.set_cons_succ])
  refine wpAnyH_take (i := 10) (oi := _) (v := ?vv10) rfl (by kernel_rfl) (by kernel_rfl) (by kernel_rfl) (fun _ _ _ h => h) (Or.inl ⟨by kernel_rfl, ?hy10⟩) (by assumption) ?_
  case hy10 => (intro w hSw; (try dsimp only at hSw); obtain ⟨q0, q1⟩ := hSw; go_simp; all_goals (with_reducible rfl))
  (try simp only [Act.put, List.setIfInBounds_toArray, List.set_cons_zero, List.set_cons_succ])
  refine wpAnyH_take (i := 11) (oi := _) (v := ?vv11) rfl (by kernel_rfl) (by kernel_rfl) (by kernel_rfl) (fun _ _ _ h => h) (Or.inl ⟨by kernel_rfl, ?hy11⟩) (by assumption) ?_
  case hy11 => (intro w hSw; (try dsimp only at hSw); obtain ⟨q0, q1⟩ := hSw; go_simp; all_goals (with_reducible rfl))
  (try simp only [Act.put, List.setIfInBounds_toArray, List.set_cons_zero, List.set_cons_succ])
  refine wpAnyH_ready (rs := [12]) (by kernel_rfl) (by simp) ?_
  refine AllReadyH.cons (o := _) rfl (fun C hC => ?_) AllReadyH.nil
  go_simp
  have HSZ : Hid (S5.size = (headS c.toNat W H).length) := HS5.out.2.1
  have hr := RowM.of_string w6 S5 (grownCap w6 S5.size 0 5) 1 (grownCap_ge _ _ _ _) (grownCap_le_maxLen _ _ _ _ (by have := HS5.out.2.2; unfold maxLen; omega))
  rw [HS5.out.1] at hr
  have HF7 : Hid (Fr (fun _ => False) w1 (w6.alloc (.cells (bytesRow S5 (grownCap w6 S5.size 0 5)) 5 ((bytesRow S5 (grownCap w6 S5.size 0 5)).size, (bytesRow S5 (grownCap w6 S5.size 0 5)).size + 1))).drew) := (HF6.out.alloc _).drew
  have HR7 : Hid (RowM (w6.alloc (.cells (bytesRow S5 (grownCap w6 S5.size 0 5)) 5 ((bytesRow S5 (grownCap w6 S5.size 0 5)).size, (bytesRow S5 (grownCap w6 S5.size 0 5)).size + 1))).drew w6.heap.size (grownCap w6 S5.size 0 5) (headS c.toNat W H)) := hr.kept ((Fr.refl (fun _ => False) _).drew) (fun h => h)
  have HG7 : Hid (w.heap.size ≤ w6.heap.size) := Nat.le_trans HF1.out.size HF6.out.size
  clear hr
  generalize (w6.alloc (.cells (bytesRow S5 (grownCap w6 S5.size 0 5)) 5 ((bytesRow S5 (grownCap w6 S5.size 0 5)).size, (bytesRow S5 (grownCap w6 S5.size 0 5)).size + 1))).drew = w7 at *
  generalize grownCap w6 S5.size 0 5 = cp at *
  refine hC.out _ _ (HKK.out _ HF7.out) (fun hHeld => ?_)
  clear hC C
  (try simp only [Act.put, List.setIfInBounds_toArray, List.set_cons_zero, List.set_cons_succ])
  refine wpAnyH_ready (rs := [13]) (by kernel_rfl) (by simp) ?_
  refine AllReadyH.cons (o := _) rfl (fun C hC => ?_) AllReadyH.nil
  go_simp
  refine hC.out _ _ hHeld (fun hHeld => ?_)
  clear hC C
  refine wpAnyH_done (by kernel_rfl) ?_ _
  go_wp2_with fail
  go_ret
  rw [HSZ.out]
  exact ⟨w6.heap.size, cp, rfl, HR7.out, HF1.out.trans HF7.out (fun _ _ h => h), HG7.out⟩
end Go.Proofs.YtpfajkkjnobdlaaDoor
