/- A pbm file's rows, as bytes and as digits. -/
import Derived.Test.YtpfajkkjnobdlaaDoorMw
import Derived.Test.YtpfajkkjnobdlaaDoorRe
namespace Go.Proofs.YtpfajkkjnobdlaaDoor
set_option maxRecDepth 100000
open Go.RowKit

theorem get_any (b g cap W H : Nat) (P : Nat → Nat → Bool) (x y : Nat) (w : World) (h : MapAt w b g cap W H P) (hy : y < H) :
    Calls Tryd.prog 40 #[.pointer (some ⟨b, 0, none⟩), .int .i64 x, .int .i64 y] w fun e w' => e = .returned (.int .i64 ((decide (x < W) && P x y).toNat : Nat)) ∧ ∃ q, w' = w.drewN q := by
  by_cases hx : x < W
  · rw [decide_eq_true hx, Bool.true_and]
    exact get_in b g cap W H P x y w h hx hy
  · rw [decide_eq_false hx, Bool.false_and]
    refine (get_out b g cap W H P x y w h (by omega)).mono ?_
    rintro e w' ⟨rfl, rfl⟩
    exact ⟨rfl, 0, rfl⟩

theorem or_bit (v : Nat) (hv : v < 128) : bits .or .u8 ((v : Int) * 2) 0 = ((2 * v + 0 : Nat) : Int) ∧ bits .or .u8 ((v : Int) * 2) 1 = ((2 * v + 1 : Nat) : Int) := by
  have e : (v : Int) * 2 = ((2 * v : Nat) : Int) := by push_cast; omega
  have k1 : ∀ v : Fin 128, ((2 * v.val) ||| 1) = 2 * v.val + 1 := by decide +kernel
  rw [e]
  refine ⟨?_, ?_⟩
  · have := u8_or_nat (2 * v) 0 (by omega) (by omega)
    rw [Nat.or_zero] at this
    simpa using this
  · have := u8_or_nat (2 * v) 1 (by omega) (by omega)
    rw [k1 ⟨v, hv⟩] at this
    simpa using this
set_option maxHeartbeats 2000000 in
theorem packed_any (b g cap W H : Nat) (P : Nat → Nat → Bool) (k y : Nat) (w : World) (h : MapAt w b g cap W H P) (hy : y < H) (hk : k ≤ 1048576) :
    Calls Tryd.prog 43 #[.pointer (some ⟨b, 0, none⟩), .int .i64 (8 * (k : Int)), .int .i64 y] w fun e w' => e = .returned (.int .u8 (byteS W P y k : Nat)) ∧ ∃ q, w' = w.drewN q := by
  have HM : Hid (MapAt w b g cap W H P) := h
  obtain ⟨F, hF⟩ : ∃ F, F = fun i => decide (8 * k + i < W) && P (8 * k + i) y := ⟨_, rfl⟩
  have HF : Hid (F = fun i => decide (8 * k + i < W) && P (8 * k + i) y) := hF
  have HB : Hid (byteS W P y k = packS F 8) := by rw [hF]; rfl
  clear hF h
  rw [HB.out]
  go_enter Tryd.func43, Tryd.ntmps43
  go_wp2_with fail
  go_loopw [7, 9] (fun v i wr => ∃ j q : Nat, j ≤ 8 ∧ i = .int .i64 j ∧ v = .int .u8 (packS F j : Nat) ∧ wr = w.drewN q) (fun _ i _ => 8 - (intOf i).toNat)
  case atStart => exact ⟨0, 0, by omega, rfl, rfl, rfl⟩
  case round =>
    obtain ⟨j, q, hj, rfl, rfl, rfl⟩ := hrel
    by_cases hlt : j < 8
    · have hv : packS F j < 128 := by
        have h1 := packS_lt F j
        have : 2 ^ j ≤ 2 ^ 7 := Nat.pow_le_pow_right (by omega) (by omega)
        omega
      have hst : packS F (j + 1) = 2 * packS F j + (F j).toNat := rfl
      have hFj : (decide (8 * k + j < W) && P (8 * k + j) y) = F j := by rw [HF.out]
      have HPX : Hid (∀ q, Calls Tryd.prog 40 #[.pointer (some ⟨b, 0, none⟩), .int .i64 (8 * (k : Int) + (j : Int)), .int .i64 y] (w.drewN q) fun e w' => e = .returned (.int .i64 ((F j).toNat : Nat)) ∧ ∃ q', w' = w.drewN q') := fun q => by
        have := get_any b g cap W H P (8 * k + j) y (w.drewN q) (HM.out.drewN q) hy
        rw [hFj, show (((8 * k + j : Nat)) : Int) = 8 * (k : Int) + (j : Int) from by push_cast; rfl] at this
        refine this.mono ?_
        rintro e w' ⟨rfl, q', rfl⟩
        exact ⟨rfl, q + q', World.drewN_drewN _ _ _⟩
      have HST : Hid (packS F (j + 1) = 2 * packS F j + (F j).toNat) := hst
      generalize hpv : packS F j = v at *
      clear hst hFj
      go_wp2_with fail
      refine Calls.mono (HPX.out q) ?_
      rintro e w1 ⟨rfl, q', rfl⟩
      obtain ⟨o0, o1⟩ := or_bit v hv
      cases hf : F j
      · have HV : Hid (packS F (j + 1) = 2 * v + 0) := by have := HST.out; rw [hf] at this; exact this
        go_wp2_with fail
        go_roundw
        case rel => exact ⟨j + 1, _, by omega, congrArg (Value.int .i64) (by omega), congrArg (Value.int .u8) (by rw [HV.out]; push_cast; omega), rfl⟩
        case measure => simp [intOf]; omega
      · have HV : Hid (packS F (j + 1) = 2 * v + 1) := by have := HST.out; rw [hf] at this; exact this
        go_wp2_with fail
        go_roundw
        case rel => exact ⟨j + 1, _, by omega, congrArg (Value.int .i64) (by omega), congrArg (Value.int .u8) (by rw [HV.out]; push_cast; omega), rfl⟩
        case measure => simp [intOf]; omega
    · have hj8 : j = 8 := by omega
      subst hj8
      go_wp2_with fail
      go_ret
      exact ⟨rfl, q, rfl⟩

def LB (hd : List Nat) (W : Nat) (P : Nat → Nat → Bool) (y k : Nat) : List Nat := hd ++ txtB W y P ++ (List.range k).map (byteS W P y)
theorem LB_succ (hd : List Nat) (W : Nat) (P : Nat → Nat → Bool) (y k : Nat) : LB hd W P y (k + 1) = LB hd W P y k ++ [byteS W P y k] := by
  unfold LB; rw [List.range_succ, List.map_append]; simp
theorem LB_row (hd : List Nat) (W : Nat) (P : Nat → Nat → Bool) (y : Nat) : LB hd W P y (wideS W) = LB hd W P (y + 1) 0 := by
  unfold LB txtB rowB; rw [List.range_succ, List.flatMap_append]; simp
theorem LB_zero (hd : List Nat) (W H : Nat) (P : Nat → Nat → Bool) : LB hd W P H 0 = hd ++ txtB W H P := by unfold LB; simp
theorem LB_len (hd : List Nat) (W : Nat) (P : Nat → Nat → Bool) (y k : Nat) : (LB hd W P y k).length = hd.length + wideS W * y + k := by
  unfold LB; simp [txtB_length]; omega
theorem byteS_lt (W : Nat) (P : Nat → Nat → Bool) (y k : Nat) : byteS W P y k < 256 := packS_lt _ 8

theorem one_cells {w : World} {x : Nat} : ∀ j u, (byteCells [x])[j]? = some u → (w.alloc (.cells #[.int .u8 (x : Int)] 5)).cell? ((⟨w.heap.size, 0, none⟩ : Addr).add j) = some u := fun j u h => cell_one_new w _ 5 j u h

/-- A row of bytes that grows: where it lies. -/
structure Gro (w : World) (g : Nat) (wr : World) (v : Value) (l : List Nat) : Prop where
  ex : ∃ gx cx, v = .slice (some ⟨gx, 0, none⟩) l.length cx ∧ RowM wr gx cx l ∧ (gx = g ∨ w.heap.size ≤ gx)
  fr : Fr (fun k => k = g) w wr
theorem Gro.grow {w wr w' : World} {g gx g' c' n : Nat} {l' : List Nat} (f : Fr (fun k => k = g) w wr) (hg : gx = g ∨ w.heap.size ≤ gx) (hr : RowM w' g' c' l') (f2 : Fr (fun k => k = gx) wr w') (h' : g' = gx ∨ wr.heap.size ≤ g') (hn : n = l'.length) : Gro w g w' (.slice (some ⟨g', 0, none⟩) n c') l' := by
  refine ⟨⟨g', c', by rw [hn], hr, ?_⟩, f.trans f2 (fun i hi e => ?_)⟩
  · have := f.size
    omega
  · omega

set_option maxHeartbeats 3000000 in
theorem appendRows_any (b gm cm W H : Nat) (P : Nat → Nat → Bool) (g cp : Nat) (hd : List Nat) (w : World) (h : MapAt w b gm cm W H P) (hr : RowM w g cp hd) (hl : hd.length ≤ 4194304) (hb : b ≠ g ∧ gm ≠ g) :
    Calls Tryd.prog 27 #[.slice (some ⟨g, 0, none⟩) hd.length cp, .pointer (some ⟨b, 0, none⟩)] w fun e w' => ∃ v, e = .returned v ∧ Gro w g w' v (hd ++ txtB W H P) := by
  obtain ⟨i0, hi, hz0, hz1, hz2⟩ := info_parts Tryd.info5
  have HM : Hid (MapAt w b gm cm W H P) := h
  have HR : Hid (RowM w g cp hd) := hr
  have HB : Hid (b ≠ g ∧ gm ≠ g) := hb
  obtain ⟨f1, f2, f3⟩ := size_facts h.wpos h.hpos h.area
  have HAR : Hid (wideS W * H ≤ 1048576) := Nat.le_trans (Nat.mul_le_mul_right H (by have := h.wpos; unfold wideS; omega : wideS W ≤ W)) h.area
  clear h hr hb
  go_enter Tryd.func27, Tryd.ntmps27
  go_wp2_with fail
  refine (size_any b gm cm W H P w HM.out).mono ?_
  rintro e w1 ⟨rfl, q, hw1⟩
  have HF1 : Hid (Fr (fun k => k = g) w w1) := by rw [hw1]; exact (Fr.refl _ w).drewN q
  have HM1 : Hid (MapAt w1 b gm cm W H P) := by rw [hw1]; exact HM.out.drewN q
  have HR1 : Hid (RowM w1 g cp hd) := by rw [hw1]; exact HR.out.kept ((Fr.refl (fun _ => False) w).drewN q) (fun h => h)
  clear hw1
  have HMW : Hid (∀ w', Fr (fun k => k = g) w w' → MapAt w' b gm cm W H P) := fun w' f => HM.out.kept f HB.out.1 HB.out.2
  go_wp2_with fail
  go_loopg [0, 15] H (fun q v i wr => ∃ y : Nat, y + q = H ∧ i = .int .i64 y ∧ Gro w g wr v (LB hd W P y 0))
  case atStart => exact ⟨0, by omega, rfl, ⟨⟨g, cp, by rw [LB_len]; rfl, by unfold LB; simpa [txtB] using HR1.out, Or.inl rfl⟩, HF1.out⟩⟩
  case round =>
    clear HF1 HM1 HR1
    obtain ⟨y, hyq, rfl, hgro⟩ := hrel
    have HGR : Hid (Gro w g wr u0 (LB hd W P y 0)) := hgro
    clear hgro
    by_cases hyH : y < H
    · have hdy : decide (y < H) = true := decide_eq_true hyH
      go_wp2_with fail
      refine (bytesOf_any W wr f1).mono ?_
      rintro e w2 ⟨rfl, hw2⟩
      rw [hw2]
      clear hw2
      obtain ⟨D, hD⟩ : ∃ D, D = wideS W := ⟨_, rfl⟩
      have HD : Hid (D = wideS W) := hD
      have hDb : D ≤ 1048576 := by rw [hD]; unfold wideS; omega
      rw [← hD]
      clear hD
      go_wp2_with fail
      go_loopg [0, 20] D (fun q v i wr => ∃ k : Nat, k + q = D ∧ i = .int .i64 k ∧ Gro w g wr v (LB hd W P y k))
      case atStart => exact ⟨0, by omega, rfl, HGR.out⟩
      case round =>
        clear HGR
        obtain ⟨k, hkq, rfl, hgro⟩ := hrel
        obtain ⟨⟨gx, cx, rfl, hrx, hgx⟩, hfx⟩ := hgro
        have HRX : Hid (RowM wr gx cx (LB hd W P y k)) := hrx
        have HGX : Hid (gx = g ∨ w.heap.size ≤ gx) := hgx
        have HFX : Hid (Fr (fun k => k = g) w wr) := hfx
        clear hrx hgx hfx
        by_cases hkD : k < D
        · have hdk : decide (k < D) = true := decide_eq_true hkD
          have HLL : Hid ((LB hd W P y k).length + 1 ≤ 8388608) := by
            have h3 : (y + 1) * wideS W ≤ H * wideS W := Nat.mul_le_mul_right _ hyH
            rw [Nat.add_mul, Nat.mul_comm H, Nat.mul_comm y] at h3
            have := HAR.out
            have := HD.out
            rw [LB_len]
            show _ ≤ _
            omega
          obtain ⟨n, hn⟩ : ∃ n, n = (LB hd W P y k).length := ⟨_, rfl⟩
          have HN : Hid (n = (LB hd W P y k).length) := hn
          rw [← hn]
          clear hn
          have hkb : (k : Int) ≤ 1048576 := by omega
          go_wp2_with fail
          refine (packed_any b gm cm W H P k y wr (HMW.out wr HFX.out) hyH (by omega)).mono ?_
          rintro e w3 ⟨rfl, q3, hw3⟩
          have HF3 : Hid (Fr (fun k => k = g) w w3) := by rw [hw3]; exact HFX.out.drewN q3
          have HR3 : Hid (RowM w3 gx cx (LB hd W P y k)) := by rw [hw3]; exact HRX.out.kept ((Fr.refl (fun _ => False) wr).drewN q3) (fun h => h)
          clear hw3 HRX HFX
          obtain ⟨x, hx⟩ : ∃ x, x = byteS W P y k := ⟨_, rfl⟩
          have HX : Hid (x = byteS W P y k) := hx
          rw [← hx]
          clear hx
          go_wp2_with (first | (at_builtin; refine wpList_append_m _ rfl _ _ 27 rfl i0 Tryd.underlying27 hi hz0 hz1 hz2 gx cx n (LB hd W P y k) HN.out rfl (HR3.out.kept ((Fr.refl (fun _ => False) w3).alloc _) (fun h => h)) _ 1 1 [x] rfl rfl (by decide) one_cells (by have := HLL.out; omega) ?_))
          intro g4 c4 w4 hr4 hf4 hg4
          have hr5 : RowM w4 g4 c4 (LB hd W P y (k + 1)) := by rw [LB_succ, ← HX.out]; exact hr4
          have HG4 : Hid (Gro w g w4 (.slice (some ⟨g4, 0, none⟩) (n + 1) c4) (LB hd W P y (k + 1))) := Gro.grow (HF3.out.alloc _) HGX.out hr5 hf4 (by simpa using hg4) (by rw [HN.out, LB_len, LB_len]; omega)
          clear hr4 hf4 hg4 hr5
          go_wp2_with fail
          go_roundg (D - (k + 1))
          case measure => omega
          case rel => exact ⟨k + 1, by omega, congrArg (Value.int .i64) (by omega), HG4.out⟩
        · have hdk : decide (k < D) = false := decide_eq_false hkD
          have hkE : k = D := by omega
          have HG5 : Hid (Gro w g wr (.slice (some ⟨gx, 0, none⟩) (LB hd W P y k).length cx) (LB hd W P (y + 1) 0)) := by
            rw [← LB_row, ← HD.out, ← hkE]; exact ⟨⟨gx, cx, rfl, HRX.out, HGX.out⟩, HFX.out⟩
          clear hkE
          go_wp2_with fail
          go_roundg (H - (y + 1))
          case measure => omega
          case rel => exact ⟨y + 1, by omega, congrArg (Value.int .i64) (by omega), HG5.out⟩
    · have hdy : decide (y < H) = false := decide_eq_false hyH
      have hyE : y = H := by omega
      have HG6 : Hid (Gro w g wr u0 (hd ++ txtB W H P)) := by rw [← LB_zero, ← hyE]; exact HGR.out
      clear hyE
      go_wp2_with fail
      go_ret
      exact ⟨_, rfl, HG6.out⟩

/-! ### Digits -/
def LT (hd : List Nat) (W : Nat) (P : Nat → Nat → Bool) (y x : Nat) : List Nat := hd ++ txtT W y P ++ (List.range x).flatMap (cellT W P y)
theorem LT_succ (hd : List Nat) (W : Nat) (P : Nat → Nat → Bool) (y x : Nat) : LT hd W P y (x + 1) = LT hd W P y x ++ cellT W P y x := by
  unfold LT; rw [List.range_succ, List.flatMap_append]; simp
theorem LT_row (hd : List Nat) (W : Nat) (P : Nat → Nat → Bool) (y : Nat) : LT hd W P y W = LT hd W P (y + 1) 0 := by
  unfold LT txtT rowT; rw [List.range_succ (n := y), List.flatMap_append]; simp
theorem LT_zero (hd : List Nat) (W H : Nat) (P : Nat → Nat → Bool) : LT hd W P H 0 = hd ++ txtT W H P := by unfold LT; simp
theorem cellT_len (W : Nat) (P : Nat → Nat → Bool) (y x : Nat) : (cellT W P y x).length ≤ 2 := by
  unfold cellT; split <;> simp
theorem flat_len (W : Nat) (P : Nat → Nat → Bool) (y n : Nat) : ((List.range n).flatMap (cellT W P y)).length ≤ 2 * n := by
  induction n with
  | zero => simp
  | succ n ih =>
    rw [List.range_succ, List.flatMap_append, List.length_append]
    have := cellT_len W P y n
    simp only [List.flatMap_cons, List.flatMap_nil, List.append_nil]
    omega
theorem txtT_len (W n : Nat) (P : Nat → Nat → Bool) : (txtT W n P).length ≤ 2 * (W * n) := by
  induction n with
  | zero => simp [txtT]
  | succ n ih =>
    have : txtT W (n + 1) P = txtT W n P ++ rowT W P n := by simp [txtT, List.range_succ]
    rw [this, List.length_append, Nat.mul_add]
    have := flat_len W P n W
    unfold rowT
    omega
theorem LT_len (hd : List Nat) (W : Nat) (P : Nat → Nat → Bool) (y x : Nat) : (LT hd W P y x).length ≤ hd.length + 2 * (W * y) + 2 * x := by
  unfold LT
  rw [List.length_append, List.length_append]
  have := txtT_len W y P
  have := flat_len W P y x
  omega

set_option maxHeartbeats 3000000 in
theorem appendDigits_any (b gm cm W H : Nat) (P : Nat → Nat → Bool) (g cp : Nat) (hd : List Nat) (w : World) (h : MapAt w b gm cm W H P) (hr : RowM w g cp hd) (hl : hd.length ≤ 4194304) (hb : b ≠ g ∧ gm ≠ g) :
    Calls Tryd.prog 25 #[.slice (some ⟨g, 0, none⟩) hd.length cp, .pointer (some ⟨b, 0, none⟩)] w fun e w' => ∃ v, e = .returned v ∧ Gro w g w' v (hd ++ txtT W H P) := by
  obtain ⟨i0, hi, hz0, hz1, hz2⟩ := info_parts Tryd.info5
  have HM : Hid (MapAt w b gm cm W H P) := h
  have HR : Hid (RowM w g cp hd) := hr
  have HB : Hid (b ≠ g ∧ gm ≠ g) := hb
  obtain ⟨f1, f2, f3⟩ := size_facts h.wpos h.hpos h.area
  have HAR : Hid (W * H ≤ 1048576 ∧ 1 ≤ W) := ⟨h.area, h.wpos⟩
  have hW1 : 1 ≤ W := h.wpos
  clear h hr hb
  go_enter Tryd.func25, Tryd.ntmps25
  go_wp2_with fail
  refine (size_any b gm cm W H P w HM.out).mono ?_
  rintro e w1 ⟨rfl, q, hw1⟩
  have HF1 : Hid (Fr (fun k => k = g) w w1) := by rw [hw1]; exact (Fr.refl _ w).drewN q
  have HR1 : Hid (RowM w1 g cp hd) := by rw [hw1]; exact HR.out.kept ((Fr.refl (fun _ => False) w).drewN q) (fun h => h)
  clear hw1
  have HMW : Hid (∀ w', Fr (fun k => k = g) w w' → MapAt w' b gm cm W H P) := fun w' f => HM.out.kept f HB.out.1 HB.out.2
  go_wp2_with fail
  go_loopg [0, 15] H (fun q v i wr => ∃ y : Nat, y + q = H ∧ i = .int .i64 y ∧ Gro w g wr v (LT hd W P y 0))
  case atStart => exact ⟨0, by omega, rfl, ⟨⟨g, cp, by unfold LT; simp [txtT], by unfold LT; simpa [txtT] using HR1.out, Or.inl rfl⟩, HF1.out⟩⟩
  case round =>
    clear HF1 HR1
    obtain ⟨y, hyq, rfl, hgro⟩ := hrel
    have HGR : Hid (Gro w g wr u0 (LT hd W P y 0)) := hgro
    clear hgro
    by_cases hyH : y < H
    · have hdy : decide (y < H) = true := decide_eq_true hyH
      go_wp2_with fail
      go_loopg [0, 19] W (fun q v i wr => ∃ x : Nat, x + q = W ∧ i = .int .i64 x ∧ Gro w g wr v (LT hd W P y x))
      case atStart => exact ⟨0, by omega, rfl, HGR.out⟩
      case round =>
        clear HGR
        obtain ⟨x, hxq, rfl, hgro⟩ := hrel
        obtain ⟨⟨gx, cx, rfl, hrx, hgx⟩, hfx⟩ := hgro
        have HRX : Hid (RowM wr gx cx (LT hd W P y x)) := hrx
        have HGX : Hid (gx = g ∨ w.heap.size ≤ gx) := hgx
        have HFX : Hid (Fr (fun k => k = g) w wr) := hfx
        clear hrx hgx hfx
        by_cases hxW : x < W
        · have hdx : decide (x < W) = true := decide_eq_true hxW
          have HLL : Hid ((LT hd W P y x).length + 2 ≤ 8388608) := by
            have h3 : (y + 1) * W ≤ H * W := Nat.mul_le_mul_right _ hyH
            rw [Nat.add_mul, Nat.mul_comm H, Nat.mul_comm y] at h3
            have := HAR.out.1
            have := LT_len hd W P y x
            show _ ≤ _
            omega
          obtain ⟨n, hn⟩ : ∃ n, n = (LT hd W P y x).length := ⟨_, rfl⟩
          have HN : Hid (n = (LT hd W P y x).length) := hn
          rw [← hn]
          clear hn
          obtain ⟨bt, hbt⟩ : ∃ bt, bt = (P x y).toNat := ⟨_, rfl⟩
          have HBT : Hid (bt = (P x y).toNat) := hbt
          have hbt1 : bt ≤ 1 := by rw [hbt]; cases P x y <;> simp
          go_wp2_with fail
          refine (get_in b gm cm W H P x y wr (HMW.out wr HFX.out) hxW hyH).mono ?_
          rintro e w3 ⟨rfl, q3, hw3⟩
          rw [← hbt]
          clear hbt
          have HF3 : Hid (Fr (fun k => k = g) w w3) := by rw [hw3]; exact HFX.out.drewN q3
          have HR3 : Hid (RowM w3 gx cx (LT hd W P y x)) := by rw [hw3]; exact HRX.out.kept ((Fr.refl (fun _ => False) wr).drewN q3) (fun h => h)
          clear hw3 HRX HFX
          have e48 : 48 + (bt : Int) = ((48 + bt : Nat) : Int) := by push_cast; rfl
          obtain ⟨c48, hc48⟩ : ∃ c48, c48 = 48 + bt := ⟨_, rfl⟩
          rw [← hc48] at e48
          have HC48 : Hid (c48 = dgt (P x y)) := by show _ = _; rw [hc48, HBT.out]; rfl
          clear hc48
          go_wp2_with (first | (at_builtin; refine wpList_append_m _ rfl _ _ 27 rfl i0 Tryd.underlying27 hi hz0 hz1 hz2 gx cx n (LT hd W P y x) HN.out rfl (HR3.out.kept ((Fr.refl (fun _ => False) w3).alloc _) (fun h => h)) _ 1 1 [c48] rfl rfl (by decide) one_cells (by have := HLL.out; omega) ?_))
          intro g4 c4 w4 hr4 hf4 hg4
          have HG4 : Hid (Gro w g w4 (.slice (some ⟨g4, 0, none⟩) (n + 1) c4) (LT hd W P y x ++ [c48])) := Gro.grow (HF3.out.alloc _) HGX.out hr4 hf4 (by simpa using hg4) (by rw [HN.out]; simp)
          have HR4 : Hid (RowM w4 g4 c4 (LT hd W P y x ++ [c48])) := hr4
          clear hr4 hf4 hg4
          by_cases hxl : x + 1 = W
          · have d1 : ((x : Int) == (W : Int) - 1) = true := by simp; omega
            go_wp2_with (first | (at_builtin; refine wpList_append_m _ rfl _ _ 27 rfl i0 Tryd.underlying27 hi hz0 hz1 hz2 g4 c4 (n + 1) (LT hd W P y x ++ [c48]) (by rw [HN.out]; simp) rfl (HR4.out.kept ((Fr.refl (fun _ => False) w4).alloc _) (fun h => h)) _ 1 1 [10] rfl rfl (by decide) one_cells (by have := HLL.out; simp; omega) ?_))
            intro g5 c5 w5 hr5 hf5 hg5
            have hcell : LT hd W P y x ++ [c48, 10] = LT hd W P y (x + 1) := by
              rw [LT_succ, HC48.out]; unfold cellT; rw [if_pos (Or.inl hxl)]
            rw [hcell] at hr5
            have HG5 : Hid (Gro w g w5 (.slice (some ⟨g5, 0, none⟩) (n + 1 + 1) c5) (LT hd W P y (x + 1))) := by
              obtain ⟨⟨gy, cy, e1, _, h4⟩, h5⟩ := HG4.out
              simp only [Value.slice.injEq, Option.some.injEq, Addr.mk.injEq] at e1
              obtain ⟨⟨e2, _⟩, _⟩ := e1
              refine Gro.grow (h5.alloc _) (by rw [← e2] at h4; exact h4) hr5 hf5 (by simpa using hg5) (by rw [← hcell, HN.out]; simp)
            clear hr5 hf5 hg5 hcell
            go_wp2_with fail
            go_roundg (W - (x + 1))
            case measure => omega
            case rel => exact ⟨x + 1, by omega, congrArg (Value.int .i64) (by omega), HG5.out⟩
          · have d1 : ((x : Int) == (W : Int) - 1) = false := by simp; omega
            by_cases hx64 : x % 64 = 63
            · have d2 : ((x : Int) % 64 == 63) = true := by simp; omega
              go_wp2_with (first | (at_builtin; refine wpList_append_m _ rfl _ _ 27 rfl i0 Tryd.underlying27 hi hz0 hz1 hz2 g4 c4 (n + 1) (LT hd W P y x ++ [c48]) (by rw [HN.out]; simp) rfl (HR4.out.kept ((Fr.refl (fun _ => False) w4).alloc _) (fun h => h)) _ 1 1 [10] rfl rfl (by decide) one_cells (by have := HLL.out; simp; omega) ?_))
              intro g5 c5 w5 hr5 hf5 hg5
              have hcell : LT hd W P y x ++ [c48, 10] = LT hd W P y (x + 1) := by
                rw [LT_succ, HC48.out]; unfold cellT; rw [if_pos (Or.inr hx64)]
              rw [hcell] at hr5
              have HG5 : Hid (Gro w g w5 (.slice (some ⟨g5, 0, none⟩) (n + 1 + 1) c5) (LT hd W P y (x + 1))) := by
                obtain ⟨⟨gy, cy, e1, _, h4⟩, h5⟩ := HG4.out
                simp only [Value.slice.injEq, Option.some.injEq, Addr.mk.injEq] at e1
                obtain ⟨⟨e2, _⟩, _⟩ := e1
                refine Gro.grow (h5.alloc _) (by rw [← e2] at h4; exact h4) hr5 hf5 (by simpa using hg5) (by rw [← hcell, HN.out]; simp)
              clear hr5 hf5 hg5 hcell
              go_wp2_with fail
              go_roundg (W - (x + 1))
              case measure => omega
              case rel => exact ⟨x + 1, by omega, congrArg (Value.int .i64) (by omega), HG5.out⟩
            · have d2 : ((x : Int) % 64 == 63) = false := by simp; omega
              have HG5 : Hid (Gro w g w4 (.slice (some ⟨g4, 0, none⟩) (n + 1) c4) (LT hd W P y (x + 1))) := by
                rw [LT_succ]
                unfold cellT
                rw [if_neg (by rintro (h | h); · exact hxl h
                               · exact hx64 h), ← HC48.out]
                exact HG4.out
              go_wp2_with fail
              go_roundg (W - (x + 1))
              case measure => omega
              case rel => exact ⟨x + 1, by omega, congrArg (Value.int .i64) (by omega), HG5.out⟩
        · have hdx : decide (x < W) = false := decide_eq_false hxW
          have hxE : x = W := by omega
          have HG5 : Hid (Gro w g wr (.slice (some ⟨gx, 0, none⟩) (LT hd W P y x).length cx) (LT hd W P (y + 1) 0)) := by
            have h0 : Gro w g wr (.slice (some ⟨gx, 0, none⟩) (LT hd W P y x).length cx) (LT hd W P y x) := ⟨⟨gx, cx, rfl, HRX.out, HGX.out⟩, HFX.out⟩
            rw [← LT_row]
            have h1 : LT hd W P y W = LT hd W P y x := by rw [hxE]
            rw [h1]; exact h0
          clear hxE
          go_wp2_with fail
          go_roundg (H - (y + 1))
          case measure => omega
          case rel => exact ⟨y + 1, by omega, congrArg (Value.int .i64) (by omega), HG5.out⟩
    · have hdy : decide (y < H) = false := decide_eq_false hyH
      have hyE : y = H := by omega
      have HG6 : Hid (Gro w g wr u0 (hd ++ txtT W H P)) := by rw [← LT_zero, ← hyE]; exact HGR.out
      clear hyE
      go_wp2_with fail
      go_ret
      exact ⟨_, rfl, HG6.out⟩
end Go.Proofs.YtpfajkkjnobdlaaDoor
