/- The reader of a pbm file: rows of bytes. -/
import Derived.Test.YtpfajkkjnobdlaaDoorRc
namespace Go.Proofs.YtpfajkkjnobdlaaDoor
set_option maxRecDepth 100000
open Go.RowKit

theorem wrap64_small8 (x : Int) (h1 : 0 ≤ x) (h2 : x ≤ 4611686018427387904) : IntKind.i64.wrap x = x := by
  rw [IntKind.wrap_i64]; omega
theorem bytesOf_any (W : Nat) (w : World) (hW : W ≤ 1048576) : Calls Tryd.prog 42 #[.int .i64 (W : Int)] w fun e w' => e = .returned (.int .i64 (wideS W : Nat)) ∧ w' = w := by
  go_enter Tryd.func42, Tryd.ntmps42
  go_wp2_with fail
  go_ret
  exact ⟨congrArg (fun x => Ending.returned (Value.int .i64 x)) (by unfold wideS; omega), rfl⟩

theorem laidAll_one {P : Nat → Nat → Bool} {x y : Nat} {v : Bool} {N : Nat → Bool} (hN : N x = v) (a b : Nat) : laidAll P y x 1 N a b = if b = y ∧ a = x then v else P a b := by
  unfold laidAll
  by_cases h : b = y ∧ a = x
  · rw [if_pos h, if_pos ⟨h.1, by omega, by omega⟩, h.2, hN]
  · rw [if_neg h, if_neg (fun k => h ⟨k.1, by omega⟩)]

/-- The pixels of the rows ahead of row y, and those of row y ahead of x. -/
def partB (W : Nat) (r : List Nat) (y x : Nat) : Nat → Nat → Bool := fun a b => if b < y ∨ (b = y ∧ a < x) then plcB W r a b else false
theorem partB_step {W : Nat} {r : List Nat} {y x : Nat} (a b : Nat) : (if b = y ∧ a = x then plcB W r x y else partB W r y x a b) = partB W r y (x + 1) a b := by
  unfold partB
  by_cases h : b = y ∧ a = x
  · obtain ⟨rfl, rfl⟩ := h
    rw [if_pos ⟨rfl, rfl⟩, if_pos (Or.inr ⟨rfl, by omega⟩)]
  · rw [if_neg h]
    by_cases h2 : b < y ∨ (b = y ∧ a < x)
    · rw [if_pos h2, if_pos (by omega)]
    · rw [if_neg h2, if_neg (by omega)]
theorem partB_row {W : Nat} {r : List Nat} {y : Nat} (a b : Nat) (ha : a < W) : partB W r y W a b = partB W r (y + 1) 0 a b := by
  unfold partB
  by_cases h2 : b < y ∨ (b = y ∧ a < W)
  · rw [if_pos h2, if_pos (by omega)]
  · rw [if_neg h2, if_neg (by omega)]

def RowsQ (W H b g cp : Nat) (R : Except Nat Bmp) (e : Ending) (w' : World) : Prop :=
  match R with
  | .error er => e = .panicked [{ v := .iface 28 (.int .i64 (er : Int)), recovered := false }]
  | .ok x => e = .returned (.tuple #[]) ∧ MapAt w' b g cp W H x.2.2

theorem shift_u8 (c s : Nat) (hs : s ≤ 7) : Op.shift .shr .u8 (c : Int) .i64 (s : Int) = pure (.int .u8 ((c : Int) / 2 ^ s)) := by
  have := shift_shr_u8 (x := (c : Int)) (yk := .i64) (y := (s : Int)) (by omega) (by omega)
  rw [this]; rfl
theorem bit8 (x j : Nat) (h : x < 256) : IntKind.i64.wrap (bits .and .u8 ((x : Int) / 2 ^ j) 1) = (((x.testBit j).toNat : Nat) : Int) := by
  have l1 : x / 2 ^ j < 256 := Nat.lt_of_le_of_lt (Nat.div_le_self _ _) h
  have e : bits .and .u8 ((x : Int) / 2 ^ j) 1 = ((x / 2 ^ j % 2 : Nat) : Int) := by
    rw [cast_div_pow, ← Nat.and_one_is_mod]
    exact u8_and_nat _ 1 l1 (by omega)
  rw [e, Nat.testBit_eq_decide_div_mod_eq]
  have : x / 2 ^ j % 2 < 2 := Nat.mod_lt _ (by omega)
  generalize x / 2 ^ j % 2 = t at *
  rcases (show t = 0 ∨ t = 1 from by omega) with rfl | rfl <;> decide +kernel

set_option maxHeartbeats 4000000 in
theorem rows_any (bs b g cp W H : Nat) (ao : Option Addr) (cap : Nat) (l : List Nat) (a : Nat) (w : World) (h : SR w bs ao cap l a) (hm : MapAt w b g cp W H (fun _ _ => false))
    (hx : bs ≠ b ∧ bs ≠ g ∧ b ≠ g) (hy : l ≠ [] → ∀ k off, ao = some ⟨k, off, none⟩ → k ≠ b ∧ k ≠ g) :
    Calls Tryd.prog 47 #[.pointer (some ⟨bs, 0, none⟩), .pointer (some ⟨b, 0, none⟩)] w fun e w' => Fr (fun k => k = bs ∨ k = g) w w' ∧ RowsQ W H b g cp (rowsS W H (l.drop a)) e w' := by
  have HS : Hid (SR w bs ao cap l a) := h
  have HM : Hid (MapAt w b g cp W H (fun _ _ => false)) := hm
  have HX : Hid (bs ≠ b ∧ bs ≠ g ∧ b ≠ g) := hx
  have HY : Hid (l ≠ [] → ∀ k off, ao = some ⟨k, off, none⟩ → k ≠ b ∧ k ≠ g) := hy
  obtain ⟨f1, f2, f3⟩ := size_facts hm.wpos hm.hpos hm.area
  obtain ⟨R0, hR0⟩ : ∃ R0, R0 = rowsS W H (l.drop a) := ⟨_, rfl⟩
  rw [← hR0]
  have HR0 : Hid (R0 = rowsS W H (l.drop a)) := hR0
  have hlim := h.lim
  have hwd : wideS W ≤ W := by have := hm.wpos; unfold wideS; omega
  have hZb : wideS W * H ≤ 1048576 := Nat.le_trans (Nat.mul_le_mul_right H hwd) hm.area
  obtain ⟨D, hD⟩ : ∃ D : Nat, D = wideS W := ⟨_, rfl⟩
  obtain ⟨Z, hZ⟩ : ∃ Z : Nat, Z = D * H := ⟨_, rfl⟩
  have HD : Hid (D = wideS W) := hD
  have HZ : Hid (Z = D * H) := hZ
  have hm1 : (D : Int) * (H : Int) = (Z : Int) := by rw [hZ]; push_cast; rfl
  have hZ1 : Z ≤ 1048576 := by rw [hZ, hD]; exact hZb
  have hD1 : D ≤ 1048576 := by omega
  clear h hm hx hy hR0 hZ hD hwd hZb
  go_enter Tryd.func47, Tryd.ntmps47
  go_wp2_with fail
  refine (look_any bs ao cap l a w HS.out).mono ?_
  rintro e v1 ⟨rfl, q, rfl⟩
  have HS1 : Hid (SR (w.drewN q) bs ao cap l a) := HS.out.drewN q
  have HM1 : Hid (MapAt (w.drewN q) b g cp W H (fun _ _ => false)) := HM.out.drewN q
  have HF1 : Hid (Fr (fun k => k = bs ∨ k = g) w (w.drewN q)) := (Fr.refl _ w).drewN q
  generalize w.drewN q = v1 at *
  clear HS HM
  go_wp2_with fail
  refine (isWhite_any _ _).mono ?_
  rintro e v1' ⟨rfl, hv⟩
  rw [hv]
  clear hv
  cases hwt : whiteI (lookV l a)
  · have HE : Hid (R0 = .error 30) := by
      rcases hr : l.drop a with _ | ⟨c, r⟩
      · have := HR0.out; rw [hr] at this; exact this
      · have h1 := HR0.out
        rw [hr] at h1
        rw [(lookV_cons hr).1, whiteI_nat] at hwt
        rw [rowsS, hwt] at h1
        exact h1
    go_wp2_with fail
    refine ⟨rfl, HF1.out, ?_⟩
    rw [HE.out]
    rfl
  · have HE : Hid (∃ c r, l.drop a = c :: r ∧ white c = true) := by
      rcases hr : l.drop a with _ | ⟨c, r⟩
      · rw [lookV_end hr] at hwt; cases hwt
      · rw [(lookV_cons hr).1, whiteI_nat] at hwt
        exact ⟨c, r, rfl, hwt⟩
    obtain ⟨c, r, hr, hwc⟩ := HE.out
    obtain ⟨_, hlt, hdr⟩ := lookV_cons hr
    have HR1 : Hid (R0 = if r.length < wideS W * H then .error 32 else if wideS W * H < r.length then .error 33 else .ok (W, H, plcB W r)) := by
      have h1 := HR0.out
      rw [hr, rowsS, hwc] at h1
      exact h1
    have HDR : Hid (l.drop (a + 1) = r) := hdr
    have hrl : l.length = a + 1 + r.length := by rw [← hdr, List.length_drop]; omega
    obtain ⟨n, hn⟩ : ∃ n, n = r.length := ⟨_, rfl⟩
    have HN : Hid (n = r.length) := hn
    rw [← hn] at hrl HR1
    have hln : (l.length : Int) = (a : Int) + 1 + (n : Int) := by omega
    obtain ⟨c0, c1, cf⟩ := cell_of_two HS1.out.blk
    have HS2 : Hid (SR (v1.setCell ⟨bs, 1, none⟩ (.int .i64 ((a : Int) + 1))) bs ao cap l (a + 1)) := HS1.out.moved (by omega) hlt
    have HF2 : Hid (Fr (fun k => k = bs ∨ k = g) w (v1.setCell ⟨bs, 1, none⟩ (.int .i64 ((a : Int) + 1)))) := HF1.out.setCell (fun _ => Or.inl rfl) _
    have HM2 : Hid (MapAt (v1.setCell ⟨bs, 1, none⟩ (.int .i64 ((a : Int) + 1))) b g cp W H (fun _ _ => false)) := HM1.out.kept (Fr.one v1 bs 1 _) (fun e => HX.out.1 e.symm) (fun e => HX.out.2.1 e.symm)
    have halim : a + 1 + n ≤ 140737488355328 := by omega
    clear hr hwc hdr hn HS1 HM1 HF1 HE HR0 hwt hlt hrl
    go_wp2_with fail
    generalize v1.setCell ⟨bs, 1, none⟩ (.int .i64 ((a : Int) + 1)) = v2 at *
    clear c0 c1 cf
    refine (size_any b g cp W H _ v2 HM2.out).mono ?_
    rintro e v3 ⟨rfl, q, rfl⟩
    have HS3 : Hid (SR (v2.drewN q) bs ao cap l (a + 1)) := HS2.out.drewN q
    have HM3 : Hid (MapAt (v2.drewN q) b g cp W H (fun _ _ => false)) := HM2.out.drewN q
    have HF3 : Hid (Fr (fun k => k = bs ∨ k = g) w (v2.drewN q)) := HF2.out.drewN q
    generalize v2.drewN q = v3 at *
    clear HS2 HM2 HF2
    go_wp2_with fail
    refine (bytesOf_any W v3 f1).mono ?_
    rintro e v4 ⟨rfl, hv⟩
    rw [← HD.out, hv]
    clear hv
    obtain ⟨c0, c1, cf⟩ := cell_of_two HS3.out.blk
    go_wp2_with fail
    go_quiet (fail)
    by_cases h1 : n < Z
    · have h1I : (n : Int) < (Z : Int) := by omega
      have HE : Hid (R0 = .error 32) := by
        have := HR1.out
        rw [← HD.out, ← HZ.out, if_pos h1] at this
        exact this
      go_wp2_with fail
      refine ⟨rfl, HF3.out.drewN _, ?_⟩
      rw [HE.out]
      rfl
    · have h1I : ¬ (n : Int) < (Z : Int) := by omega
      by_cases h2 : Z < n
      · have h2I : (Z : Int) < (n : Int) := by omega
        have HE : Hid (R0 = .error 33) := by
          have := HR1.out
          rw [← HD.out, ← HZ.out, if_neg h1, if_pos h2] at this
          exact this
        go_wp2_with fail
        refine ⟨rfl, HF3.out.drewN _, ?_⟩
        rw [HE.out]
        rfl
      · have h2I : ¬ (Z : Int) < (n : Int) := by omega
        have HE : Hid (R0 = .ok (W, H, plcB W r)) := by
          have := HR1.out
          rw [← HD.out, ← HZ.out, if_neg h1, if_neg h2] at this
          exact this
        have HNZ : Hid (n = Z) := by show _ = _; omega
        go_wp2_with fail
        have HF4 : Hid (Fr (fun k => k = bs ∨ k = g) w (v3.drewN nq)) := HF3.out.drewN _
        have HS4 : Hid (SR (v3.drewN nq) bs ao cap l (a + 1)) := HS3.out.drewN _
        have HM4 : Hid (MapAt (v3.drewN nq) b g cp W H (partB W r 0 0)) := (HM3.out.drewN _).pix (fun x y _ _ => by simp [partB])
        generalize v3.drewN nq = v4 at *
        clear HS3 HM3 HF3 c0 c1 cf HR1
        go_loopg [52] H (fun q i wr => ∃ y : Nat, y + q = H ∧ i = .int .i64 y ∧ SR wr bs ao cap l (a + 1 + y * D) ∧ MapAt wr b g cp W H (partB W r y 0) ∧ Fr (fun k => k = bs ∨ k = g) w wr)
        case atStart => exact ⟨0, by omega, rfl, by simpa using HS4.out, HM4.out, HF4.out⟩
        case round =>
          clear HM4 HF4 HS4
          obtain ⟨y, hyq, rfl, hs, hm, hf⟩ := hrel
          have HSr : Hid (SR wr bs ao cap l (a + 1 + y * D)) := hs
          have HMr : Hid (MapAt wr b g cp W H (partB W r y 0)) := hm
          have HFr : Hid (Fr (fun k => k = bs ∨ k = g) w wr) := hf
          clear hs hm hf
          by_cases hyH : y < H
          · have hdy : decide (y < H) = true := decide_eq_true hyH
            go_wp2_with fail
            go_loopg [56] W (fun q i wr => ∃ x : Nat, x + q = W ∧ i = .int .i64 x ∧ SR wr bs ao cap l (a + 1 + y * D) ∧ MapAt wr b g cp W H (partB W r y x) ∧ Fr (fun k => k = bs ∨ k = g) w wr)
            case atStart => exact ⟨0, by omega, rfl, HSr.out, HMr.out, HFr.out⟩
            case round =>
              clear HSr HMr HFr
              obtain ⟨x, hxq, rfl, hs, hm, hf⟩ := hrel
              have HSx : Hid (SR wr bs ao cap l (a + 1 + y * D)) := hs
              have HMx : Hid (MapAt wr b g cp W H (partB W r y x)) := hm
              have HFx : Hid (Fr (fun k => k = bs ∨ k = g) w wr) := hf
              obtain ⟨c0, c1, cf⟩ := cell_of_two hs.blk
              clear hs hm hf
              by_cases hxW : x < W
              · have hdx : decide (x < W) = true := decide_eq_true hxW
                have hq8 : x / 8 < D := by rw [HD.out]; unfold wideS; omega
                have hyD : y * D + x / 8 < Z := by
                  have h3 : (y + 1) * D ≤ H * D := Nat.mul_le_mul_right _ hyH
                  rw [Nat.add_mul, Nat.mul_comm H D, ← HZ.out] at h3
                  omega
                obtain ⟨A, hA⟩ : ∃ A, A = a + 1 + y * D := ⟨_, rfl⟩
                rw [← hA] at c1
                obtain ⟨xq, hxq8⟩ : ∃ xq, xq = x / 8 := ⟨_, rfl⟩
                obtain ⟨xr, hxr8⟩ : ∃ xr, xr = x % 8 := ⟨_, rfl⟩
                have HNZ2 := HNZ.out
                have hjl : A + xq < l.length := by omega
                obtain ⟨blk, off, rfl, hcell⟩ := HSx.out.seen (by intro e; rw [e] at hjl; simp at hjl)
                have hcb := hcell (A + xq) hjl
                obtain ⟨cb, hcbe⟩ : ∃ cb, cb = l[A + xq]?.getD 0 := ⟨_, rfl⟩
                obtain ⟨ix, hix⟩ : ∃ ix, ix = A + xq := ⟨_, rfl⟩
                rw [← hcbe] at hcb
                have hcb2 : cb < 256 := by
                  rw [hcbe, List.getElem?_eq_getElem hjl]
                  exact HSx.out.byt _ (List.getElem_mem _)
                have q1 : (x : Int) / 8 = (xq : Int) := by omega
                have q2 : (x : Int) % 8 = (xr : Int) := by omega
                have q1' : (x : Int).tdiv 8 = (xq : Int) := by rw [Int.tdiv_eq_ediv_of_nonneg (by omega)]; exact q1
                have q2' : (x : Int).tmod 8 = (xr : Int) := by rw [Int.tmod_eq_emod_of_nonneg (by omega)]; exact q2
                obtain ⟨sh, hsh⟩ : ∃ sh, sh = 7 - xr := ⟨_, rfl⟩
                have hxr7 : xr ≤ 7 := by omega
                have q3 : 7 - (xr : Int) = (sh : Int) := by omega
                have hsh7 : sh ≤ 7 := by omega
                have HV : Hid (plcB W r x y = cb.testBit sh) := by
                  show plcB W r x y = _
                  unfold plcB
                  rw [← HD.out, ← hxq8, ← hxr8, ← hsh, hcbe, ← HDR.out, List.getD_eq_getElem?_getD, List.getElem?_drop, show a + 1 + (y * D + xq) = A + xq from by omega]
                have HSH : Hid (sh = 7 - xr ∧ A = a + 1 + y * D) := ⟨hsh, hA⟩
                have hsum : (A : Int) + (xq : Int) = (ix : Int) := by omega
                have hixl : (ix : Int) < (l.length : Int) := by omega
                have hixb : ix ≤ 140737488355328 := by omega
                rw [← hix] at hcb hjl
                clear hln hix
                have hwi : IntKind.i64.wrap (ix : Int) = ix := wrap64_small8 ix (by omega) (by omega)
                have hwi2 : IntKind.i64.wrap ((A : Int) + (xq : Int)) = ix := by rw [hsum]; exact hwi
                have hi0 : (0 : Int) ≤ (ix : Int) := by omega
                have hwsh : IntKind.i64.wrap (sh : Int) = sh := wrap64_small8 sh (by omega) (by omega)
                have hwsh2 : IntKind.i64.wrap (7 - (xr : Int)) = sh := by rw [q3]; exact hwsh
                have hsr : Op.shift .shr .u8 (cb : Int) .i64 (sh : Int) = pure (.int .u8 ((cb : Int) / 2 ^ sh)) := shift_u8 cb sh hsh7
                clear hcell hcbe hsh hA hq8 hyD HNZ2 hxq8 hxr8
                have hwq : IntKind.i64.wrap (xq : Int) = xq := wrap64_small8 xq (by omega) (by omega)
                have HKK : Hid (∀ w', Fr (fun k => k = g) wr w' → w'.cell? ⟨bs, 0, none⟩ = some (.slice (some ⟨blk, off, none⟩) l.length cap) ∧ w'.cell? ⟨bs, 1, none⟩ = some (.int .i64 (A : Int)) ∧ w'.cell? ⟨blk, off + ix, none⟩ = some (.int .u8 (cb : Int))) := fun w' f =>
                  ⟨f.cellv c0 (fun e => HX.out.2.1 e), f.cellv c1 (fun e => HX.out.2.1 e), f.cellv hcb (fun e => (HY.out (by intro e; rw [e] at hjl; simp at hjl) blk off rfl).2 e)⟩
                have HC : Hid (∀ w0, Fr (fun _ => False) wr w0 → ∀ V : Int, V = (((cb.testBit sh).toNat : Nat) : Int) → Calls Tryd.prog 66 #[.pointer (some ⟨b, 0, none⟩), .int .i64 x, .int .i64 y, .int .i64 V] w0 fun e w' => e = .returned (.int .i64 0) ∧ MapAt w' b g cp W H (partB W r y (x + 1)) ∧ Fr (fun k => k = g) wr w') := by
                  intro w0 f0 V hV
                  subst hV
                  refine Calls.mono (set_in b g cp W H (partB W r y x) x y _ w0 (HMx.out.kept f0 (fun h => h) (fun h => h)) hxW hyH (by cases cb.testBit sh <;> simp)) ?_
                  rintro e w' ⟨rfl, h1, h2⟩
                  refine ⟨rfl, h1.pix (fun a1 b1 _ _ => ?_), (f0.mono (fun _ _ h => h.elim)).trans h2 (fun _ _ h => h)⟩
                  rw [laidAll_one (v := plcB W r x y) (by rw [HV.out]; cases cb.testBit sh <;> rfl)]
                  exact partB_step a1 b1
                go_wp2_with fail
                go_region_held3 (fun w' => w'.cell? ⟨bs, 0, none⟩ = some (.slice (some ⟨blk, off, none⟩) l.length cap) ∧ w'.cell? ⟨bs, 1, none⟩ = some (.int .i64 (A : Int)) ∧ w'.cell? ⟨blk, off + ix, none⟩ = some (.int .u8 (cb : Int))) (exact HKK.out _ (by repeat (first | with_reducible exact Fr.refl _ _ | with_reducible refine Fr.drew ?_ | with_reducible exact hf5))) (first | (go_at_call 66; refine Calls.mono (HC.out _ (by repeat (first | with_reducible exact Fr.refl _ _ | with_reducible refine Fr.drew ?_)) _ (bit8 cb sh hcb2)) ?_; rintro e w5 ⟨rfl, hm5, hf5⟩))
                have HM5 : Hid (MapAt w5 b g cp W H (partB W r y (x + 1))) := hm5
                have HF5 : Hid (Fr (fun k => k = bs ∨ k = g) w w5) := HFx.out.trans hf5 (fun _ _ h => Or.inr h)
                have HS5 : Hid (SR w5 bs (some ⟨blk, off, none⟩) cap l (a + 1 + y * D)) := HSx.out.kept hf5 (fun e => HX.out.2.1 e) (fun hl k o e => (HY.out hl k o e).2)
                clear hm5 hf5 c0 c1 cf hcb
                go_wp2_with fail
                go_roundg (W - (x + 1))
                case measure => omega
                case rel => exact ⟨x + 1, by omega, congrArg (Value.int .i64) (by omega), HS5.out, HM5.out, HF5.out⟩
              · have hdx : decide (x < W) = false := decide_eq_false hxW
                have hxE : x = W := by omega
                have hyD : y * D + D ≤ Z := by
                  have h3 : (y + 1) * D ≤ H * D := Nat.mul_le_mul_right _ hyH
                  rw [Nat.add_mul, Nat.mul_comm H D, ← HZ.out] at h3
                  omega
                have HM6 : Hid (MapAt wr b g cp W H (partB W r (y + 1) 0)) := HMx.out.pix (fun a1 b1 ha hb => by rw [hxE]; exact partB_row a1 b1 ha)
                obtain ⟨A, hA⟩ : ∃ A, A = a + 1 + y * D := ⟨_, rfl⟩
                have HA2 : Hid (A + D = a + 1 + (y + 1) * D ∧ A + D ≤ l.length) := by
                  have := HNZ.out
                  refine ⟨?_, by omega⟩
                  rw [hA, Nat.add_mul]; omega
                rw [← hA] at c1 HSx
                have hAb : A + D ≤ 140737488355328 := by have := HA2.out.2; omega
                have HS6 : Hid (SR (wr.setCell ⟨bs, 1, none⟩ (.int .i64 ((A : Int) + (D : Int)))) bs ao cap l (a + 1 + (y + 1) * D)) := by
                  rw [← HA2.out.1]; exact HSx.out.moved (by push_cast; rfl) HA2.out.2
                have HF6 : Hid (Fr (fun k => k = bs ∨ k = g) w (wr.setCell ⟨bs, 1, none⟩ (.int .i64 ((A : Int) + (D : Int))))) := HFx.out.setCell (fun _ => Or.inl rfl) _
                have HM7 : Hid (MapAt (wr.setCell ⟨bs, 1, none⟩ (.int .i64 ((A : Int) + (D : Int)))) b g cp W H (partB W r (y + 1) 0)) := HM6.out.kept (Fr.one wr bs 1 _) (fun e => HX.out.1 e.symm) (fun e => HX.out.2.1 e.symm)
                clear hA HM6 HSx HMx HFx hxE
                go_wp2_with fail
                go_roundg (H - (y + 1))
                case measure => omega
                case rel => exact ⟨y + 1, by omega, congrArg (Value.int .i64) (by omega), HS6.out, HM7.out, HF6.out⟩
          · have hdy : decide (y < H) = false := decide_eq_false hyH
            have hyE : y = H := by omega
            subst hyE
            go_wp2_with fail
            refine bodyPost_end (results_none rfl _ _ _) rfl ⟨HFr.out, ?_⟩
            rw [HE.out]
            exact ⟨rfl, HMr.out.pix (fun a b ha hb => by unfold partB; rw [if_pos (Or.inl hb)])⟩
end Go.Proofs.YtpfajkkjnobdlaaDoor
