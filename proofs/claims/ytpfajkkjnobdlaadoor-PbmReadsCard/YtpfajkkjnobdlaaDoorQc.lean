/- The reference's reader: rows of bytes. -/
import Derived.Test.YtpfajkkjnobdlaaDoorQb
import Derived.Test.YtpfajkkjnobdlaaDoorRg
import Derived.Test.YtpfajkkjnobdlaaDoorRe
import Derived.Test.YtpfajkkjnobdlaaDoorRefPut
namespace Go.Proofs.YtpfajkkjnobdlaaDoor
set_option maxRecDepth 100000
open Go.RowKit

theorem By8.kept {S : Nat → Prop} {w w' : World} {ao : Option Addr} {l : List Nat} (h : By8 w ao l) (f : Fr S w w') (hs : ∀ k, S k → w.heap.size ≤ k) : By8 w' ao l := by
  refine ⟨h.lim, h.byt, fun hne => ?_⟩
  obtain ⟨b, off, e, hc⟩ := h.cell hne
  refine ⟨b, off, e, fun j hj => ?_⟩
  have h1 := hc j hj
  have h2 : b < w.heap.size := by
    by_cases hg : b < w.heap.size
    · exact hg
    · rw [World.cell?, Array.getElem?_eq_none (by show w.heap.size ≤ b; omega)] at h1; cases h1
  exact f.cellv h1 (fun hk => by have := hs _ hk; omega)

theorem three_all {w : World} {b : Nat} {x y z x' y' z' : Value} {t : TypeId} (h : w.heap[b]? = some (.cells #[x, y, z] t (0, 0))) :
    (((w.setCell ⟨b, 0, none⟩ x').setCell ⟨b, 1, none⟩ y').setCell ⟨b, 2, none⟩ z').heap[b]? = some (.cells #[x', y', z'] t (0, 0)) := by
  simp [World.setCell, Array.getElem?_modify, h]
theorem RowAt.congr {w : World} {g cap W H : Nat} {P Q : Nat → Nat → Bool} (h : RowAt w g cap W H P) (e : ∀ x y, x < W → y < H → P x y = Q x y) : RowAt w g cap W H Q := by
  unfold RowAt at *
  rw [← render_congr e]; exact h
theorem err_ret {w w1 : World} {er : Nat} {R0 : Except Nat Bmp} (f : Fr (fun _ => False) w w1) (h : R0 = .error er) : ReadQ w R0 (.returned (.tuple #[.agg zeroB, .int .i64 (er : Int)])) w1 := by
  subst h; exact ⟨f, rfl⟩

set_option linter.unusedSimpArgs false in
set_option maxHeartbeats 4000000 in
theorem rbytes_any (ao : Option Addr) (cap : Nat) (l : List Nat) (a W H : Nat) (w : World) (h : By8 w ao l) (ha : a ≤ l.length) (hs : sizeS W H = true) :
    Calls Tryd.prog 32 #[.slice ao l.length cap, .int .i64 (a : Int), .int .i64 (W : Int), .int .i64 (H : Int)] w (ReadQ w (rowsS W H (l.drop a))) := by
  have HB : Hid (By8 w ao l) := h
  have hlim := h.lim
  obtain ⟨z1, z2, z3⟩ := sizeS_iff.1 hs
  have HSZ : Hid (1 ≤ W ∧ 1 ≤ H ∧ W * H ≤ 1048576) := ⟨z1, z2, z3⟩
  obtain ⟨f1, f2, _⟩ := size_facts z1 z2 z3
  obtain ⟨D, hD⟩ : ∃ D, D = wideS W := ⟨_, rfl⟩
  have HD : Hid (D = wideS W) := hD
  have hDW : (W + 7) / 8 = D := hD.symm
  have hDb : D ≤ W := by unfold wideS at hD; omega
  obtain ⟨Z, hZ⟩ : ∃ Z, Z = D * H := ⟨_, rfl⟩
  have HZ : Hid (Z = D * H) := hZ
  have hZb : Z ≤ 1048576 := by rw [hZ]; exact Nat.le_trans (Nat.mul_le_mul_right H hDb) z3
  have hm1 : (D : Int) * (H : Int) = (Z : Int) := by rw [hZ]; push_cast; rfl
  have hd1 : ((W : Int) + 7) / 8 = (D : Int) := by omega
  have hd2 : ((W : Int) + 7).tdiv 8 = (D : Int) := by rw [Int.tdiv_eq_ediv_of_nonneg (by omega)]; exact hd1
  have hwD : IntKind.i64.wrap (D : Int) = D := wrap64_small8 D (by omega) (by omega)
  obtain ⟨n, hn⟩ : ∃ n, n = l.length := ⟨_, rfl⟩
  have HN : Hid (n = l.length) := hn
  rw [← hn] at hlim ha ⊢
  obtain ⟨R0, hR0⟩ : ∃ R0, R0 = rowsS W H (l.drop a) := ⟨_, rfl⟩
  have HR0 : Hid (R0 = rowsS W H (l.drop a)) := hR0
  rw [← hR0]
  clear h hn hR0 hs hD hZ z3 hDW
  have HF1 : Hid (Fr (fun _ => False) w (w.alloc (.cells #[.int .i64 0, .int .i64 0, .slice none 0 0] 25))) := (Fr.refl _ w).alloc _
  have HB1 : Hid ((w.alloc (.cells #[.int .i64 0, .int .i64 0, .slice none 0 0] 25)).heap[w.heap.size]? = some (.cells #[.int .i64 0, .int .i64 0, .slice none 0 0] 25 (0, 0))) := heap_alloc_new w _
  go_enter Tryd.func32, Tryd.ntmps32
  rcases hr : l.drop a with _ | ⟨c, r⟩
  · have hpe : a = n := by
      have : (l.drop a).length = 0 := by rw [hr]; rfl
      rw [List.length_drop, ← HN.out] at this
      omega
    have HR1 : Hid (R0 = .error 30) := by show _ = _; rw [HR0.out, hr]; rfl
    have hge : decide ((n : Int) ≤ (a : Int)) = true := decide_eq_true (by omega)
    have hge2 : decide (n ≤ a) = true := decide_eq_true (by omega)
    clear hr hpe
    obtain ⟨t0, t1, t2, tf⟩ := cell_of_three HB1.out
    go_wp2_with fail
    refine bodyPost_ret (v := .tuple #[.agg zeroB, .int .i64 ((30 : Nat) : Int)]) (by simp [zeroB, results, Tryd.results32, go_sem, t0, t1, t2]) rfl (err_ret HF1.out HR1.out)
  · obtain ⟨hlt, hget, hd, hmem⟩ := drop_cons hr
    rw [← HN.out] at hlt
    have hc := HB.out.byt c hmem
    obtain ⟨bb, off, rfl, hcc⟩ := HB.out.cell (by intro e; rw [e] at hmem; cases hmem)
    have hcell := hcc a (by rw [← HN.out]; exact hlt)
    rw [hget] at hcell
    have hcell1 : (w.alloc (.cells #[.int .i64 0, .int .i64 0, .slice none 0 0] 25)).cell? ⟨bb, off + a, none⟩ = some (.int .u8 (c : Int)) := HF1.out.cellv hcell (fun h => h)
    obtain ⟨m, hm⟩ : ∃ m, m = r.length := ⟨_, rfl⟩
    have HM : Hid (m = r.length) := hm
    have hnm : n = a + 1 + m := by rw [hm, ← hd, List.length_drop, ← HN.out]; omega
    have HE : Hid (l.drop a = c :: r) := hr
    have HDR : Hid (l.drop (a + 1) = r) := hd
    have hge : decide ((n : Int) ≤ (a : Int)) = false := decide_eq_false (by omega)
    have hge2 : decide (n ≤ a) = false := decide_eq_false (by omega)
    have hbI : (a : Int) < (n : Int) := by omega
    have hsub : (n : Int) - (a : Int) - 1 = (m : Int) := by omega
    have hsub2 : (n : Int) - (a : Int) = (m : Int) + 1 := by omega
    have HNM : Hid (n = a + 1 + m) := hnm
    clear hr hd hget hmem hcc hm hcell hnm
    go_wp2_with fail
    refine Calls.mono (zwhite_c c _ hc) ?_
    rintro e w1 ⟨rfl, rfl⟩
    cases hwt : white c
    · have HR1 : Hid (R0 = .error 30) := by
        show _ = _
        rw [HR0.out, HE.out, rowsS, hwt]; rfl
      obtain ⟨t0, t1, t2, tf⟩ := cell_of_three HB1.out
      go_wp2_with fail
      refine bodyPost_ret (v := .tuple #[.agg zeroB, .int .i64 ((30 : Nat) : Int)]) (by simp [zeroB, results, Tryd.results32, go_sem, t0, t1, t2]) rfl (err_ret HF1.out HR1.out)
    · have HR1 : Hid (R0 = if m < Z then .error 32 else if Z < m then .error 33 else .ok (W, H, plcB W r)) := by
        show _ = _
        rw [HR0.out, HE.out, rowsS, hwt, HM.out, HZ.out, HD.out]; rfl
      clear hwt hcell1
      by_cases h1 : m < Z
      · have HR2 : Hid (R0 = .error 32) := by show _ = _; rw [HR1.out, if_pos h1]
        have h1I : decide ((m : Int) < (Z : Int)) = true := decide_eq_true (by omega)
        have h1N : decide (m < Z) = true := decide_eq_true h1
        obtain ⟨t0, t1, t2, tf⟩ := cell_of_three HB1.out
        go_wp2_with fail
        refine bodyPost_ret (v := .tuple #[.agg zeroB, .int .i64 ((32 : Nat) : Int)]) (by simp [zeroB, results, Tryd.results32, go_sem, t0, t1, t2]) rfl (err_ret HF1.out HR2.out)
      · have h1I : decide ((m : Int) < (Z : Int)) = false := decide_eq_false (by omega)
        have h1N : decide (m < Z) = false := decide_eq_false h1
        by_cases h2 : Z < m
        · have HR2 : Hid (R0 = .error 33) := by show _ = _; rw [HR1.out, if_neg h1, if_pos h2]
          have h2I : decide ((Z : Int) < (m : Int)) = true := decide_eq_true (by omega)
          have h2N : decide (Z < m) = true := decide_eq_true h2
          obtain ⟨t0, t1, t2, tf⟩ := cell_of_three HB1.out
          go_wp2_with fail
          refine bodyPost_ret (v := .tuple #[.agg zeroB, .int .i64 ((33 : Nat) : Int)]) (by simp [zeroB, results, Tryd.results32, go_sem, t0, t1, t2]) rfl (err_ret HF1.out HR2.out)
        · have HR2 : Hid (R0 = .ok (W, H, plcB W r)) := by show _ = _; rw [HR1.out, if_neg h1, if_neg h2]
          have h2I : decide ((Z : Int) < (m : Int)) = false := decide_eq_false (by omega)
          have h2N : decide (Z < m) = false := decide_eq_false h2
          have HMZ : Hid (m = Z) := by show _ = _; omega
          clear HR0 HR1 h1 h2
          go_wp2_with fail
          have HB8 : Hid (By8 (w.alloc (.cells #[.int .i64 0, .int .i64 0, .slice none 0 0] 25)) (some ⟨bb, off, none⟩) l) := HB.out.kept HF1.out (fun _ h => h.elim)
          generalize (w.alloc (.cells #[.int .i64 0, .int .i64 0, .slice none 0 0] 25)) = w1 at *
          obtain ⟨B8, hB8⟩ : ∃ B8, B8 = w.heap.size := ⟨_, rfl⟩
          rw [← hB8] at HB1 ⊢
          have HBW : Hid (B8 = w.heap.size) := hB8
          clear hB8 HB
          obtain ⟨NW, hNW⟩ : ∃ NW, NW = H * stride W := ⟨_, rfl⟩
          have HNW : Hid (NW = H * stride W) := hNW
          have HZW : Hid (Calls Tryd.prog 53 #[.int .i64 (W : Int), .int .i64 (H : Int)] w1 fun e w' => ∃ g, e = .returned (.agg #[.int .i64 (W : Int), .int .i64 (H : Int), .slice (some ⟨g, 0, none⟩) NW NW]) ∧ RowAt w' g NW W H (fun _ _ => false) ∧ Fr (fun _ => False) w1 w' ∧ w1.heap.size ≤ g) := by
            rw [hNW]; exact zwhite_any W H w1 HSZ.out.1 HSZ.out.2.1 HSZ.out.2.2
          clear hNW
          refine Calls.mono HZW.out ?_
          rintro e w2 ⟨g, rfl, hrow, hf2, hg⟩
          have HRW : Hid (RowAt w2 g NW W H (fun _ _ => false)) := hrow
          have HF2 : Hid (Fr (fun _ => False) w1 w2) := hf2
          have HG : Hid (w1.heap.size ≤ g) := hg
          clear hrow hf2 hg HZW
          go_upto_region 9 with (fail)
          have HF3 : Hid (Fr (fun _ => False) w2 (w2.alloc (.cells #[.int .i64 (W : Int), .int .i64 (H : Int), .slice (some ⟨g, 0, none⟩) NW NW] 25))) := (Fr.refl _ w2).alloc _
          have HB3 : Hid ((w2.alloc (.cells #[.int .i64 (W : Int), .int .i64 (H : Int), .slice (some ⟨g, 0, none⟩) NW NW] 25)).heap[w2.heap.size]? = some (.cells #[.int .i64 (W : Int), .int .i64 (H : Int), .slice (some ⟨g, 0, none⟩) NW NW] 25 (0, 0))) := heap_alloc_new w2 _
          generalize (w2.alloc (.cells #[.int .i64 (W : Int), .int .i64 (H : Int), .slice (some ⟨g, 0, none⟩) NW NW] 25)) = w3 at *
          have HGL : Hid (g < w2.heap.size) := (World.ownsRow.lt HRW.out g rfl).2
          have HRW3 : Hid (RowAt w3 g NW W H (partB W r 0 0)) := (HRW.out.kept HF3.out (fun h => h)).congr (fun x y _ _ => by simp [partB])
          have HF13 : Hid (Fr (fun _ => False) w1 w3) := HF2.out.trans HF3.out (fun _ _ h => h)
          obtain ⟨B11, hB11⟩ : ∃ B11, B11 = w2.heap.size := ⟨_, rfl⟩
          rw [← hB11] at HB3 ⊢
          have HBV : Hid (B11 = w2.heap.size) := hB11
          clear hB11 HRW
          have HX : Hid (∀ w', Fr (fun k => k = g) w3 w' → (w'.cell? ⟨B11, 0, none⟩ = some (.int .i64 (W : Int)) ∧ w'.cell? ⟨B11, 1, none⟩ = some (.int .i64 (H : Int)) ∧ w'.cell? ⟨B11, 2, none⟩ = some (.slice (some ⟨g, 0, none⟩) NW NW)) ∧ w'.heap[B8]? = some (.cells #[.int .i64 0, .int .i64 0, .slice none 0 0] 25 (0, 0)) ∧ By8 w' (some ⟨bb, off, none⟩) l ∧ Fr (fun _ => False) w w') := fun w' f => by
            have h1 : w'.heap[B11]? = _ := (f.block _ (lt_of_block HB3.out) (fun h => by have := HGL.out; have := HBV.out; omega)).trans HB3.out
            obtain ⟨e0, e1, e2, _⟩ := cell_of_three h1
            have f1 : Fr (fun _ => False) w1 w' := HF13.out.trans f (fun i hi e => by have := HG.out; omega)
            have h2 : w'.heap[B8]? = _ := (f1.block _ (lt_of_block HB1.out) (fun h => h)).trans HB1.out
            exact ⟨⟨e0, e1, e2⟩, h2, HB8.out.kept f1 (fun _ h => h.elim), HF1.out.trans f1 (fun _ _ h => h)⟩
          go_wp2_with fail
          go_loopg [12] H (fun q i wr => ∃ y : Nat, y + q = H ∧ i = .int .i64 y ∧ RowAt wr g NW W H (partB W r y 0) ∧ Fr (fun k => k = g) w3 wr)
          case atStart => exact ⟨0, by omega, rfl, HRW3.out, Fr.refl _ _⟩
          case round =>
            clear HRW3
            obtain ⟨y, hyq, rfl, hrow, hf⟩ := hrel
            have HRr : Hid (RowAt wr g NW W H (partB W r y 0)) := hrow
            have HFr : Hid (Fr (fun k => k = g) w3 wr) := hf
            clear hrow hf
            by_cases hyH : y < H
            · have hdy : decide (y < H) = true := decide_eq_true hyH
              go_wp2_with fail
              go_loopg [13] W (fun q i wr => ∃ x : Nat, x + q = W ∧ i = .int .i64 x ∧ RowAt wr g NW W H (partB W r y x) ∧ Fr (fun k => k = g) w3 wr)
              case atStart => exact ⟨0, by omega, rfl, HRr.out, HFr.out⟩
              case round =>
                clear HRr HFr
                obtain ⟨x, hxq, rfl, hrow, hf⟩ := hrel
                have HRx : Hid (RowAt wr g NW W H (partB W r y x)) := hrow
                have HFx : Hid (Fr (fun k => k = g) w3 wr) := hf
                clear hrow hf
                by_cases hxW : x < W
                · have hdx : decide (x < W) = true := decide_eq_true hxW
                  have hq8 : x / 8 < D := by rw [HD.out]; unfold wideS; omega
                  obtain ⟨yd, hyd⟩ : ∃ yd, yd = y * D := ⟨_, rfl⟩
                  have hyD : yd + x / 8 < Z := by
                    have h3 : (y + 1) * D ≤ H * D := Nat.mul_le_mul_right _ hyH
                    rw [Nat.add_mul, Nat.mul_comm H D, ← HZ.out, ← hyd] at h3
                    omega
                  have hydI : (y : Int) * (D : Int) = (yd : Int) := by rw [hyd]; push_cast; rfl
                  obtain ⟨xq, hxq8⟩ : ∃ xq, xq = x / 8 := ⟨_, rfl⟩
                  obtain ⟨xr, hxr8⟩ : ∃ xr, xr = x % 8 := ⟨_, rfl⟩
                  have HNZ2 := HMZ.out
                  have HNM2 := HNM.out
                  have hjl : a + 1 + yd + xq < l.length := by rw [← HN.out]; omega
                  obtain ⟨bb', off', e', hcell⟩ := (HX.out wr HFx.out).2.2.1.cell (by intro e; rw [e] at hjl; simp at hjl)
                  simp only [Option.some.injEq, Addr.mk.injEq, and_true] at e'
                  obtain ⟨rfl, rfl⟩ := e'
                  have hcb := hcell (a + 1 + yd + xq) hjl
                  obtain ⟨cb, hcbe⟩ : ∃ cb, cb = l[a + 1 + yd + xq]?.getD 0 := ⟨_, rfl⟩
                  obtain ⟨ix, hix⟩ : ∃ ix, ix = a + 1 + yd + xq := ⟨_, rfl⟩
                  rw [← hcbe] at hcb
                  have hcb2 : cb < 256 := by
                    rw [hcbe, List.getElem?_eq_getElem hjl]
                    exact HB8.out.byt _ (List.getElem_mem _)
                  have q1 : (x : Int) / 8 = (xq : Int) := by omega
                  have q2 : (x : Int) % 8 = (xr : Int) := by omega
                  have q1' : (x : Int).tdiv 8 = (xq : Int) := by rw [Int.tdiv_eq_ediv_of_nonneg (by omega)]; exact q1
                  have q2' : (x : Int).tmod 8 = (xr : Int) := by rw [Int.tmod_eq_emod_of_nonneg (by omega)]; exact q2
                  obtain ⟨sh, hsh⟩ : ∃ sh, sh = 7 - xr := ⟨_, rfl⟩
                  have hxr7 : xr ≤ 7 := by omega
                  have q3 : 7 - (xr : Int) = (sh : Int) := by omega
                  have hsh7 : sh ≤ 7 := by omega
                  have HV : Hid (plcB W r x y = cb.testBit sh) := by
                    show plcB W r x y = _
                    unfold plcB
                    rw [← HD.out, ← hxq8, ← hxr8, ← hsh, hcbe, ← HDR.out, List.getD_eq_getElem?_getD, List.getElem?_drop, ← hyd, show a + 1 + (yd + xq) = a + 1 + yd + xq from by omega]
                  obtain ⟨a1, ha1⟩ : ∃ a1, a1 = a + 1 := ⟨_, rfl⟩
                  obtain ⟨a2, ha2⟩ : ∃ a2, a2 = a1 + yd := ⟨_, rfl⟩
                  have hs1 : (a : Int) + 1 = (a1 : Int) := by omega
                  have hs2 : (a1 : Int) + (yd : Int) = (a2 : Int) := by omega
                  have hsum : (a2 : Int) + (xq : Int) = (ix : Int) := by omega
                  have hixl : (ix : Int) < (n : Int) := by rw [HN.out]; omega
                  rw [← hix] at hcb
                  have hixb : ix ≤ 1073741824 := by rw [← HN.out] at hjl; omega
                  have HKC : Hid (∀ w', Fr (fun k => k = g) wr w' → w'.cell? ⟨bb, off + ix, none⟩ = some (.int .u8 (cb : Int))) := fun w' f => by
                    obtain ⟨b2, o2, e2, hc2⟩ := (HX.out w' (HFx.out.trans f (fun _ _ h => h))).2.2.1.cell (by intro e; rw [e] at hjl; simp at hjl)
                    simp only [Option.some.injEq, Addr.mk.injEq, and_true] at e2
                    obtain ⟨rfl, rfl⟩ := e2
                    have h := hc2 (a + 1 + yd + xq) hjl
                    rw [← hcbe, ← hix] at h
                    exact h
                  have ha1b : a1 ≤ 1073741825 := by omega
                  have ha2b : a2 ≤ 1073741825 := by omega
                  have hw1 : IntKind.i64.wrap (a1 : Int) = a1 := wrap64_small8 a1 (by omega) (by omega)
                  have hw2 : IntKind.i64.wrap (a2 : Int) = a2 := wrap64_small8 a2 (by omega) (by omega)
                  clear hjl hix ha1 ha2
                  have hwi : IntKind.i64.wrap (ix : Int) = ix := wrap64_small8 ix (by omega) (by omega)
                  have hi0 : (0 : Int) ≤ (ix : Int) := by omega
                  have hwsh : IntKind.i64.wrap (sh : Int) = sh := wrap64_small8 sh (by omega) (by omega)
                  have hwshu : IntKind.u64.wrap (sh : Int) = sh := by rw [IntKind.wrap_u64]; omega
                  have hwsh2 : IntKind.i64.wrap (7 - (xr : Int)) = sh := by rw [q3]; exact hwsh
                  have hsr : Op.shift .shr .u8 (cb : Int) .i64 (sh : Int) = pure (.int .u8 ((cb : Int) / 2 ^ sh)) := shift_u8 cb sh hsh7
                  have hsru : Op.shift .shr .u8 (cb : Int) .u64 (sh : Int) = pure (.int .u8 ((cb : Int) / 2 ^ sh)) := hsr
                  obtain ⟨bt, hbt⟩ : ∃ bt : Bool, bt = cb.testBit sh := ⟨_, rfl⟩
                  have hb8 := bit8 cb sh hcb2
                  rw [← hbt] at hb8
                  have hwq : IntKind.i64.wrap (xq : Int) = xq := wrap64_small8 xq (by omega) (by omega)
                  have hwy : IntKind.i64.wrap (yd : Int) = yd := wrap64_small8 yd (by omega) (by omega)
                  have HPT : Hid (∀ w', Fr (fun _ => False) wr w' → Calls Tryd.prog 54 #[.agg #[.int .i64 (W : Int), .int .i64 (H : Int), .slice (some ⟨g, 0, none⟩) NW NW], .int .i64 (x : Int), .int .i64 (y : Int), .int .i64 ((bt.toNat : Nat) : Int)] w' fun e w'' => e = .returned (.tuple #[]) ∧ RowAt w'' g NW W H (partB W r y (x + 1)) ∧ Fr (fun k => k = g) w' w'') := fun w' f => by
                    have h := zput_any W H g NW (partB W r y x) x y bt w' (HRx.out.kept f (fun h => h)) HSZ.out.1 HSZ.out.2.1 HSZ.out.2.2 hxW hyH
                    rw [← HNW.out] at h
                    refine h.mono ?_
                    rintro e w'' ⟨h1, h2, h3⟩
                    refine ⟨h1, h2.congr (fun p q _ _ => ?_), h3⟩
                    rw [← partB_step, HV.out, ← hbt]
                    unfold putPix
                    by_cases e : p = x ∧ q = y
                    · rw [if_pos e, if_pos ⟨e.2, e.1⟩]
                    · rw [if_neg e, if_neg (fun h => e ⟨h.2, h.1⟩)]
                  clear hbt hcbe hsh hq8 hyD HNZ2 HNM2 hxq8 hxr8 hyd hcell
                  have HKK : Hid (∀ w', Fr (fun k => k = g) wr w' → w'.cell? ⟨B11, 0, none⟩ = some (.int .i64 (W : Int)) ∧ w'.cell? ⟨B11, 1, none⟩ = some (.int .i64 (H : Int)) ∧ w'.cell? ⟨B11, 2, none⟩ = some (.slice (some ⟨g, 0, none⟩) NW NW)) := fun w' f => (HX.out w' (HFx.out.trans f (fun _ _ h => h))).1
                  obtain ⟨c0, c1, c2⟩ := HKK.out wr (Fr.refl _ _)
                  go_wp2_with fail
                  go_region_held3 (fun w' => (w'.cell? ⟨B11, 0, none⟩ = some (.int .i64 (W : Int)) ∧ w'.cell? ⟨B11, 1, none⟩ = some (.int .i64 (H : Int)) ∧ w'.cell? ⟨B11, 2, none⟩ = some (.slice (some ⟨g, 0, none⟩) NW NW)) ∧ w'.cell? ⟨bb, off + ix, none⟩ = some (.int .u8 (cb : Int))) (exact ⟨HKK.out _ (by repeat (first | with_reducible exact Fr.refl _ _ | with_reducible refine Fr.drew ?_ | with_reducible refine Fr.trans ?_ hf6 (fun _ _ hh => hh))), HKC.out _ (by repeat (first | with_reducible exact Fr.refl _ _ | with_reducible refine Fr.drew ?_ | with_reducible refine Fr.trans ?_ hf6 (fun _ _ hh => hh)))⟩) (first | (go_at_call 54; refine (HPT.out _ ((Fr.refl _ _).drew)).mono ?_; rintro e w6 ⟨rfl, hr6, hf6⟩))
                  have HF6 : Hid (Fr (fun k => k = g) w3 w6) := HFx.out.drew.trans hf6 (fun _ _ hh => hh)
                  have HR6 : Hid (RowAt w6 g NW W H (partB W r y (x + 1))) := hr6
                  clear hf6 hr6 c0 c1 c2
                  go_wp2_with fail
                  go_roundg (W - (x + 1))
                  case measure => omega
                  case rel => exact ⟨x + 1, by omega, congrArg (Value.int .i64) (by omega), HR6.out, HF6.out⟩
                · have hdx : decide (x < W) = false := decide_eq_false hxW
                  have hxE : x = W := by omega
                  have HR5 : Hid (RowAt wr g NW W H (partB W r (y + 1) 0)) := HRx.out.congr (fun p q hp _ => by rw [hxE]; exact partB_row p q hp)
                  clear hxE
                  go_wp2_with fail
                  go_roundg (H - (y + 1))
                  case measure => omega
                  case rel => exact ⟨y + 1, by omega, congrArg (Value.int .i64) (by omega), HR5.out, HFx.out⟩
            · have hdy : decide (y < H) = false := decide_eq_false hyH
              have hyE : y = H := by omega
              have HR6 : Hid (RowAt wr g NW W H (plcB W r)) := HRr.out.congr (fun p q _ hq => by rw [hyE]; unfold partB; rw [if_pos (Or.inl hq)])
              clear hyE
              obtain ⟨⟨c0, c1, c2⟩, hb8, _, hfw⟩ := HX.out wr HFr.out
              obtain ⟨t0, t1, t2, tf⟩ := cell_of_three hb8
              have h3 := three_all (x' := .int .i64 (W : Int)) (y' := .int .i64 (H : Int)) (z' := .slice (some ⟨g, 0, none⟩) NW NW) hb8
              have HB9 : Hid ((((wr.setCell ⟨B8, 0, none⟩ (.int .i64 (W : Int))).setCell ⟨B8, 1, none⟩ (.int .i64 (H : Int))).setCell ⟨B8, 2, none⟩ (.slice (some ⟨g, 0, none⟩) NW NW)).heap[B8]? = some (.cells #[.int .i64 (W : Int), .int .i64 (H : Int), .slice (some ⟨g, 0, none⟩) NW NW] 25 (0, 0))) := h3
              have HF9 : Hid (Fr (fun k => k = B8) wr (((wr.setCell ⟨B8, 0, none⟩ (.int .i64 (W : Int))).setCell ⟨B8, 1, none⟩ (.int .i64 (H : Int))).setCell ⟨B8, 2, none⟩ (.slice (some ⟨g, 0, none⟩) NW NW))) := (((Fr.refl (fun k => k = B8) wr).setCell (fun _ => rfl) _).setCell (fun _ => rfl) _).setCell (fun _ => rfl) _
              have HFW : Hid (Fr (fun _ => False) w wr) := hfw
              clear hb8 h3 hfw
              go_wp2_with fail
              generalize (((wr.setCell ⟨B8, 0, none⟩ (.int .i64 (W : Int))).setCell ⟨B8, 1, none⟩ (.int .i64 (H : Int))).setCell ⟨B8, 2, none⟩ (.slice (some ⟨g, 0, none⟩) NW NW)) = w9 at *
              clear t0 t1 t2 tf
              obtain ⟨t0, t1, t2, tf⟩ := cell_of_three HB9.out
              refine bodyPost_ret (v := .tuple #[.agg #[.int .i64 (W : Int), .int .i64 (H : Int), .slice (some ⟨g, 0, none⟩) NW NW], .int .i64 0]) (by simp [results, Tryd.results32, go_sem, t0, t1, t2]) rfl ?_
              rw [HR2.out]
              have hg1 : w.heap.size ≤ g := Nat.le_trans HF1.out.size HG.out
              have hgB : g ≠ B8 := by
                have := lt_of_block HB1.out
                have := HG.out
                omega
              refine ⟨HFW.out.trans HF9.out (fun i hi e => by have := HBW.out; omega), _, rfl, g, NW, by show _ = _; rw [HNW.out], HR6.out.kept HF9.out hgB, hg1, HSZ.out.1, HSZ.out.2.1, HSZ.out.2.2⟩
end Go.Proofs.YtpfajkkjnobdlaaDoor
