/- Package generic: pixels, by a decoder. -/
import Derived.Test.YtkggdnkmaldmlabK7
namespace Go.Proofs.Ytkggdnkmaldmlab
open Go.RowKit

theorem ahead_d (v : Value) (w : World) : Sem.run Try.prog (nilAhead 236 77 v "burin/generic.decide") w = .ok (some false) w := by kernel_rfl

set_option maxRecDepth 100000 in
set_option maxHeartbeats 4000000 in
theorem pixels_d (v : Value) (D : Who 86 v) (base t W H y g cap rc gi : Nat) (skip : Bool) (P : Pxs) (w : World) (s : D.S)
    (hD : D.At w s) (hl : W ≤ D.left (D.abs s)) (hr : RowAt w g cap W H P) (hg : ¬ D.own s g) (hi : IntRow w gi W (fun x => cxJ W P t x y)) (hgi : ¬ D.own s gi) (hgg : gi ≠ g) (hmay : ∀ x, x < W → D.may (P x y).toNat) (ht : t < 4) (hy : y < H) (h1 : 1 ≤ W) (h2 : 1 ≤ H) (h3 : W * H ≤ 1048576) (hb : base ≤ 131072) :
    Calls Try.prog 44 #[procV base t skip, .iface 77 v, .slice (some ⟨g, y * stride W, none⟩) (stride W) rc, .slice (some ⟨gi, 0, none⟩) W W] w fun e w' => e = .returned (.tuple #[]) ∧ ∃ s', D.At w' s' ∧ D.abs s' = (pixW D.ask base t W y W (D.abs s, P)).1 ∧
      RowAt w' g cap W H (pixW D.ask base t W y W (D.abs s, P)).2 ∧ Fr (fun k => D.own s k ∨ k = g) w w' ∧ (∀ k, D.own s' k → D.own s k ∨ w.heap.size ≤ k) := by
  obtain ⟨f1, f2, f3⟩ := size_facts h1 h2 h3
  have hS : stride W ≤ 1048576 := by unfold stride; omega
  have hZ := sizeT_le t ht
  have HP0 : Hid (PxAt D base t W H y g cap gi P s (w.alloc (.cells #[.int .i64 base, .int .i64 t, .int .i64 (sizeT t : Nat), .int .i64 ((2 ^ cntS t 2 - 1 : Nat) : Int), .bool skip] 62)) 0 s (w.alloc (.cells #[.int .i64 base, .int .i64 t, .int .i64 (sizeT t : Nat), .int .i64 ((2 ^ cntS t 2 - 1 : Nat) : Int), .bool skip] 62))) := by
    have f : Fr (fun _ => False) w (w.alloc (.cells #[.int .i64 base, .int .i64 t, .int .i64 (sizeT t : Nat), .int .i64 ((2 ^ cntS t 2 - 1 : Nat) : Int), .bool skip] 62)) := (Fr.refl _ _).alloc _
    exact ⟨D.kept hD f (fun _ _ h => h), rfl, hr.kept f (fun h => h), hi.kept f (fun h => h), Fr.refl _ _, fun k hk => Or.inl hk, hl, fun a _ h => h⟩
  have HB0 : Hid (∀ w', Fr (fun k => D.own s k ∨ k = g) (w.alloc (.cells #[.int .i64 base, .int .i64 t, .int .i64 (sizeT t : Nat), .int .i64 ((2 ^ cntS t 2 - 1 : Nat) : Int), .bool skip] 62)) w' → w'.heap[w.heap.size]? = some (.cells #[.int .i64 base, .int .i64 t, .int .i64 (sizeT t : Nat), .int .i64 ((2 ^ cntS t 2 - 1 : Nat) : Int), .bool skip] 62 (0, 0))) := fun w' f => by
    rw [f.block _ (by simp) ?_]
    · exact heap_alloc_new w _
    · rintro (h | h)
      · have := D.lt hD h; omega
      · have := hr.lt; omega
  have HF0 : Hid (Fr (fun _ => False) w (w.alloc (.cells #[.int .i64 base, .int .i64 t, .int .i64 (sizeT t : Nat), .int .i64 ((2 ^ cntS t 2 - 1 : Nat) : Int), .bool skip] 62))) := (Fr.refl _ _).alloc _
  have HK : Hid (¬ D.own s g ∧ ¬ D.own s gi ∧ gi ≠ g ∧ (∀ x, x < W → D.may (P x y).toNat) ∧ t < 4 ∧ y < H ∧ g < (w.alloc (.cells #[.int .i64 base, .int .i64 t, .int .i64 (sizeT t : Nat), .int .i64 ((2 ^ cntS t 2 - 1 : Nat) : Int), .bool skip] 62)).heap.size ∧ gi < (w.alloc (.cells #[.int .i64 base, .int .i64 t, .int .i64 (sizeT t : Nat), .int .i64 ((2 ^ cntS t 2 - 1 : Nat) : Int), .bool skip] 62)).heap.size) := ⟨hg, hgi, hgg, hmay, ht, hy, Nat.lt_of_lt_of_le hr.lt HF0.out.size, Nat.lt_of_lt_of_le hi.lt HF0.out.size⟩
  unfold procV
  clear hD hl hr hg hi hgi hgg hmay hy h2 h3 f2 f3
  generalize sizeT t = Z at *
  go_enter Try.func44, Try.ntmps44
  go_wp2_with fail
  generalize w.alloc (.cells #[.int .i64 base, .int .i64 t, .int .i64 Z, .int .i64 ((2 ^ cntS t 2 - 1 : Nat) : Int), .bool skip] 62) = w0 at *
  go_loopw [8, 9, 10, 11, 12, 13, 16] (fun c _ _ _ _ _ j wr => ∃ (n : Nat) (sN : D.S), n ≤ W ∧ j = .int .i64 n ∧ c = .int .i64 (ownJ W (pixW D.ask base t W y n (D.abs s, P)).2 t n y : Nat) ∧ PxAt D base t W H y g cap gi P s w0 n sN wr) (fun _ _ _ _ _ _ j _ => W - (intOf j).toNat)
  case atStart => exact ⟨0, s, Nat.zero_le _, rfl, by rw [ownJ_zero]; rfl, HP0.out⟩
  case round =>
    obtain ⟨n, sN, hn, rfl, rfl, hp⟩ := hrel
    have HP : Hid (PxAt D base t W H y g cap gi P s w0 n sN wr) := hp
    clear hp
    by_cases hlt : n < W
    · have hpx := HP.out
      have hcF := hpx.ints.get hlt
      obtain ⟨Pc, HPc⟩ : ∃ Pc, Hid (Pc = (pixW D.ask base t W y n (D.abs s, P)).2) := ⟨_, rfl⟩
      obtain ⟨ac, HAc⟩ : ∃ ac, Hid (ac = (pixW D.ask base t W y n (D.abs s, P)).1) := ⟨_, rfl⟩
      have hrow := hpx.row
      have habs := hpx.abs
      have hle := hpx.le
      rw [← HPc.out] at hrow hle ⊢
      rw [← HAc.out] at habs
      have hA : n / 64 < stride W := by unfold stride; omega
      have hcX : wr.cell? ⟨g, y * stride W + n / 64, none⟩ = some (.int .u64 (wd W Pc y (n / 64) : Nat)) := by
        rw [World.ownsRow.cellAt hrow _ (by have := at_lt (W := W) HK.out.2.2.2.2.2.1 hA; omega), wordCells_get, render_get Pc HK.out.2.2.2.2.2.1 hA]; rfl
      have hXl := wd_lt W Pc y (n / 64)
      have hpix := pix_wd (y := y) Pc hlt
      have HBN := bit_num (wd W Pc y (n / 64)) (63 - n % 64) hXl
      rw [hpix] at HBN
      have hsh : (63 - (n : Int) % 64).toNat = 63 - n % 64 := by omega
      rw [← hsh] at HBN
      have hbn : IntKind.i64.wrap (bits BinOp.and IntKind.u64 ((wd W Pc y (n / 64) : Nat) / 2 ^ (63 - (n : Int) % 64).toNat) 1) = (((Pc n y).toNat : Nat) : Int) := by rw [wrap_eq]; exact HBN
      clear HBN hsh hpix
      have hKl := cxJ_lt W Pc t n y
      have hFl := cxJ_lt W P t n y
      have hCl := ownJ_lt W Pc t n y
      have hc4 : 2 ^ cntS t 2 ≤ 2 ^ 4 := Nat.pow_le_pow_right (by omega) (own_cnt t).2.2
      have hZ2 := sizeT_le t ht
      have hor : bits .or .i64 (cxJ W P t n y : Nat) (ownJ W Pc t n y : Nat) = ((cxJ W Pc t n y : Nat) : Int) := by
        rw [bor64_nat _ _ (by omega) (by omega), cxJ_or W P Pc t n y ht]
        · intro a b _ hb'
          rw [HPc.out, pixW_other]
          omega
        · intro a ha _ h
          exact hle a ha h
      have HCall : Hid (∀ (w' : World), Fr (fun _ => False) wr w' → ∀ (ci bi : Int), ci = ((base + cxJ W Pc t n y : Nat) : Int) → bi = ((Pc n y).toNat : Nat) → Calls Try.prog 86 #[v, .int .i64 ci, .int .i64 bi] w' fun e w'' => e = .returned (.int .i64 ((D.ask ac ((base + cxJ W Pc t n y : Nat) : Int) (Pc n y).toNat).1 : Nat)) ∧ ∃ s', D.At w'' s' ∧ D.abs s' = (D.ask ac ((base + cxJ W Pc t n y : Nat) : Int) (Pc n y).toNat).2 ∧ Fr (D.own sN) w' w'' ∧ (∀ k, D.own s' k → D.own sN k ∨ w'.heap.size ≤ k)) := fun w' f ci bi e1 e2 => by
        have hx := hpx.left
        have := D.calls w' sN ((base + cxJ W Pc t n y : Nat) : Int) (Pc n y).toNat (D.kept hpx.at_ f (fun _ _ h => h)) (by omega) (by omega) (by have := Bool.toNat_le (Pc n y); omega)
        rw [habs] at this
        rw [e1, e2]; exact this
      have hzl : (D.ask ac ((base + cxJ W Pc t n y : Nat) : Int) (Pc n y).toNat).1 < 2 := D.ask_lt _ _ _ (by have := Bool.toNat_le (Pc n y); omega)
      have hPn : Pc n y = P n y := by rw [HPc.out, pixW_other _ _ _ _ _ _ _ _ _ (by omega)]
      have hzm : (Pc n y).toNat ≤ (D.ask ac ((base + cxJ W Pc t n y : Nat) : Int) (Pc n y).toNat).1 := D.ask_le _ _ _ (by rw [hPn]; exact HK.out.2.2.2.1 n hlt)
      obtain ⟨r, HRr⟩ : ∃ r, Hid (r = D.ask ac ((base + cxJ W Pc t n y : Nat) : Int) (Pc n y).toNat) := ⟨_, rfl⟩
      rw [← HRr.out] at hzl hzm HCall
      obtain ⟨z, an⟩ := r
      have HZM : Hid ((Pc n y).toNat ≤ z) := hzm
      have hzl' : z < 2 := hzl
      have HOwn : Hid (ownJ W (putPix Pc n y (decide (z = 1))) t (n + 1) y = (2 * ownJ W Pc t n y + z) % 2 ^ cntS t 2) := ownJ_put W Pc t n y z hlt hzl'
      have HNx : Hid (∀ (s5 : D.S) (w5 w6 : World), D.At w5 s5 → D.abs s5 = an → Fr (fun k => D.own sN k) wr w5 → (∀ k, D.own s5 k → D.own sN k ∨ wr.heap.size ≤ k) → Fr (fun k => k = g) w5 w6 → RowAt w6 g cap W H (putPix Pc n y (decide (z = 1))) → PxAt D base t W H y g cap gi P s w0 (n + 1) s5 w6 ∧ (pixW D.ask base t W y (n + 1) (D.abs s, P)).2 = putPix Pc n y (decide (z = 1))) := fun s5 w5 w6 a1 a2 a3 a4 a5 a6 => by
        have hk := HK.out
        have hr0 := HRr.out
        have hz0 := HZM.out
        rw [HPc.out] at hr0 hz0 a6 ⊢
        rw [HAc.out] at hr0
        refine ⟨hpx.next hk.1 hk.2.1 hk.2.2.1 hk.2.2.2.2.2.2.1 hk.2.2.2.2.2.2.2 hr0 hz0 hzl' a1 a2 a3 a4 a5 a6, ?_⟩
        rw [pixW, ← hr0]
      clear hzm hzl
      simp only [] at HCall
      have HSX : Hid (∀ w', Fr (fun k => D.own sN k) wr w' → w'.cell? ⟨w.heap.size, 0, none⟩ = some (.int .i64 base) ∧ w'.cell? ⟨g, y * stride W + n / 64, none⟩ = some (.int .u64 (wd W Pc y (n / 64) : Nat))) := fun w' f => by
        obtain ⟨q0, _⟩ := cell_of_five (HB0.out w' (hpx.fr.trans f (fun i hi e => Or.inl (by rcases hpx.own i e with h | h; exact h; omega))))
        have hr' := hrow.kept f (fun e => by rcases hpx.own g e with h | h; exact HK.out.1 h; have := HK.out.2.2.2.2.2.2.1; omega)
        refine ⟨q0, ?_⟩
        rw [World.ownsRow.cellAt hr' _ (by have := at_lt (W := W) HK.out.2.2.2.2.2.1 hA; omega), wordCells_get, render_get Pc HK.out.2.2.2.2.2.1 hA]; rfl
      have HRW : Hid (∀ w', Fr (fun k => D.own sN k) wr w' → RowAt w' g cap W H Pc) := fun w' f => hrow.kept f (fun e => by rcases hpx.own g e with h | h; exact HK.out.1 h; have := HK.out.2.2.2.2.2.2.1; omega)
      have HFX : Hid (∀ w', Fr (fun k => D.own sN k) wr w' → Fr (fun k => D.own s k ∨ k = g) w0 w') := fun w' f => hpx.fr.trans f (fun i hi e => Or.inl (by rcases hpx.own i e with h | h; exact h; omega))
      have HPX : Hid (∀ (w5 : World) (V : Nat), RowAt w5 g cap W H Pc → V < 18446744073709551616 → (∀ k, k < 64 → V.testBit (63 - k) = (if k = n % 64 then decide (z = 1) else (wd W Pc y (n / 64)).testBit (63 - k))) → RowAt (w5.setCell ⟨g, y * stride W + n / 64, none⟩ (.int .u64 (V : Int))) g cap W H (putPix Pc n y (decide (z = 1)))) := fun w5 V a b c => a.pixel hlt HK.out.2.2.2.2.2.1 b c
      have HWN : Hid (z = 0 → ∀ k, k < 64 → (wd W Pc y (n / 64)).testBit (63 - k) = (if k = n % 64 then decide (z = 1) else (wd W Pc y (n / 64)).testBit (63 - k))) := fun hz => by
        have hz0 := HZM.out
        rw [hz] at hz0 ⊢
        exact word_none W Pc n y hlt (by cases hh : Pc n y; rfl; rw [hh] at hz0; simp at hz0)
      obtain ⟨p0, p1, p2, p3, p4, pf⟩ := cell_of_five (HB0.out _ hpx.fr)
      clear hpx hrow habs hle p1 p2 p3 p4 hPn
      have hcN : cntS t 2 ≤ 4 := (own_cnt t).2.2
      generalize cxJ W P t n y = F at *
      generalize ownJ W Pc t n y = C at *
      generalize cxJ W Pc t n y = K at *
      generalize wd W Pc y (n / 64) = X at *
      have e1 : (n : Int).tdiv 64 = (n : Int) / 64 := Int.tdiv_eq_ediv_of_nonneg (by omega)
      have e2 : (n : Int).tmod 64 = (n : Int) % 64 := Int.tmod_eq_emod_of_nonneg (by omega)
      have g7 : IntKind.i64.wrap (63 - (n : Int) % 64) = 63 - (n : Int) % 64 := by rw [IntKind.wrap_i64]; omega
      have g8 : (0 : Int) ≤ 63 - (n : Int) % 64 := by omega
      generalize stride W = S at *
      have hKb : K ≤ 65536 := by omega
      have hFb : F ≤ 65536 := by omega
      have hCb : C ≤ 16 := by omega
      clear hKl hFl hCl hc4 hZ2
      have hna := ahead_d v
      obtain ⟨b, Hb⟩ : ∃ b, Hid (b = (Pc n y).toNat) := ⟨_, rfl⟩
      rw [← Hb.out] at hbn HCall
      have hw9 : IntKind.i64.wrap ((base : Int) + (K : Int)) = (base : Int) + (K : Int) := by rw [IntKind.wrap_i64]; omega
      have hpw : 2 ^ (63 - n % 64) < 18446744073709551616 := Nat.pow_lt_pow_right (by omega) (show 63 - n % 64 < 64 by omega)
      have HV1 : Hid (bits BinOp.or IntKind.u64 (X : Int) (IntKind.u64.wrap (2 ^ (63 - n % 64))) = ((X ||| 2 ^ (63 - n % 64) : Nat) : Int)) := by
        show _ = _
        rw [show ((2 : Int) ^ (63 - n % 64)) = ((2 ^ (63 - n % 64) : Nat) : Int) by push_cast; rfl]
        generalize 2 ^ (63 - n % 64) = pw at *
        rw [IntKind.wrap_u64, Int.emod_eq_of_lt (by omega) (by omega), bor_u64 _ _ hXl hpw]
      have HV0 : Hid (bits BinOp.or IntKind.u64 (X : Int) 0 = (X : Int)) := by
        have := bor_u64 X 0 hXl (by decide)
        rw [Nat.or_zero] at this
        exact this
      have HVL : Hid (X ||| 2 ^ (63 - n % 64) < 18446744073709551616) := Nat.or_lt_two_pow (n := 64) hXl hpw
      clear hpw
      go_upto_region 6 with (fail)
      go_region_held3 (fun w' => w'.cell? ⟨w.heap.size, 0, none⟩ = some (.int .i64 base) ∧ w'.cell? ⟨g, y * S + n / 64, none⟩ = some (.int .u64 (X : Nat))) (exact HSX.out _ (by repeat (first | with_reducible exact Fr.refl _ _ | with_reducible refine Fr.drew ?_ | with_reducible refine Fr.trans ?_ hf5 (fun _ _ hh => hh)))) (first | (go_at_call 86; refine (HCall.out _ (by first | exact (Fr.refl _ _).drew | exact Fr.refl _ _) _ _ (by omega) rfl).mono ?_; rintro e w5 ⟨rfl, s5, hat5, hab5, hf5, how5⟩))
      have HF5 : Hid (Fr (fun k => D.own sN k) wr w5) := (Fr.refl _ _).drew.trans hf5 (fun _ _ hh => hh)
      have HR5 := HRW.out w5 HF5.out
      obtain ⟨cur5, hc5, _, _, _, _⟩ := HR5.cur
      have hfz : w5.frozen? ⟨g, y * S + n / 64, none⟩ = false := by simp [World.frozen?, hc5]
      have hcx5 := (HSX.out w5 HF5.out).2
      have HRx : Hid (RowAt w5 g cap W H Pc) := HR5
      have HN5 : Hid (∀ w6, Fr (fun k => k = g) w5 w6 → RowAt w6 g cap W H (putPix Pc n y (decide (z = 1))) → PxAt D base t W H y g cap gi P s w0 (n + 1) s5 w6 ∧ (pixW D.ask base t W y (n + 1) (D.abs s, P)).2 = putPix Pc n y (decide (z = 1))) := fun w6 a b => HNx.out s5 w5 w6 hat5 hab5 HF5.out how5 a b
      clear HR5 hc5 hat5 hab5 hf5 how5
      rcases (show z = 0 ∨ z = 1 by omega) with rfl | rfl
      · have hv0 := HV0.out
        have HR6 : Hid (PxAt D base t W H y g cap gi P s w0 (n + 1) s5 (w5.setCell ⟨g, y * S + n / 64, none⟩ (.int .u64 (X : Int))).drew ∧ (pixW D.ask base t W y (n + 1) (D.abs s, P)).2 = putPix Pc n y (decide (0 = 1))) := HN5.out _ ((Fr.refl (fun k => k = g) w5).setCell (p := ⟨g, y * S + n / 64, none⟩) (fun _ => rfl) _).drew (HPX.out w5 X HRx.out hXl (HWN.out rfl))
        go_wp2_with fail
        go_region
        generalize (w5.setCell ⟨g, y * S + n / 64, none⟩ (.int .u64 (X : Int))).drew = w6 at *
        obtain ⟨_, _, _, q3, _, _⟩ := cell_of_five (HB0.out _ HR6.out.1.fr)
        clear hv0 hbn hor hna
        go_wp2_with fail
        refine ⟨⟨n + 1, s5, by omega, by rw [Int.natCast_add]; rfl, ?_, HR6.out.1⟩, by simp only [intOf]; omega⟩
        rw [HR6.out.2, HOwn.out]
        exact congrArg (Value.int .i64) (came_num C 0 _ hCb (by decide) hcN)
      · have hv1 := HV1.out
        have HR6 : Hid (PxAt D base t W H y g cap gi P s w0 (n + 1) s5 (w5.setCell ⟨g, y * S + n / 64, none⟩ (.int .u64 ((X ||| 2 ^ (63 - n % 64) : Nat) : Int))).drew ∧ (pixW D.ask base t W y (n + 1) (D.abs s, P)).2 = putPix Pc n y (decide (1 = 1))) := HN5.out _ ((Fr.refl (fun k => k = g) w5).setCell (p := ⟨g, y * S + n / 64, none⟩) (fun _ => rfl) _).drew (HPX.out w5 _ HRx.out HVL.out (word_more X n))
        generalize X ||| 2 ^ (63 - n % 64) = V at *
        go_wp2_with fail
        go_region
        generalize (w5.setCell ⟨g, y * S + n / 64, none⟩ (.int .u64 (V : Int))).drew = w6 at *
        obtain ⟨_, _, _, q3, _, _⟩ := cell_of_five (HB0.out _ HR6.out.1.fr)
        clear hv1 hbn hor hna
        go_wp2_with fail
        refine ⟨⟨n + 1, s5, by omega, by rw [Int.natCast_add]; rfl, ?_, HR6.out.1⟩, by simp only [intOf]; omega⟩
        rw [HR6.out.2, HOwn.out]
        exact congrArg (Value.int .i64) (came_num C 1 _ hCb (by decide) hcN)
    · obtain rfl : n = W := by omega
      go_wp2_with fail
      go_end0
      have h := HP.out
      refine ⟨rfl, sN, h.at_, h.abs, h.row, (HF0.out.mono (fun _ _ x => x.elim)).trans h.fr (fun _ _ x => x), fun k hk => ?_⟩
      have := HF0.out.size
      rcases h.own k hk with a | a
      · exact Or.inl a
      · exact Or.inr (by omega)

end Go.Proofs.Ytkggdnkmaldmlab
