/- 'wakes' returns true and leaves what was there. -/
import Derived.Test.YthfimeaajboihaaEq
namespace Go.Proofs.Ythfimeaajboihaa
open Go.RowKit

theorem newW_any' (m : Nat) (y : Int) (w : World) (hy : y = m) (h1 : m ≤ 67108864) :
    Calls Try.prog 9 #[.int .i64 y] w fun e w' => e = .returned (.tuple #[.pointer (some ⟨w.heap.size, 0, none⟩), .int .i64 0]) ∧ WAt w' w.heap.size (.slice none 0 0) m [] ∧ w' = w.alloc (.cells #[.int .i64 (8 * (m : Int)), .int .i64 0, .slice none 0 0] 64) := by
  subst hy; exact newW_any m w h1
theorem put_fits' (bw : Nat) (v : Value) (most : Nat) (bs : List Bool) (x y : Int) (n wd : Nat) (w : World) (hx : x = n) (hy : y = wd) (h : WAt w bw v most bs) (hw : wd ≤ 64) (hv : n < 2 ^ wd) (hf : bs.length + wd ≤ 8 * most) :
    Calls Try.prog 11 #[.pointer (some ⟨bw, 0, none⟩), .int .u64 x, .int .i64 y] w fun e w' => e = .returned (.int .i64 0) ∧ ∃ v', WAt w' bw v' most (bs ++ bitsOf n wd) ∧ WStep bw v v' w w' := by
  subst hx; subst hy; exact put_fits bw v most bs n wd w h hw hv hf
theorem put_full' (bw : Nat) (v : Value) (most : Nat) (bs : List Bool) (x y : Int) (n wd : Nat) (w : World) (hx : x = n) (hy : y = wd) (h : WAt w bw v most bs) (hw : wd ≤ 64) (hv : n < 2 ^ wd) (hf : 8 * most < bs.length + wd) :
    Calls Try.prog 11 #[.pointer (some ⟨bw, 0, none⟩), .int .u64 x, .int .i64 y] w fun e w' => e = .returned (.int .i64 13) ∧ ∃ q, w' = w.drewN q := by
  subst hx; subst hy; exact put_full bw v most bs n wd w h hw hv hf
theorem wvar_fits' (bw : Nat) (v : Value) (most : Nat) (bs : List Bool) (x : Int) (n : Nat) (w : World) (hx : x = n) (h : WAt w bw v most bs) (hn : n < 18446744073709551616) (hf : bs.length + (varBits n).length ≤ 8 * most) :
    Calls Try.prog 13 #[.pointer (some ⟨bw, 0, none⟩), .int .u64 x] w fun e w' => e = .returned (.int .i64 0) ∧ ∃ v', WAt w' bw v' most (bs ++ varBits n) ∧ WStep bw v v' w w' := by
  subst hx; exact wvar_fits bw v most bs n w h hn hf
theorem wvar_full' (bw : Nat) (v : Value) (most : Nat) (bs : List Bool) (x : Int) (n : Nat) (w : World) (hx : x = n) (h : WAt w bw v most bs) (hn : n < 18446744073709551616) (hf : 8 * most < bs.length + (varBits n).length) :
    Calls Try.prog 13 #[.pointer (some ⟨bw, 0, none⟩), .int .u64 x] w fun e w' => e = .returned (.int .i64 13) ∧ ∃ v', WAt w' bw v' most bs ∧ WStep bw v v' w w' := by
  subst hx; exact wvar_full bw v most bs n w h hn hf

/-- A writer of the call's own, from block B on. -/
structure OwnW (B : Nat) (w0 w : World) (bw : Nat) (v : Value) (most : Nat) (bs : List Bool) : Prop where
  at_ : WAt w bw v most bs
  bel : Below B w0 w
  blk : B ≤ bw
  row : ∀ k, v.ownBlock = some k → B ≤ k
  size : B ≤ w.heap.size

theorem OwnW.step {B : Nat} {w0 w w' : World} {bw : Nat} {v v' : Value} {most : Nat} {bs bs' : List Bool} (h : OwnW B w0 w bw v most bs) (ha : WAt w' bw v' most bs') (s : WStep bw v v' w w') : OwnW B w0 w' bw v' most bs' := by
  have h1 := h.blk
  have h2 := h.row
  have h3 := h.size
  refine ⟨ha, h.bel.trans (s.fr.below h3 ?_), h1, ?_, Nat.le_trans h3 s.fr.size⟩
  · rintro k hk (e | e)
    · omega
    · have := h2 k e; omega
  · intro k hk
    rcases s.row with r | r
    · exact h2 k (r ▸ hk)
    · have := r k hk; omega

theorem OwnW.later {B : Nat} {w0 w w' : World} {bw : Nat} {v : Value} {most : Nat} {bs : List Bool} {S : Nat → Prop} (h : OwnW B w0 w bw v most bs) (f : Fr S w w') (h1 : ¬ S bw) (h2 : ∀ k, v.ownBlock = some k → ¬ S k) (h3 : ∀ k, S k → B ≤ k) : OwnW B w0 w' bw v most bs :=
  ⟨h.at_.kept f h1 h2, h.bel.trans (f.below h.size (fun k hk hs => by have := h3 k hs; omega)), h.blk, h.row, Nat.le_trans h.size f.size⟩

theorem wake_pack : pack (padded (([] ++ bitsOf 5 3) ++ bitsOf 1 1) ++ varBits 300) = [176, 172, 2] := by decide +kernel
theorem wake_rvar : rvar [172, 2] 0 = (300, 0, 16) := by decide +kernel
theorem wake_len1 : (padded (([] ++ bitsOf 5 3) ++ bitsOf 1 1)).length + (varBits 300).length = 24 := by decide +kernel

set_option maxRecDepth 100000 in
set_option maxHeartbeats 2000000 in
theorem wakes_any (w : World) : Calls Try.prog 10 #[] w fun e w' => e = .returned (.bool true) ∧ Below w.heap.size w w' := by
  go_enter Try.func10, Try.ntmps10
  go_wp2_with fail
  refine (newW_any' 4 _ _ rfl (by omega)).mono ?_
  rintro e w1 ⟨rfl, hat, hw1⟩
  have HO : Hid (OwnW w.heap.size w w1 w.heap.size (.slice none 0 0) 4 []) := ⟨hat, by rw [hw1]; exact (Below.refl _ _).alloc (Nat.le_refl _) _, Nat.le_refl _, fun k hk => by simp [Value.ownBlock] at hk, by rw [hw1]; simp⟩
  clear hat hw1
  generalize hbw : w.heap.size = bw at HO ⊢
  go_wp2_with fail
  refine (put_fits' bw (.slice none 0 0) 4 [] _ _ 5 3 _ rfl rfl HO.out.at_ (by omega) (by decide) (by decide)).mono ?_
  rintro e w2 ⟨rfl, v2, hat, hst⟩
  have HO2 : Hid (OwnW bw w w2 bw v2 4 ([] ++ bitsOf 5 3)) := HO.out.step hat hst
  clear hat hst HO
  go_wp2_with fail
  refine (put_fits' bw v2 4 ([] ++ bitsOf 5 3) _ _ 1 1 _ rfl rfl HO2.out.at_ (by omega) (by decide) (by decide +kernel)).mono ?_
  rintro e w3 ⟨rfl, v3, hat, hst⟩
  have HO3 : Hid (OwnW bw w w3 bw v3 4 (([] ++ bitsOf 5 3) ++ bitsOf 1 1)) := HO2.out.step hat hst
  clear hat hst HO2
  go_wp2_with fail
  refine (align_any bw v3 4 (([] ++ bitsOf 5 3) ++ bitsOf 1 1) _ HO3.out.at_).mono ?_
  rintro e w4 ⟨rfl, hat, hst⟩
  have HO4 : Hid (OwnW bw w w4 bw v3 4 (padded (([] ++ bitsOf 5 3) ++ bitsOf 1 1))) := HO3.out.step hat hst
  clear hat hst HO3
  go_wp2_with fail
  refine (wvar_fits' bw v3 4 _ _ 300 _ rfl HO4.out.at_ (by omega) (by rw [wake_len1]; omega)).mono ?_
  rintro e w5 ⟨rfl, v5, hat, hst⟩
  have HO5 : Hid (OwnW bw w w5 bw v5 4 (padded (([] ++ bitsOf 5 3) ++ bitsOf 1 1) ++ varBits 300)) := HO4.out.step hat hst
  clear hat hst HO4
  have HP := wake_pack
  generalize padded (([] ++ bitsOf 5 3) ++ bitsOf 1 1) ++ varBits 300 = bs at HO5 HP
  have HPK : Hid (pack bs = [176, 172, 2]) := HP
  clear HP
  go_wp2_with fail
  refine (newR_some ⟨w5.heap.size, 0, none⟩ 2 2 [172, 2] _ rfl (by omega) (fun j u hu => cell_two_new w5 (.int .u8 172) (.int .u8 2) 5 j u hu) (by decide)).mono ?_
  rintro e w7 ⟨br, rv, rfl, hat, hbel, hbr, hrr⟩
  have hbr' : w5.heap.size + 1 ≤ br := by simpa using hbr
  have f7 : Fr (fun _ => False) w5 w7 := ((Fr.refl _ _).alloc _).trans (Fr.of_below hbel (fun _ => False)) (fun _ _ hh => hh)
  have HO7 : Hid (OwnW bw w w7 bw v5 4 bs) := HO5.out.later f7 (fun hh => hh) (fun _ _ hh => hh) (fun _ hh => hh.elim)
  have HR7 : Hid (RAt w7 br rv [172, 2] 0) := hat
  have HNE : Hid (bw < w5.heap.size ∧ ∀ k, v5.ownBlock = some k → k < w5.heap.size) := ⟨HO5.out.at_.lt, HO5.out.at_.rowlt⟩
  clear hat hbel hbr hrr f7 HO5
  go_wp2_with fail
  refine (rvar_any br rv [172, 2] 0 300 0 16 _ HR7.out wake_rvar).mono ?_
  rintro e w8 ⟨rfl, hat, hfr⟩
  have HO8 : Hid (OwnW bw w w8 bw v5 4 bs) := HO7.out.later hfr (by have := HNE.out.1; omega) (fun k hk e => by have := HNE.out.2 k hk; omega) (fun k hk => by have := HNE.out.1; omega)
  clear hat hfr HO7 HR7 HNE hbr'
  go_wp2_with fail
  refine (bytes_any bw v5 4 bs _ HO8.out.at_).mono ?_
  rintro e w9 ⟨rv2, rfl, hrow, hbel⟩
  have hB : Hid (Below bw w w9) := HO8.out.bel.trans (hbel.mono HO8.out.size)
  have hbs : Hid (bw ≤ w9.heap.size) := Nat.le_trans HO8.out.size hbel.size
  have hrow2 : BytesAt w9 w8.heap.size rv2 [176, 172, 2] := by rw [← HPK.out]; exact hrow
  obtain ⟨ao, cap, hv, hll, hcc⟩ := SeenAt.of_row hrow2 (by decide)
  rw [hv]
  have HC : Hid (SeenAt (w9.alloc (.cells #[.int .u8 176, .int .u8 172, .int .u8 2] 5)) (.slice ao 3 cap) [176, 172, 2]) := by
    refine ⟨ao, cap, rfl, hll, fun hn => ?_⟩
    obtain ⟨b, off, e, hc⟩ := hcc hn
    exact ⟨b, off, e, fun j hj => cell_later ((Below.refl _ _).alloc (Nat.le_refl _) _) (hc j hj)⟩
  have HD : Hid (SeenAt (w9.alloc (.cells #[.int .u8 176, .int .u8 172, .int .u8 2] 5)) (.slice (some ⟨w9.heap.size, 0, none⟩) 3 3) [176, 172, 2]) :=
    SeenAt.of_row (base := w9.heap.size) (World.ownsRow_lit (size := 1) w9 #[.int .u8 176, .int .u8 172, .int .u8 2] 3 (Nat.le_refl _) (by decide) rfl) (by decide)
  clear hrow hbel hrow2 hv hcc hll HO8
  go_wp2_with fail
  refine (eq_same _ _ [176, 172, 2] [176, 172, 2] _ HC.out HD.out rfl true (by show true = _; simp)).mono ?_
  rintro e w10 ⟨rfl, q, rfl⟩
  go_wp2_with fail
  go_ret
  refine ⟨rfl, ?_⟩
  rw [hbw]
  exact below_drewN (hB.out.alloc hbs.out _) q

end Go.Proofs.Ythfimeaajboihaa
