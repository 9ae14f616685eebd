/- 'wakes' returns true and leaves what was there. -/
import Derived.Test.YtamonbkhpbdojaaDoorEq
namespace Go.Proofs.YtamonbkhpbdojaaDoor
set_option maxRecDepth 100000
open Go.RowKit

theorem newW_any' (m : Nat) (y : Int) (w : World) (hy : y = m) (h1 : m ≤ 67108864) :
    Calls Tryd.prog 38 #[.int .i64 y] w fun e w' => e = .returned (.tuple #[.pointer (some ⟨w.heap.size, 0, none⟩), .int .i64 0]) ∧ WAt w' w.heap.size (.slice none 0 0) m [] ∧ w' = w.alloc (.cells #[.int .i64 (8 * (m : Int)), .int .i64 0, .slice none 0 0] 93) := by
  subst hy; exact newW_any m w h1
theorem put_fits' (bw : Nat) (v : Value) (most : Nat) (bs : List Bool) (x y : Int) (n wd : Nat) (w : World) (hx : x = n) (hy : y = wd) (h : WAt w bw v most bs) (hw : wd ≤ 64) (hv : n < 2 ^ wd) (hf : bs.length + wd ≤ 8 * most) :
    Calls Tryd.prog 40 #[.pointer (some ⟨bw, 0, none⟩), .int .u64 x, .int .i64 y] w fun e w' => e = .returned (.int .i64 0) ∧ ∃ v', WAt w' bw v' most (bs ++ bitsOf n wd) ∧ WStep bw v v' w w' := by
  subst hx; subst hy; exact put_fits bw v most bs n wd w h hw hv hf
theorem put_full' (bw : Nat) (v : Value) (most : Nat) (bs : List Bool) (x y : Int) (n wd : Nat) (w : World) (hx : x = n) (hy : y = wd) (h : WAt w bw v most bs) (hw : wd ≤ 64) (hv : n < 2 ^ wd) (hf : 8 * most < bs.length + wd) :
    Calls Tryd.prog 40 #[.pointer (some ⟨bw, 0, none⟩), .int .u64 x, .int .i64 y] w fun e w' => e = .returned (.int .i64 13) ∧ ∃ q, w' = w.drewN q := by
  subst hx; subst hy; exact put_full bw v most bs n wd w h hw hv hf
theorem wvar_fits' (bw : Nat) (v : Value) (most : Nat) (bs : List Bool) (x : Int) (n : Nat) (w : World) (hx : x = n) (h : WAt w bw v most bs) (hn : n < 18446744073709551616) (hf : bs.length + (varBits n).length ≤ 8 * most) :
    Calls Tryd.prog 39 #[.pointer (some ⟨bw, 0, none⟩), .int .u64 x] w fun e w' => e = .returned (.int .i64 0) ∧ ∃ v', WAt w' bw v' most (bs ++ varBits n) ∧ WStep bw v v' w w' := by
  subst hx; exact wvar_fits bw v most bs n w h hn hf
theorem wvar_full' (bw : Nat) (v : Value) (most : Nat) (bs : List Bool) (x : Int) (n : Nat) (w : World) (hx : x = n) (h : WAt w bw v most bs) (hn : n < 18446744073709551616) (hf : 8 * most < bs.length + (varBits n).length) :
    Calls Tryd.prog 39 #[.pointer (some ⟨bw, 0, none⟩), .int .u64 x] w fun e w' => e = .returned (.int .i64 13) ∧ ∃ v', WAt w' bw v' most bs ∧ WStep bw v v' w w' := by
  subst hx; exact wvar_full bw v most bs n w h hn hf

/-- A writer of the call's own, from block B on. -/
structure OwnW (B : Nat) (w0 w : World) (bw : Nat) (v : Value) (most : Nat) (bs : List Bool) : Prop where
  at_ : WAt w bw v most bs
  bel : Below B w0 w
  blk : B ≤ bw
  row : ∀ k, v.ownBlock = some k → B ≤ k
  size : B ≤ w.heap.size

theorem OwnW.step {B : Nat} {w0 w w' : World} {bw : Nat} {v v' : Value} {most : Nat} {bs bs' : List Bool} (h : OwnW B w0 w bw v most bs) (ha : WAt w' bw v' most bs') (s : WStep bw v v' w w') : OwnW B w0 w' bw v' most bs' := by
  have h1 := h.blk
  have h2 := h.row
  have h3 := h.size
  refine ⟨ha, h.bel.trans (s.fr.below h3 ?_), h1, ?_, Nat.le_trans h3 s.fr.size⟩
  · rintro k hk (e | e)
    · omega
    · have := h2 k e; omega
  · intro k hk
    rcases s.row with r | r
    · exact h2 k (r ▸ hk)
    · have := r k hk; omega

theorem OwnW.later {B : Nat} {w0 w w' : World} {bw : Nat} {v : Value} {most : Nat} {bs : List Bool} {S : Nat → Prop} (h : OwnW B w0 w bw v most bs) (f : Fr S w w') (h1 : ¬ S bw) (h2 : ∀ k, v.ownBlock = some k → ¬ S k) (h3 : ∀ k, S k → B ≤ k) : OwnW B w0 w' bw v most bs :=
  ⟨h.at_.kept f h1 h2, h.bel.trans (f.below h.size (fun k hk hs => by have := h3 k hs; omega)), h.blk, h.row, Nat.le_trans h.size f.size⟩

theorem wake_pack : pack (padded (([] ++ bitsOf 5 3) ++ bitsOf 1 1) ++ varBits 300) = [176, 172, 2] := by decide +kernel
theorem wake_rvar : rvar [172, 2] 0 = (300, 0, 16) := by decide +kernel
theorem wake_len1 : (padded (([] ++ bitsOf 5 3) ++ bitsOf 1 1)).length + (varBits 300).length = 24 := by decide +kernel

end Go.Proofs.YtamonbkhpbdojaaDoor
