/- Lists of operations: the bits that they write, their cells. -/
import Derived.Test.YthfimeaajboihaaOver
namespace Go.Proofs.Ythfimeaajboihaa
open Go.RowKit

theorem Try.info36 : (Try.prog.info? 36).map (fun i => (i.zero, i.size, i.bytes)) = some (some (.agg #[.int .i64 0, .int .u64 0, .int .i64 0]), 3, 24) := by kernel_rfl

def opBits (bs : List Bool) (o : Int × Nat × Int) : List Bool :=
  if o.1 = 0 then bs ++ bitsOf o.2.1 o.2.2.toNat else if o.1 = 1 then bs ++ varBits o.2.1 else padded bs
def opsBits (l : List (Int × Nat × Int)) : List Bool := l.foldl opBits []
def opOk (o : Int × Nat × Int) : Prop := o.2.1 < 18446744073709551616 ∧ (o.1 = 0 → 0 ≤ o.2.2 ∧ o.2.2 ≤ 64 ∧ o.2.1 < 2 ^ o.2.2.toNat)
def opCells (l : List (Int × Nat × Int)) : List Value := l.flatMap fun o => [.int .i64 o.1, .int .u64 (o.2.1 : Int), .int .i64 o.2.2]

theorem opsBits_snoc (l : List (Int × Nat × Int)) (o : Int × Nat × Int) : opsBits (l ++ [o]) = opBits (opsBits l) o := by simp [opsBits]
theorem opCells_snoc (l : List (Int × Nat × Int)) (o : Int × Nat × Int) : opCells (l ++ [o]) = opCells l ++ [.int .i64 o.1, .int .u64 (o.2.1 : Int), .int .i64 o.2.2] := by simp [opCells]
theorem length_opCells (l : List (Int × Nat × Int)) : (opCells l).length = l.length * 3 := by
  induction l with
  | nil => rfl
  | cons a l ih => unfold opCells at *; simp only [List.flatMap_cons, List.length_append, List.length_cons, List.length_nil, ih]; omega
theorem opCells_get (l : List (Int × Nat × Int)) : ∀ (j : Nat) (o : Int × Nat × Int), l[j]? = some o → (opCells l)[j * 3]? = some (.int .i64 o.1) ∧ (opCells l)[j * 3 + 1]? = some (.int .u64 (o.2.1 : Int)) ∧ (opCells l)[j * 3 + 2]? = some (.int .i64 o.2.2) := by
  induction l with
  | nil => intro j o h; simp at h
  | cons a l ih =>
    intro j o h
    have e : opCells (a :: l) = [.int .i64 a.1, .int .u64 (a.2.1 : Int), .int .i64 a.2.2] ++ opCells l := by simp [opCells]
    rw [e]
    cases j with
    | zero => simp at h; subst h; simp
    | succ j =>
      have := ih j o (by simpa using h)
      rw [List.getElem?_append_right (by simp; omega), List.getElem?_append_right (by simp; omega), List.getElem?_append_right (by simp; omega)]
      simp only [List.length_cons, List.length_nil]
      rw [show (j + 1) * 3 - 3 = j * 3 from by omega, show (j + 1) * 3 + 1 - 3 = j * 3 + 1 from by omega, show (j + 1) * 3 + 2 - 3 = j * 3 + 2 from by omega]
      exact this

theorem opBits_ext (bs : List Bool) (o : Int × Nat × Int) : ∃ c, opBits bs o = bs ++ c := by
  unfold opBits padded
  split
  · exact ⟨_, rfl⟩
  · split
    · exact ⟨_, rfl⟩
    · exact ⟨_, rfl⟩
theorem foldl_ext (l : List (Int × Nat × Int)) : ∀ bs, ∃ c, l.foldl opBits bs = bs ++ c := by
  induction l with
  | nil => intro bs; exact ⟨[], by simp⟩
  | cons a l ih =>
    intro bs
    obtain ⟨c, hc⟩ := opBits_ext bs a
    obtain ⟨d, hd⟩ := ih (opBits bs a)
    exact ⟨c ++ d, by rw [List.foldl_cons, hd, hc, List.append_assoc]⟩
theorem opsBits_take (l : List (Int × Nat × Int)) (j : Nat) : ∃ c, opsBits l = opsBits (l.take j) ++ c := by
  have h : opsBits l = (l.drop j).foldl opBits (opsBits (l.take j)) := by
    unfold opsBits
    rw [← List.foldl_append, List.take_append_drop]
  rw [h]
  exact foldl_ext _ _
theorem opsBits_next (l : List (Int × Nat × Int)) (j : Nat) (o : Int × Nat × Int) (h : l[j]? = some o) : opsBits (l.take (j + 1)) = opBits (opsBits (l.take j)) o := by
  have hj : j < l.length := by
    rcases Nat.lt_or_ge j l.length with h1 | h1
    · exact h1
    · rw [List.getElem?_eq_none h1] at h; cases h
  rw [List.take_succ_eq_append_getElem hj, opsBits_snoc]
  rw [List.getElem?_eq_getElem hj] at h
  simp only [Option.some.injEq] at h
  rw [h]

theorem next_of (a x c : List Bool) : nextBits (pack (a ++ x ++ c)) a.length x.length = x := by
  unfold nextBits
  rw [unpack_pack, List.append_assoc, List.append_assoc, List.drop_left, List.take_left]
theorem room_of (a x c : List Bool) : a.length + x.length ≤ 8 * (pack (a ++ x ++ c)).length := by
  rw [length_pack]; simp only [List.length_append]; omega
theorem next_end (bs : List Bool) : nextBits (pack bs) bs.length ((8 - bs.length % 8) % 8) = List.replicate ((8 - bs.length % 8) % 8) false := by
  unfold nextBits
  rw [unpack_pack, List.drop_left, List.take_of_length_le (by simp)]
theorem num_zeros : ∀ k, num (List.replicate k false) = 0 := by
  intro k
  induction k with
  | zero => rfl
  | succ k ih => rw [List.replicate_succ', num_append, ih]; rfl

theorem row_apartS {w : World} {b e s n b' e' s' n' : Nat} {v v' : Value} {xs xs' : List Value} (h1 : w.ownsRow b e s v n xs) (h2 : w.ownsRow b' e' s' v' n' xs') (he : e ≠ e') : ∀ k, v.ownBlock = some k → v'.ownBlock ≠ some k := by
  intro k hk hk'
  rcases h1.2 with ⟨rfl, _⟩ | ⟨g, cap, cur, rfl, _, hg, _⟩
  · simp [Value.ownBlock] at hk
  · rcases h2.2 with ⟨rfl, _⟩ | ⟨g', cap', cur', rfl, _, hg', _⟩
    · simp [Value.ownBlock] at hk'
    · simp [Value.ownBlock] at hk hk'
      subst hk
      subst hk'
      rw [hg] at hg'
      simp at hg'
      exact he hg'.2
theorem row_keptS {w w' : World} {b e s n : Nat} {v : Value} {xs : List Value} {S : Nat → Prop} (h : w.ownsRow b e s v n xs) (f : Fr S w w') (h2 : ∀ k, v.ownBlock = some k → ¬ S k) : w'.ownsRow b e s v n xs := by
  refine ⟨h.1, ?_⟩
  rcases h.2 with hn | ⟨g, cap, cur, rfl, hb, hgg, rest⟩
  · exact Or.inl hn
  · refine Or.inr ⟨g, cap, cur, rfl, hb, ?_, rest⟩
    rw [f.block g (lt_of_block hgg) (h2 g rfl)]
    exact hgg

/-- The writer and the list of what went in. -/
structure WD (B : Nat) (w0 w : World) (bw : Nat) (v dv : Value) (most : Nat) (bs : List Bool) (l : List (Int × Nat × Int)) : Prop where
  ha : OwnW B w0 w bw v most bs
  hd : w.ownsRow 0 36 3 dv l.length (opCells l)
  dr : ∀ k, dv.ownBlock = some k → B ≤ k

theorem WD.stepW {B : Nat} {w0 w w' : World} {bw : Nat} {v v' dv : Value} {most : Nat} {bs bs' : List Bool} {l : List (Int × Nat × Int)} (h : WD B w0 w bw v dv most bs l) (hat : WAt w' bw v' most bs') (s : WStep bw v v' w w') : WD B w0 w' bw v' dv most bs' l := by
  refine ⟨h.ha.step hat s, row_keptS h.hd s.fr ?_, h.dr⟩
  rintro k hk (e | e)
  · exact row_off h.hd h.ha.at_.blk (by omega) (by rw [hk, e])
  · exact row_apartS h.hd h.ha.at_.own (by omega) k hk e
theorem WD.later {B : Nat} {w0 w w' : World} {bw : Nat} {v dv : Value} {most : Nat} {bs : List Bool} {l : List (Int × Nat × Int)} (h : WD B w0 w bw v dv most bs l) (f : Fr (fun _ => False) w w') : WD B w0 w' bw v dv most bs l :=
  ⟨h.ha.later f (fun hh => hh) (fun _ _ hh => hh) (fun _ hh => hh.elim), row_keptS h.hd f (fun _ _ hh => hh), h.dr⟩
theorem WD.push {B : Nat} {w0 w w1 : World} {bw : Nat} {v dv : Value} {most : Nat} {bs : List Bool} {l : List (Int × Nat × Int)} {o : Obj} {kd dk : Int} {nk g' cap' : Nat} (h : WD B w0 w bw v dv most bs l)
    (hown : w1.ownsRow 0 36 3 (.slice (some ⟨g', 0, none⟩) (l.length + 1) cap') (l.length + 1) (opCells l ++ [.int .i64 kd, .int .u64 (nk : Int), .int .i64 dk])) (hg : (w.alloc o).grownBy w1 dv.ownBlock) (hrow : dv.ownBlock = some g' ∨ w.heap.size + 1 ≤ g') :
    WD B w0 w1 bw v (.slice (some ⟨g', 0, none⟩) (l.length + 1) cap') most bs (l ++ [(kd, nk, dk)]) := by
  have hs := h.ha.size
  have f : Fr (fun k => dv.ownBlock = some k) w w1 := ((Fr.refl _ _).alloc o).grown hg (fun k hk _ => hk)
  refine ⟨h.ha.later f (fun e => ?_) (fun k hk e => ?_) (fun k hk => h.dr k hk), ?_, ?_⟩
  · exact row_off h.hd h.ha.at_.blk (by omega) e
  · exact row_apartS h.hd h.ha.at_.own (by omega) k e hk
  · rw [opCells_snoc, List.length_append]; exact hown
  · intro k hk
    simp only [Value.ownBlock, Option.some.injEq] at hk
    subst hk
    rcases hrow with e | e
    · exact h.dr _ e
    · omega

theorem row_shape {w : World} {b e s n : Nat} {v : Value} {xs : List Value} (h : w.ownsRow b e s v n xs) : ∃ ao cap, v = .slice ao n cap ∧ (0 < n → ∃ g, ao = some ⟨g, 0, none⟩) ∧ cap ≤ maxLen := by
  rcases h.2 with ⟨rfl, e⟩ | ⟨g, cap, cur, rfl, _, _, hc, hm, _⟩
  · exact ⟨none, 0, by rw [e], fun hh => by omega, Nat.zero_le _⟩
  · exact ⟨_, cap, rfl, fun _ => ⟨g, rfl⟩, hm⟩

/-- Of one operation that went in: what is read at its place. -/
theorem back_put (l : List (Int × Nat × Int)) (j nk wd : Nat) (h : l[j]? = some (0, nk, (wd : Int))) (hn : nk < 2 ^ wd) :
    num (nextBits (pack (opsBits l)) (opsBits (l.take j)).length wd) = nk ∧ (opsBits (l.take j)).length + wd ≤ 8 * (pack (opsBits l)).length ∧ (opsBits (l.take (j + 1))).length = (opsBits (l.take j)).length + wd := by
  obtain ⟨c, hc⟩ := opsBits_take l (j + 1)
  have hx : opsBits (l.take (j + 1)) = opsBits (l.take j) ++ bitsOf nk wd := by
    rw [opsBits_next l j _ h]; unfold opBits; rw [if_pos rfl]; simp
  rw [hx] at hc
  have h1 := next_of (opsBits (l.take j)) (bitsOf nk wd) c
  have h2 := room_of (opsBits (l.take j)) (bitsOf nk wd) c
  rw [← hc, length_bitsOf] at h1 h2
  refine ⟨by rw [h1, num_bitsOf, Nat.mod_eq_of_lt hn], h2, by rw [hx, List.length_append, length_bitsOf]⟩
theorem back_var (l : List (Int × Nat × Int)) (j nk : Nat) (dk : Int) (h : l[j]? = some (1, nk, dk)) (hn : nk < 18446744073709551616) :
    rvar (pack (opsBits l)) (opsBits (l.take j)).length = (nk, 0, (opsBits (l.take j)).length + 8 * (groups nk).length) ∧ (opsBits (l.take j)).length + 8 * (groups nk).length ≤ 8 * (pack (opsBits l)).length ∧ (opsBits (l.take (j + 1))).length = (opsBits (l.take j)).length + 8 * (groups nk).length := by
  obtain ⟨c, hc⟩ := opsBits_take l (j + 1)
  have hx : opsBits (l.take (j + 1)) = opsBits (l.take j) ++ varBits nk := by
    rw [opsBits_next l j _ h]; unfold opBits; rw [if_neg (show ¬ ((1 : Int) = 0) from by omega), if_pos rfl]
  rw [hx] at hc
  have h1 := next_of (opsBits (l.take j)) (varBits nk) c
  have h2 := room_of (opsBits (l.take j)) (varBits nk) c
  rw [← hc] at h1 h2
  have h3 := rvar_back (pack (opsBits l)) (opsBits (l.take j)).length nk hn h2 h1
  rw [length_varBits] at h2 h3
  exact ⟨h3, h2, by rw [hx, List.length_append, length_varBits]⟩
theorem back_align (l : List (Int × Nat × Int)) (j nk : Nat) (kd dk : Int) (h : l[j]? = some (kd, nk, dk)) (h0 : kd ≠ 0) (h1 : kd ≠ 1) :
    rpad (pack (opsBits l)) (opsBits (l.take j)).length = (0, 0, (opsBits (l.take (j + 1))).length) ∧ (opsBits (l.take (j + 1))).length ≤ 8 * (pack (opsBits l)).length := by
  obtain ⟨c, hc⟩ := opsBits_take l (j + 1)
  have hx : opsBits (l.take (j + 1)) = opsBits (l.take j) ++ List.replicate ((8 - (opsBits (l.take j)).length % 8) % 8) false := by
    rw [opsBits_next l j _ h]; unfold opBits; rw [if_neg h0, if_neg h1]; rfl
  have hl : (opsBits (l.take (j + 1))).length = (opsBits (l.take j)).length + (8 - (opsBits (l.take j)).length % 8) % 8 := by rw [hx, List.length_append, List.length_replicate]
  rw [hx] at hc
  have h3 := next_of (opsBits (l.take j)) (List.replicate ((8 - (opsBits (l.take j)).length % 8) % 8) false) c
  have h2 := room_of (opsBits (l.take j)) (List.replicate ((8 - (opsBits (l.take j)).length % 8) % 8) false) c
  rw [← hc, List.length_replicate] at h3 h2
  refine ⟨?_, by omega⟩
  rw [rpad_ok _ _ (by rw [h3]; exact num_zeros _), hl]
theorem back_end (bs : List Bool) : rpad (pack bs) bs.length = (0, 0, 8 * (pack bs).length) := by
  rw [rpad_ok _ _ (by rw [next_end]; exact num_zeros _), length_pack]
  congr 2; omega

end Go.Proofs.Ythfimeaajboihaa
