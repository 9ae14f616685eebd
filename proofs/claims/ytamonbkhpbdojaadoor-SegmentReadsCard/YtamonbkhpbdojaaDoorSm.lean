/- Segments' headers: flags, byte by byte; the whole header; what is read as a header is just that. -/
import Derived.Test.YtamonbkhpbdojaaDoorSl
import Derived.Test.YtamonbkhpbdojaaDoorSk
import Derived.Test.YtamonbkhpbdojaaDoorRef3
namespace Go.Proofs.YtamonbkhpbdojaaDoor
set_option maxRecDepth 100000
open Go.RowKit

theorem next_one (L : List Nat) (k : Nat) (h : k < 8 * L.length) : nextBits L k 1 = [bit (unpack L) k] := by
  unfold nextBits bit
  have hk : k < (unpack L).length := by rw [length_unpack]; exact h
  rw [← List.getElem_cons_drop hk, List.getElem?_eq_getElem hk]; rfl
theorem flg_bit (L : List Nat) (k : Nat) (h : k < 8 * L.length) : flg L k = bit (unpack L) k := by
  unfold flg; rw [next_one L k h]
  cases bit (unpack L) k <;> simp [num]
theorem flgL_take (L : List Nat) (c : Nat) (h : c ≤ 8 * L.length) : flgL L c = (unpack L).take c := by
  have hl := length_unpack L
  refine ext_bit (by rw [length_flgL, List.length_take]; omega) (fun k hk => ?_)
  rw [length_flgL] at hk
  rw [bit_take, decide_eq_true hk, Bool.true_and, ← flg_bit L k (by omega)]
  unfold bit flgL
  simp [hk]
theorem num_zero {l : List Bool} (h : num l = 0) : l = List.replicate l.length false := by
  have := bitsOf_num l
  rw [h] at this
  rw [← this]
  refine ext_bit (by simp [length_bitsOf]) (fun k hk => ?_)
  rw [bit_replicate]
  rw [bit_bitsOf]; simp
theorem num_rep (n : Nat) : num (List.replicate n false) = 0 := by
  induction n with
  | zero => rfl
  | succ n ih => rw [List.replicate_succ', num_append, ih]; simp [num]

theorem flgS_fwd (A B : List Nat) (kp : List Bool) (st : Bool) : flgS (A ++ (pack (kp ++ [st]) ++ B)) A.length kp.length = (0, kp, st, (A ++ pack (kp ++ [st])).length) := by
  have hl : (pack (kp ++ [st])).length = kp.length / 8 + 1 := by rw [length_pack]; simp; omega
  have hu := unpack_pack (kp ++ [st])
  have hX : pt (A ++ (pack (kp ++ [st]) ++ B)) A.length (kp.length / 8 + 1) = pack (kp ++ [st]) := by
    rw [pt_app, ← hl, List.take_left']; rfl
  have hul := length_unpack (pack (kp ++ [st]))
  have h1 : flgL (pack (kp ++ [st])) kp.length = kp := by
    rw [flgL_take _ _ (by omega), hu, List.append_assoc, List.take_left' rfl]
  have h2 : flg (pack (kp ++ [st])) kp.length = st := by
    rw [flg_bit _ _ (by omega), hu, bit_append, if_pos (by simp), bit_append, if_neg (by omega)]
    simp [bit]
  have h3 : (rpad (pack (kp ++ [st])) (kp.length + 1)).2.1 = 0 := by
    rw [rpad_ok]
    unfold nextBits
    rw [hu, List.drop_left' (by simp), List.take_replicate, num_rep]
  unfold flgS
  rw [hX, if_neg (by simp only [List.length_append]; omega), if_pos h3, h1, h2]
  rw [List.length_append, hl]

theorem flgS_inv {l : List Nat} {a c a' : Nat} {kp : List Bool} {st : Bool} (hb : Byts l) (h : flgS l a c = (0, kp, st, a')) : kp.length = c ∧ a < a' ∧ a' ≤ l.length ∧ seg l a a' = pack (kp ++ [st]) := by
  unfold flgS at h
  split at h
  · simp at h
  rename_i h1
  split at h
  rotate_left
  · simp at h
  rename_i h2
  simp only [Prod.mk.injEq, true_and] at h
  obtain ⟨rfl, rfl, rfl⟩ := h
  have hlen := length_pt l a (c / 8 + 1)
  have hbx : Byts (pt l a (c / 8 + 1)) := pt_lt a _ hb
  have hul := length_unpack (pt l a (c / 8 + 1))
  have hseg : seg l a (a + (c / 8 + 1)) = pt l a (c / 8 + 1) := by unfold seg pt; rw [show a + (c / 8 + 1) - a = c / 8 + 1 by omega]
  refine ⟨length_flgL _ _, by omega, by omega, ?_⟩
  rw [hseg]
  generalize pt l a (c / 8 + 1) = X at *
  have h3 : num (nextBits X (c + 1) ((8 - (c + 1) % 8) % 8)) = 0 := by
    rcases Nat.eq_zero_or_pos (num (nextBits X (c + 1) ((8 - (c + 1) % 8) % 8))) with e | e
    · exact e
    · rw [rpad_no X (c + 1) (by omega)] at h2; simp at h2
  have h4 := num_zero h3
  rw [length_nextBits X _ _ (by omega)] at h4
  unfold nextBits at h4
  have h5 : unpack X = (flgL X c ++ [flg X c]) ++ List.replicate ((8 - (c + 1) % 8) % 8) false := by
    rw [flgL_take X c (by omega), flg_bit X c (by omega)]
    have e1 : (unpack X).take c ++ [bit (unpack X) c] = (unpack X).take (c + 1) := (take_bit (unpack X) c (by omega)).symm
    rw [e1, ← h4, List.take_of_length_le (l := (unpack X).drop (c + 1)) (by rw [List.length_drop]; omega), List.take_append_drop]
  have h6 : X = pack (unpack X) := by rw [unpack_flat, pack_flat X hbx]
  have h7 := pack_padded (flgL X c ++ [flg X c])
  unfold padded at h7
  rw [show (flgL X c ++ [flg X c]).length = c + 1 by simp [length_flgL]] at h7
  exact h6.trans ((congrArg pack h5).trans h7)

/-- A segment that may be, with so many bytes of data. -/
structure OkS (s : Seg) (d : Nat) : Prop where
  num : s.num ≤ 32767
  k1 : 1 ≤ s.kind
  k2 : s.kind ≤ 7
  p1 : rLo s.kind ≤ s.page
  p2 : s.page ≤ rHi s.kind
  many : s.refs.length ≤ mostN (rRef s.kind) s.num
  rise : risN (s.num - 1) s.refs 0 = true
  keep : s.keep.length = s.refs.length
  stay : (rStay s.kind || !s.stay) = true
  data : d ≤ rData s.kind

/-- The bytes of a header. -/
def hdrB (s : Seg) (d : Nat) : List Nat := groups s.num ++ ([s.kind] ++ (groups s.page ++ (groups s.refs.length ++ (gAll s.refs ++ (pack (s.keep ++ [s.stay]) ++ groups d)))))

theorem ris_le (last : Nat) : ∀ (t : List Nat) (m : Nat), risN last t m = true → ∀ r ∈ t, r ≤ last := by
  intro t
  induction t with
  | nil => intro m _ r hr; simp at hr
  | cons a t ih =>
    intro m h r hr
    simp only [risN, Bool.and_eq_true, decide_eq_true_eq] at h
    rcases List.mem_cons.1 hr with rfl | hr
    · exact h.1.2
    · exact ih _ h.2 r hr
theorem gAll_lt {last m : Nat} {t : List Nat} (h : risN last t m = true) (hl : last < 40000) : Byts (gAll t) := by
  intro x hx
  obtain ⟨r, hr, hx⟩ := List.mem_flatMap.1 hx
  have := ris_le last t m h r hr
  exact groups_lt_u64 r (by omega) x hx
theorem rHi_le (k : Nat) : rHi k ≤ 64 := by unfold rHi; split <;> omega
theorem rData_le (k : Nat) : rData k ≤ 67108864 := by unfold rData; split <;> omega
theorem mostN_le (r : Bool) (n : Nat) : mostN r n ≤ n := by unfold mostN; split <;> omega

theorem hdr_byts {s : Seg} {d : Nat} (h : OkS s d) : Byts (hdrB s d) := by
  have h1 := h.num
  have h2 := Nat.le_trans h.p2 (rHi_le _)
  have h3 := Nat.le_trans h.many (mostN_le _ _)
  have h4 := Nat.le_trans h.data (rData_le _)
  refine Byts.app (groups_lt_u64 _ (by omega)) (Byts.app (fun x hx => ?_) (Byts.app (groups_lt_u64 _ (by omega)) (Byts.app (groups_lt_u64 _ (by omega)) (Byts.app (gAll_lt h.rise (by omega)) (Byts.app (pack_lt _) (groups_lt_u64 _ (by omega)))))))
  have := h.k2
  simp at hx; omega

theorem segS_fwd (A B : List Nat) (s : Seg) (d : Nat) (h : OkS s d) (hA : Byts A) (hB : Byts B) : segS (A ++ (hdrB s d ++ B)) A.length = (0, s, d, A.length + (hdrB s d).length) := by
  have b1 := h.num
  have b2 := Nat.le_trans h.p2 (rHi_le _)
  have b3 := Nat.le_trans h.many (mostN_le _ _)
  have b4 := Nat.le_trans h.data (rData_le _)
  have b5 := h.k2
  have g1 : Byts (groups s.num) := groups_lt_u64 _ (by omega)
  have g2 : Byts [s.kind] := fun x hx => by simp at hx; omega
  have g3 : Byts (groups s.page) := groups_lt_u64 _ (by omega)
  have g4 : Byts (groups s.refs.length) := groups_lt_u64 _ (by omega)
  have g5 : Byts (gAll s.refs) := gAll_lt h.rise (by omega)
  have g6 : Byts (pack (s.keep ++ [s.stay])) := pack_lt _
  have g7 : Byts (groups d) := groups_lt_u64 _ (by omega)
  have a1 := hA.app g1
  have a2 := a1.app g2
  have a3 := a2.app g3
  have a4 := a3.app g4
  have a5 := a4.app g5
  have a6 := a5.app g6
  have r7 := g7.app hB
  have r6 := g6.app r7
  have r5 := g5.app r6
  have r4 := g4.app r5
  have r3 := g3.app r4
  have r2 := g2.app r3
  obtain ⟨L, hL⟩ : ∃ L, L = A ++ (hdrB s d ++ B) := ⟨_, rfl⟩
  rw [← hL]
  have E : L = A ++ (groups s.num ++ ([s.kind] ++ (groups s.page ++ (groups s.refs.length ++ (gAll s.refs ++ (pack (s.keep ++ [s.stay]) ++ (groups d ++ B))))))) := by rw [hL]; simp [hdrB]
  have e1 := numS_fwd A _ s.num 0 32767 hA r2 (by omega) (by omega) h.num
  rw [← E] at e1
  have E2 := E
  rw [← List.append_assoc A] at E2
  have e2 := kindS_fwd (A ++ groups s.num) (groups s.page ++ (groups s.refs.length ++ (gAll s.refs ++ (pack (s.keep ++ [s.stay]) ++ (groups d ++ B))))) s.kind h.k1 h.k2
  rw [← E2] at e2
  have E3 := E2
  rw [← List.append_assoc (A ++ groups s.num)] at E3
  have e3 := numS_fwd (A ++ groups s.num ++ [s.kind]) _ s.page (rLo s.kind) (rHi s.kind) a2 r4 (by omega) h.p1 h.p2
  rw [← E3] at e3
  have E4 := E3
  rw [← List.append_assoc (A ++ groups s.num ++ [s.kind])] at E4
  have e4 := numS_fwd (A ++ groups s.num ++ [s.kind] ++ groups s.page) _ s.refs.length 0 (mostN (rRef s.kind) s.num) a3 r5 (by omega) (by omega) h.many
  rw [← E4] at e4
  have E5 := E4
  rw [← List.append_assoc (A ++ groups s.num ++ [s.kind] ++ groups s.page)] at E5
  have e5 := risS_fwd (s.num - 1) (by omega) s.refs (A ++ groups s.num ++ [s.kind] ++ groups s.page ++ groups s.refs.length) _ 0 a4 r6 h.rise
  rw [← E5] at e5
  have E6 := E5
  rw [← List.append_assoc (A ++ groups s.num ++ [s.kind] ++ groups s.page ++ groups s.refs.length)] at E6
  have e6 := flgS_fwd (A ++ groups s.num ++ [s.kind] ++ groups s.page ++ groups s.refs.length ++ gAll s.refs) (groups d ++ B) s.keep s.stay
  rw [← E6, h.keep] at e6
  have E7 := E6
  rw [← List.append_assoc (A ++ groups s.num ++ [s.kind] ++ groups s.page ++ groups s.refs.length ++ gAll s.refs)] at E7
  have e7 := numS_fwd (A ++ groups s.num ++ [s.kind] ++ groups s.page ++ groups s.refs.length ++ gAll s.refs ++ pack (s.keep ++ [s.stay])) B d 0 (rData s.kind) a6 hB (by omega) (by omega) h.data
  rw [← E7] at e7
  unfold segS
  rw [e1, bindE_ok rfl]
  dsimp only
  rw [e2, bindE_ok rfl]
  dsimp only
  rw [e3, bindE_ok rfl]
  dsimp only
  rw [e4, bindE_ok rfl]
  dsimp only
  rw [e5, bindE_ok rfl]
  dsimp only
  rw [e6, bindE_ok rfl]
  dsimp only
  rw [show stayS (rStay s.kind) s.stay = (0, ()) by unfold stayS; rw [if_pos h.stay], bindE_ok rfl]
  try dsimp only
  rw [e7, bindE_ok rfl]
  simp [hdrB]

theorem bindE_inv {α β : Type} [Inhabited β] {r : Nat × α} {f : α → Nat × β} {y : β} (h : bindE r f = (0, y)) : ∃ x, r = (0, x) ∧ f x = (0, y) := by
  unfold bindE at h
  split at h
  · rename_i h1; exact ⟨r.2, Prod.ext h1 rfl, h⟩
  · rename_i h1; simp at h; exact absurd h.1 h1

theorem segS_inv {l : List Nat} {a : Nat} {s : Seg} {d e : Nat} (hb : Byts l) (h : segS l a = (0, s, d, e)) : OkS s d ∧ a ≤ e ∧ e ≤ l.length ∧ seg l a e = hdrB s d := by
  unfold segS at h
  obtain ⟨⟨n, a1⟩, e1, h⟩ := bindE_inv h
  obtain ⟨⟨k, a2⟩, e2, h⟩ := bindE_inv h
  obtain ⟨⟨p, a3⟩, e3, h⟩ := bindE_inv h
  obtain ⟨⟨c, a4⟩, e4, h⟩ := bindE_inv h
  obtain ⟨⟨R, a5⟩, e5, h⟩ := bindE_inv h
  obtain ⟨⟨kp, st, a6⟩, e6, h⟩ := bindE_inv h
  obtain ⟨_, e7, h⟩ := bindE_inv h
  obtain ⟨⟨dd, a7⟩, e8, h⟩ := bindE_inv h
  simp only [Prod.mk.injEq, true_and] at h e1 e2 e3 e4 e5 e6 e7 e8
  obtain ⟨rfl, rfl, rfl⟩ := h
  obtain ⟨n1, n2, n3, n4, n5, n6⟩ := numS_inv hb e1
  obtain ⟨k1, k2, k3, k4, k5⟩ := kindS_inv e2
  obtain ⟨p1, p2, p3, p4, p5, p6⟩ := numS_inv hb e3
  obtain ⟨c1, c2, c3, c4, c5, c6⟩ := numS_inv hb e4
  obtain ⟨r1, r2, r3, r4, r5⟩ := risS_inv hb c a4 0 R a5 c5 e5
  obtain ⟨f1, f2, f3, f4⟩ := flgS_inv hb e6
  obtain ⟨d1, d2, d3, d4, d5, d6⟩ := numS_inv hb e8
  have hst : (rStay k || !st) = true := by
    unfold stayS at e7
    split at e7
    · assumption
    · simp at e7
  refine ⟨⟨n3, k1, k2, p2, p3, by rw [r1]; exact c3, r2, by rw [f1, r1], hst, d3⟩, by omega, d5, ?_⟩
  show _ = groups n ++ ([k] ++ (groups p ++ (groups R.length ++ (gAll R ++ (pack (kp ++ [st]) ++ groups dd)))))
  rw [← n6, ← k5, ← p6, r1, ← c6, ← r5, ← f4, ← d6]
  show seg l a a7 = seg l a a1 ++ (seg l a1 a2 ++ (seg l a2 a3 ++ (seg l a3 a4 ++ (seg l a4 a5 ++ (seg l a5 a6 ++ seg l a6 a7)))))
  rw [seg_join l a5 a6 a7 (by omega) (by omega), seg_join l a4 a5 a7 (by omega) (by omega), seg_join l a3 a4 a7 (by omega) (by omega), seg_join l a2 a3 a7 (by omega) (by omega), seg_join l a1 a2 a7 (by omega) (by omega), seg_join l a a1 a7 (by omega) (by omega)]
end Go.Proofs.YtamonbkhpbdojaaDoor
