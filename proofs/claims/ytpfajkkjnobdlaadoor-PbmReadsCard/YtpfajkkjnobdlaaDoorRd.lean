/- The reader of a pbm file: the pixels of a text. -/
import Derived.Test.YtpfajkkjnobdlaaDoorRc
namespace Go.Proofs.YtpfajkkjnobdlaaDoor
set_option maxRecDepth 100000
open Go.RowKit

theorem pixS_cons {l t : List Nat} {k : Nat} {a : List Bool} {c : Nat} (h : gapS false l = c :: t) : pixS (k + 1) a l = if c = 48 then pixS k (a ++ [false]) t else if c = 49 then pixS k (a ++ [true]) t else .error 30 := by
  rw [pixS, h]
theorem pixS_nil {l : List Nat} {k : Nat} {a : List Bool} (h : gapS false l = []) : pixS (k + 1) a l = .error 32 := by
  rw [pixS, h]
theorem place_lt {W H p : Nat} (h : p < W * H) : p % W < W ∧ p / W < H := by
  have hW : 0 < W := by rcases Nat.eq_zero_or_pos W with e | e; · rw [e] at h; simp at h
                        · exact e
  exact ⟨Nat.mod_lt _ hW, Nat.div_lt_of_lt_mul h⟩
theorem wrap64_small (x : Int) (h1 : 0 ≤ x) (h2 : x ≤ 4611686018427387904) : IntKind.i64.wrap x = x := by
  rw [IntKind.wrap_i64]; omega
theorem plcT_white {W H : Nat} {a : List Bool} : ∀ x y, x < W → y < H → plcT W a x y = plcT W (a ++ [false]) x y := by
  intro x y hx hy
  unfold plcT
  rw [List.getD_eq_getElem?_getD, List.getD_eq_getElem?_getD, List.getElem?_append]
  split
  · rfl
  · rename_i h
    rw [List.getElem?_eq_none (by omega)]
    rcases hk : y * W + x - a.length with _ | k <;> simp
theorem plcT_black {W H : Nat} {a : List Bool} : ∀ x y, x < W → y < H → laidAll (plcT W a) (a.length / W) (a.length % W) 1 (fun _ => decide ((1 : Nat) = 1)) x y = plcT W (a ++ [true]) x y := by
  intro x y hx hy
  have key : (y = a.length / W ∧ x = a.length % W) ↔ y * W + x = a.length := by
    constructor
    · rintro ⟨rfl, rfl⟩
      rw [Nat.mul_comm]; exact Nat.div_add_mod _ _
    · intro e
      rw [← e]
      have hW : 0 < W := by omega
      exact ⟨by rw [Nat.mul_comm, Nat.mul_add_div hW, Nat.div_eq_of_lt hx]; omega, by rw [Nat.mul_comm, Nat.mul_add_mod, Nat.mod_eq_of_lt hx]⟩
  unfold laidAll plcT
  by_cases h : y = a.length / W ∧ a.length % W ≤ x ∧ x < a.length % W + 1
  · rw [if_pos h, key.1 ⟨h.1, by omega⟩]
    simp
  · rw [if_neg h]
    have hne : ¬ y * W + x = a.length := fun e => h ⟨(key.2 e).1, by have := (key.2 e).2; omega⟩
    rw [List.getD_eq_getElem?_getD, List.getD_eq_getElem?_getD, List.getElem?_append]
    split
    · rfl
    · rw [List.getElem?_eq_none (by omega)]
      rcases hk : y * W + x - a.length with _ | k
      · omega
      · simp

/-- What 'digits' does, by what is read of the pixels. -/
def DigQ (W H b g cp : Nat) (R : Except Nat (List Bool × List Nat)) (e : Ending) (w' : World) : Prop :=
  match R with
  | .error er => e = .panicked [{ v := .iface 28 (.int .i64 (er : Int)), recovered := false }]
  | .ok (acc, r) => if gapS false r = [] then e = .returned (.tuple #[]) ∧ MapAt w' b g cp W H (plcT W acc) else e = .panicked [{ v := .iface 28 (.int .i64 33), recovered := false }]

set_option maxHeartbeats 4000000 in
theorem digits_any (bs b g cp W H : Nat) (ao : Option Addr) (cap : Nat) (l : List Nat) (a : Nat) (w : World) (h : SR w bs ao cap l a) (hm : MapAt w b g cp W H (fun _ _ => false))
    (hx : bs ≠ b ∧ bs ≠ g ∧ b ≠ g) (hy : l ≠ [] → ∀ k off, ao = some ⟨k, off, none⟩ → k ≠ b ∧ k ≠ g) :
    Calls Tryd.prog 48 #[.pointer (some ⟨bs, 0, none⟩), .pointer (some ⟨b, 0, none⟩)] w fun e w' => Fr (fun k => k = bs ∨ k = g) w w' ∧ DigQ W H b g cp (pixS (W * H) [] (l.drop a)) e w' := by
  have HS : Hid (SR w bs ao cap l a) := h
  have HM : Hid (MapAt w b g cp W H (plcT W [])) := hm.pix (fun x y _ _ => by simp [plcT])
  have HX : Hid (bs ≠ b ∧ bs ≠ g ∧ b ≠ g) := hx
  have HY : Hid (l ≠ [] → ∀ k off, ao = some ⟨k, off, none⟩ → k ≠ b ∧ k ≠ g) := hy
  have HPOS : Hid (1 ≤ W * H ∧ W * H ≤ 1048576) := ⟨Nat.mul_pos hm.wpos hm.hpos, hm.area⟩
  obtain ⟨f1, f2, f3⟩ := size_facts hm.wpos hm.hpos hm.area
  obtain ⟨R0, hR0⟩ : ∃ R0, R0 = pixS (W * H) [] (l.drop a) := ⟨_, rfl⟩
  rw [← hR0]
  have HR0 : Hid (R0 = pixS (W * H) [] (l.drop a)) := hR0
  have hlim := h.lim
  have hW := hm.wpos
  obtain ⟨Z, hZ⟩ : ∃ Z : Nat, Z = W * H := ⟨_, rfl⟩
  have HZ : Hid (Z = W * H) := hZ
  have hm1 : (W : Int) * (H : Int) = (Z : Int) := by rw [hZ]; push_cast; rfl
  have hZb : Z ≤ 1048576 := by rw [hZ]; exact hm.area
  clear h hm hx hy hR0 hZ
  go_enter Tryd.func48, Tryd.ntmps48
  go_wp2_with fail
  obtain ⟨J0, HJ0⟩ : ∃ J : Nat → Act → World → Prop, Hid (∀ n f v, J n f v ↔ ∃ (a1 p : Nat) (pi : Int) (acc : List Bool) (u2 u3 u7 u8 u9 u10 u11 u12 u13 u14 u15 u16 u17 u18 u19 u20 u21 u22 u23 u24 u25 u26 u27 u28 u29 u30 u31 u32 u33 u34 u35 u36 u37 u38 u39 u40 u41 u42 u43 u44 u45 u46 u47 u48 u49 u50 u51 : Value), f = { tmps := #[.pointer (some ⟨bs, 0, none⟩), .pointer (some ⟨b, 0, none⟩), u2, u3, .int .i64 (W : Int), .int .i64 (H : Int), .int .i64 pi, u7, u8, u9, u10, u11, u12, u13, u14, u15, u16, u17, u18, u19, u20, u21, u22, u23, u24, u25, u26, u27, u28, u29, u30, u31, u32, u33, u34, u35, u36, u37, u38, u39, u40, u41, u42, u43, u44, u45, u46, u47, u48, u49, u50, u51], defers := [] } ∧ pi = (p : Int) ∧ n = 3 * (Z - p) + 2 ∧ p < Z ∧ acc.length = p ∧ SR v bs ao cap l a1 ∧ MapAt v b g cp W H (plcT W acc) ∧ pixS (Z - p) acc (l.drop a1) = R0 ∧ Fr (fun k => k = bs ∨ k = g) w v) := ⟨_, fun _ _ _ => Iff.rfl⟩
  obtain ⟨J1, HJ1⟩ : ∃ J : Nat → Act → World → Prop, Hid (∀ n f v, J n f v ↔ ∃ (a1 p : Nat) (pi : Int) (acc : List Bool) (u2 u3 u7 u8 u9 u10 u11 u12 u13 u14 u15 u16 u17 u18 u19 u20 u21 u22 u23 u24 u25 u26 u27 u28 u29 u30 u31 u32 u33 u34 u35 u36 u37 u38 u39 u40 u41 u42 u43 u44 u45 u46 u47 u48 u49 u50 u51 : Value), f = { tmps := #[.pointer (some ⟨bs, 0, none⟩), .pointer (some ⟨b, 0, none⟩), u2, u3, .int .i64 (W : Int), .int .i64 (H : Int), .int .i64 pi, u7, u8, u9, u10, u11, u12, u13, u14, u15, u16, u17, u18, u19, u20, u21, u22, u23, u24, u25, u26, u27, u28, u29, u30, u31, u32, u33, u34, u35, u36, u37, u38, u39, u40, u41, u42, u43, u44, u45, u46, u47, u48, u49, u50, u51], defers := [] } ∧ pi = (p : Int) ∧ n = 3 * (Z - p) + 1 ∧ p < Z ∧ acc.length = p ∧ a1 < l.length ∧ SR v bs ao cap l a1 ∧ MapAt v b g cp W H (plcT W acc) ∧ pixS (Z - (p + 1)) (acc ++ [true]) (l.drop (a1 + 1)) = R0 ∧ Fr (fun k => k = bs ∨ k = g) w v) := ⟨_, fun _ _ _ => Iff.rfl⟩
  obtain ⟨J2, HJ2⟩ : ∃ J : Nat → Act → World → Prop, Hid (∀ n f v, J n f v ↔ ∃ (a1 p : Nat) (pi : Int) (acc : List Bool) (u2 u3 u7 u8 u9 u10 u11 u12 u13 u14 u15 u16 u17 u18 u19 u20 u21 u22 u23 u24 u25 u26 u27 u28 u29 u30 u31 u32 u33 u34 u35 u36 u37 u38 u39 u40 u41 u42 u43 u44 u45 u46 u47 u48 u49 u50 u51 : Value), f = { tmps := #[.pointer (some ⟨bs, 0, none⟩), .pointer (some ⟨b, 0, none⟩), u2, u3, .int .i64 (W : Int), .int .i64 (H : Int), .int .i64 pi, u7, u8, u9, u10, u11, u12, u13, u14, u15, u16, u17, u18, u19, u20, u21, u22, u23, u24, u25, u26, u27, u28, u29, u30, u31, u32, u33, u34, u35, u36, u37, u38, u39, u40, u41, u42, u43, u44, u45, u46, u47, u48, u49, u50, u51], defers := [] } ∧ pi = (p : Int) ∧ n = 3 * (Z - p) ∧ p < Z ∧ acc.length = p + 1 ∧ a1 < l.length ∧ SR v bs ao cap l a1 ∧ MapAt v b g cp W H (plcT W acc) ∧ pixS (Z - (p + 1)) acc (l.drop (a1 + 1)) = R0 ∧ Fr (fun k => k = bs ∨ k = g) w v) := ⟨_, fun _ _ _ => Iff.rfl⟩
  refine scope_three 0 2 1 (by decide) J0 J1 J2 rfl rfl rfl ?_ ?_ ?_ ?_
  · intro n f v hj
    obtain ⟨a1, p, pi, acc, u2, u3, u7, u8, u9, u10, u11, u12, u13, u14, u15, u16, u17, u18, u19, u20, u21, u22, u23, u24, u25, u26, u27, u28, u29, u30, u31, u32, u33, u34, u35, u36, u37, u38, u39, u40, u41, u42, u43, u44, u45, u46, u47, u48, u49, u50, u51, rfl, rfl, hn, hp, hal, hlt, hs, hmm, hpx, hf⟩ := (HJ2.out _ _ _).1 hj
    have HN : Hid (n = _) := hn
    have HS1 : Hid (SR v bs ao cap l a1) := hs
    have HM1 : Hid (MapAt v b g cp W H (plcT W acc)) := hmm
    have HPX : Hid (pixS (Z - (p + 1)) acc (l.drop (a1 + 1)) = R0) := hpx
    have HF : Hid (Fr (fun k => k = bs ∨ k = g) w v) := hf
    have HAL : Hid (acc.length = p + 1) := hal
    obtain ⟨c0, c1, cf⟩ := cell_of_two hs.blk
    clear hj hn hs hmm hpx hf hal
    have HS2 : Hid (SR (v.setCell ⟨bs, 1, none⟩ (.int .i64 ((a1 : Int) + 1))) bs ao cap l (a1 + 1)) := HS1.out.moved (by omega) hlt
    have HF2 : Hid (Fr (fun k => k = bs ∨ k = g) w (v.setCell ⟨bs, 1, none⟩ (.int .i64 ((a1 : Int) + 1)))) := HF.out.setCell (fun _ => Or.inl rfl) _
    have HM2 : Hid (MapAt (v.setCell ⟨bs, 1, none⟩ (.int .i64 ((a1 : Int) + 1))) b g cp W H (plcT W acc)) := HM1.out.kept (Fr.one v bs 1 _) (fun e => HX.out.1 e.symm) (fun e => HX.out.2.1 e.symm)
    have HPZ : Hid (p < Z) := hp
    by_cases hq : p + 1 < Z
    · have hqI : (p : Int) + 1 < (Z : Int) := by omega
      go_wp2_with fail
      go_step3
      refine Or.inl ⟨rfl, _, ?_, (HJ0.out _ _ _).2 ⟨a1 + 1, p + 1, _, acc, _, _, _, _, _, _, _, _, _, _, _, _, _, _, _, _, _, _, _, _, _, _, _, _, _, _, _, _, _, _, _, _, _, _, _, _, _, _, _, _, _, _, _, _, _, _, _, rfl, by push_cast; rfl, rfl, hq, HAL.out, HS2.out, HM2.out, HPX.out, HF2.out⟩⟩
      rw [HN.out]; omega
    · have hqI : ¬ (p : Int) + 1 < (Z : Int) := by omega
      have HE : Hid (R0 = .ok (acc, l.drop (a1 + 1))) := by
        have := HPX.out
        rw [show Z - (p + 1) = 0 from by omega] at this
        exact this.symm
      go_wp2_with fail
      generalize v.setCell ⟨bs, 1, none⟩ (.int .i64 ((a1 : Int) + 1)) = v2 at *
      refine (gap_any bs ao cap l (a1 + 1) v2 HS2.out).mono ?_
      rintro e v3 ⟨rfl, a3, hs3, hd3, hf3⟩
      have HS3 : Hid (SR v3 bs ao cap l a3) := hs3
      have HD3 : Hid (l.drop a3 = gapS false (l.drop (a1 + 1))) := hd3
      have HF3 : Hid (Fr (fun k => k = bs ∨ k = g) w v3) := HF2.out.trans hf3 (fun _ _ e => Or.inl e)
      have HM3 : Hid (MapAt v3 b g cp W H (plcT W acc)) := HM2.out.kept hf3 (fun e => HX.out.1 e.symm) (fun e => HX.out.2.1 e.symm)
      clear hs3 hd3 hf3
      go_wp2_with fail
      refine (look_any bs ao cap l a3 v3 HS3.out).mono ?_
      rintro e v4 ⟨rfl, q, rfl⟩
      have HF4 : Hid (Fr (fun k => k = bs ∨ k = g) w (v3.drewN q)) := HF3.out.drewN q
      have HM4 : Hid (MapAt (v3.drewN q) b g cp W H (plcT W acc)) := HM3.out.drewN q
      generalize v3.drewN q = v4 at *
      rcases hr : l.drop a3 with _ | ⟨cc, t⟩
      · rw [lookV_end hr]
        have HG : Hid (gapS false (l.drop (a1 + 1)) = []) := by show _ = _; rw [← HD3.out]; exact hr
        clear hr
        go_wp2_with fail
        simp only [jumpsE]
        show bodyPost Tryd.prog Tryd.f48 _ _ _ _
        refine bodyPost_end (results_none rfl _ _ _) rfl ⟨HF4.out, ?_⟩
        rw [HE.out]
        show (if _ then _ else _)
        rw [if_pos HG.out]
        exact ⟨rfl, HM4.out⟩
      · rw [(lookV_cons hr).1]
        have HG : Hid (¬ gapS false (l.drop (a1 + 1)) = []) := by show ¬ _ = _; rw [← HD3.out, hr]; simp
        have hmm1 : ((cc : Int) == -1) = false := by simp
        clear hr
        go_wp2_with fail
        simp only [jumpsE]
        refine ⟨rfl, HF4.out, ?_⟩
        rw [HE.out]
        show (if _ then _ else _)
        rw [if_neg HG.out]
  · intro k2 n f v hj
    obtain ⟨a1, p, pi, acc, u2, u3, u7, u8, u9, u10, u11, u12, u13, u14, u15, u16, u17, u18, u19, u20, u21, u22, u23, u24, u25, u26, u27, u28, u29, u30, u31, u32, u33, u34, u35, u36, u37, u38, u39, u40, u41, u42, u43, u44, u45, u46, u47, u48, u49, u50, u51, rfl, rfl, hn, hp, hal, hlt, hs, hmm, hpx, hf⟩ := (HJ1.out _ _ _).1 hj
    have HN : Hid (n = _) := hn
    have HS1 : Hid (SR v bs ao cap l a1) := hs
    have HM1 : Hid (MapAt v b g cp W H (plcT W acc)) := hmm
    have HPX : Hid (pixS (Z - (p + 1)) (acc ++ [true]) (l.drop (a1 + 1)) = R0) := hpx
    have HF : Hid (Fr (fun k => k = bs ∨ k = g) w v) := hf
    have HAL : Hid (acc.length = p) := hal
    have HK2 : Hid (∀ f v, (∃ m, m < n ∧ J2 m f v) → _) := fun f v ⟨m, hm, h⟩ => wp_mono (k2 m f v h) (jumpsE_mono (to3_mono (B := (· < m)) (B' := (· < n)) fun x hx => Nat.lt_trans hx hm))
    have HLT : Hid (a1 < l.length) := hlt
    have HP : Hid (p < Z) := hp
    clear hj hn hs hmm hpx hf hal k2 hlt
    obtain ⟨pl1, pl2⟩ := place_lt (W := W) (H := H) (p := p) (by rw [← HZ.out]; exact hp)
    obtain ⟨px, hpx⟩ : ∃ px, px = p % W := ⟨_, rfl⟩
    obtain ⟨py, hpy⟩ : ∃ py, py = p / W := ⟨_, rfl⟩
    have e1 : (p : Int) % (W : Int) = (px : Int) := by rw [hpx]; push_cast; rfl
    have e2 : (p : Int) / (W : Int) = (py : Int) := by rw [hpy]; push_cast; rfl
    have e1' : (p : Int).tmod (W : Int) = (px : Int) := by rw [hpx]; push_cast; rfl
    have e2' : (p : Int).tdiv (W : Int) = (py : Int) := by rw [hpy]; push_cast; rfl
    have HC : Hid (∀ w0, Fr (fun _ => False) v w0 → Calls Tryd.prog 66 #[.pointer (some ⟨b, 0, none⟩), .int .i64 px, .int .i64 py, .int .i64 1] w0 fun e w' => e = .returned (.int .i64 0) ∧ MapAt w' b g cp W H (plcT W (acc ++ [true])) ∧ Fr (fun k => k = g) v w') := fun w0 f0 => by
      have hset := set_in b g cp W H (plcT W acc) px py 1 w0 (HM1.out.kept f0 (fun h => h) (fun h => h)) (by rw [hpx]; exact pl1) (by rw [hpy]; exact pl2) (by omega)
      rw [Int.ofNat_one] at hset
      refine Calls.mono hset ?_
      rintro e w' ⟨rfl, h1, h2⟩
      refine ⟨rfl, h1.pix (fun x y hx hy => ?_), (f0.mono (fun _ _ h => h.elim)).trans h2 (fun _ _ h => h)⟩
      have := plcT_black (H := H) (a := acc) x y hx hy
      rw [HAL.out, ← hpx, ← hpy] at this
      exact this
    have hw1 : IntKind.i64.wrap (px : Int) = px := wrap64_small px (by omega) (by omega)
    have hw2 : IntKind.i64.wrap (py : Int) = py := wrap64_small py (by omega) (by omega)
    clear hpx hpy pl1 pl2
    go_wp2_with fail
    go_region_with (first | (go_at_call 66; refine Calls.mono (HC.out _ ((Fr.refl _ v).drew)) ?_; rintro e v1 ⟨rfl, hm1, hf1⟩; have HM2 : Hid (MapAt v1 b g cp W H (plcT W (acc ++ [true]))) := hm1; have HF2 : Hid (Fr (fun k => k = g) v v1) := hf1; clear hm1 hf1))
    all_goals
      go_wp2_with fail
      go_step3
      simp only [Exit.then]
      rename_i hK
      refine hK _ _ (HK2.out _ _ ⟨_, ?_, (HJ2.out _ _ _).2 ⟨a1, p, _, acc ++ [true], _, _, _, _, _, _, _, _, _, _, _, _, _, _, _, _, _, _, _, _, _, _, _, _, _, _, _, _, _, _, _, _, _, _, _, _, _, _, _, _, _, _, _, _, _, _, _, rfl, rfl, rfl, HP.out, by simp [HAL.out], HLT.out, HS1.out.kept HF2.out (fun e => HX.out.2.1 e) (fun hl k off e => (HY.out hl k off e).2), HM2.out, HPX.out, HF.out.trans HF2.out (fun _ _ e => Or.inr e)⟩⟩)
      rw [HN.out]; omega
  · intro n f v hj
    obtain ⟨a1, p, pi, acc, u2, u3, u7, u8, u9, u10, u11, u12, u13, u14, u15, u16, u17, u18, u19, u20, u21, u22, u23, u24, u25, u26, u27, u28, u29, u30, u31, u32, u33, u34, u35, u36, u37, u38, u39, u40, u41, u42, u43, u44, u45, u46, u47, u48, u49, u50, u51, rfl, rfl, hn, hp, hal, hs, hmm, hpx, hf⟩ := (HJ0.out _ _ _).1 hj
    have HN : Hid (n = _) := hn
    have HS1 : Hid (SR v bs ao cap l a1) := hs
    have HM1 : Hid (MapAt v b g cp W H (plcT W acc)) := hmm
    have HPX : Hid (pixS (Z - p) acc (l.drop a1) = R0) := hpx
    have HF : Hid (Fr (fun k => k = bs ∨ k = g) w v) := hf
    have HAL : Hid (acc.length = p) := hal
    have HP : Hid (p < Z) := hp
    clear hj hn hs hmm hpx hf hal hp
    go_wp2_with fail
    refine (gap_any bs ao cap l a1 v HS1.out).mono ?_
    rintro e v3 ⟨rfl, a3, hs3, hd3, hf3⟩
    have HS3 : Hid (SR v3 bs ao cap l a3) := hs3
    have HD3 : Hid (l.drop a3 = gapS false (l.drop a1)) := hd3
    have HF3 : Hid (Fr (fun k => k = bs ∨ k = g) w v3) := HF.out.trans hf3 (fun _ _ e => Or.inl e)
    have HM3 : Hid (MapAt v3 b g cp W H (plcT W acc)) := HM1.out.kept hf3 (fun e => HX.out.1 e.symm) (fun e => HX.out.2.1 e.symm)
    clear hs3 hd3 hf3 HM1 HF HS1
    go_wp2_with fail
    refine (look_any bs ao cap l a3 v3 HS3.out).mono ?_
    rintro e v4 ⟨rfl, q, rfl⟩
    have HS4 : Hid (SR (v3.drewN q) bs ao cap l a3) := HS3.out.drewN q
    have HF4 : Hid (Fr (fun k => k = bs ∨ k = g) w (v3.drewN q)) := HF3.out.drewN q
    have HM4 : Hid (MapAt (v3.drewN q) b g cp W H (plcT W acc)) := HM3.out.drewN q
    generalize v3.drewN q = v4 at *
    clear HS3 HF3 HM3
    have HZP : Hid (Z - p = (Z - (p + 1)) + 1) := by have := HP.out; show _ = _; omega
    rcases hr : l.drop a3 with _ | ⟨cc, t⟩
    · rw [lookV_end hr]
      have HE : Hid (R0 = .error 32) := by
        have h1 := HPX.out
        have h2 := HD3.out
        rw [hr] at h2
        rw [HZP.out, pixS_nil h2.symm] at h1
        exact h1.symm
      clear hr
      go_wp2_with fail
      simp only [jumpsE]
      refine ⟨rfl, HF4.out, ?_⟩
      rw [HE.out]
      rfl
    · obtain ⟨hv, hlt, hdr⟩ := lookV_cons hr
      rw [hv]
      have HPX2 : Hid ((if cc = 48 then pixS (Z - (p + 1)) (acc ++ [false]) t else if cc = 49 then pixS (Z - (p + 1)) (acc ++ [true]) t else .error 30) = R0) := by
        have h1 := HPX.out
        have h2 := HD3.out
        rw [hr] at h2
        rw [HZP.out, pixS_cons h2.symm] at h1
        exact h1
      have HDR : Hid (l.drop (a3 + 1) = t) := hdr
      have HLT : Hid (a3 < l.length) := hlt
      have hmm1 : ((cc : Int) == -1) = false := by simp
      clear hr hv hdr hlt
      by_cases h48 : cc = 48
      · subst h48
        go_wp2_with fail
        go_step3
        refine Or.inr (Or.inr ⟨rfl, _, ?_, (HJ2.out _ _ _).2 ⟨a3, p, _, acc ++ [false], _, _, _, _, _, _, _, _, _, _, _, _, _, _, _, _, _, _, _, _, _, _, _, _, _, _, _, _, _, _, _, _, _, _, _, _, _, _, _, _, _, _, _, _, _, _, _, rfl, rfl, rfl, HP.out, by simp [HAL.out], HLT.out, HS4.out, HM4.out.pix (fun x y hx hy => plcT_white (H := H) x y hx hy), ?_, HF4.out⟩⟩)
        · rw [HN.out]; omega
        · rw [HDR.out]; exact HPX2.out
      · by_cases h49 : cc = 49
        · subst h49
          go_wp2_with fail
          go_step3
          refine Or.inr (Or.inl ⟨rfl, _, ?_, (HJ1.out _ _ _).2 ⟨a3, p, _, acc, _, _, _, _, _, _, _, _, _, _, _, _, _, _, _, _, _, _, _, _, _, _, _, _, _, _, _, _, _, _, _, _, _, _, _, _, _, _, _, _, _, _, _, _, _, _, _, rfl, rfl, rfl, HP.out, HAL.out, HLT.out, HS4.out, HM4.out, ?_, HF4.out⟩⟩)
          · rw [HN.out]; omega
          · rw [HDR.out]; exact HPX2.out
        · have hb48 : ((cc : Int) == 48) = false := by simp; omega
          have hb49 : ((cc : Int) == 49) = false := by simp; omega
          have HE : Hid (R0 = .error 30) := by
            have h1 := HPX2.out
            rw [if_neg h48, if_neg h49] at h1
            exact h1.symm
          go_wp2_with fail
          simp only [jumpsE]
          refine ⟨rfl, HF4.out, ?_⟩
          rw [HE.out]
          rfl
  · intro k0
    have HK : Hid (∀ f v, (∃ n, J0 n f v) → _) := fun f v ⟨n, h⟩ => k0 n f v h
    clear k0
    go_wp2_with fail
    refine (size_any b g cp W H _ w HM.out).mono ?_
    rintro e v ⟨rfl, q, rfl⟩
    have HS1 : Hid (SR (w.drewN q) bs ao cap l a) := HS.out.drewN q
    have HM1 : Hid (MapAt (w.drewN q) b g cp W H (plcT W [])) := HM.out.drewN q
    have HF1 : Hid (Fr (fun k => k = bs ∨ k = g) w (w.drewN q)) := (Fr.refl _ w).drewN q
    generalize w.drewN q = v1 at *
    go_wp2_with fail
    go_step3
    simp only [Exit.then]
    rename_i hK
    exact hK _ _ (HK.out _ _ ⟨_, (HJ0.out _ _ _).2 ⟨a, 0, _, [], _, _, _, _, _, _, _, _, _, _, _, _, _, _, _, _, _, _, _, _, _, _, _, _, _, _, _, _, _, _, _, _, _, _, _, _, _, _, _, _, _, _, _, _, _, _, _, rfl, rfl, rfl, by have := HPOS.out.1; rw [HZ.out]; exact this, rfl, HS1.out, HM1.out, by rw [Nat.sub_zero, HZ.out]; exact HR0.out.symm, HF1.out⟩⟩)

end Go.Proofs.YtpfajkkjnobdlaaDoor
