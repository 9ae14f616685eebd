/- The reader of a pbm file: look, gap, number. -/
import Derived.Test.YtpfajkkjnobdlaaDoorBy
import Derived.Test.YtpfajkkjnobdlaaDoorSp
import Derived.Test.YtpfajkkjnobdlaaDoorJm
import Derived.Deep.Cut
namespace Go.Proofs.YtpfajkkjnobdlaaDoor
set_option maxRecDepth 100000
open Go.RowKit

/-- A reader: its block bs, the bytes that it reads, the byte that comes next. -/
structure SR (w : World) (bs : Nat) (ao : Option Addr) (cap : Nat) (l : List Nat) (a : Nat) : Prop where
  blk : w.heap[bs]? = some (.cells #[.slice ao l.length cap, .int .i64 (a : Int)] 58 (0, 0))
  seen : l ≠ [] → ∃ b off, ao = some ⟨b, off, none⟩ ∧ ∀ j, j < l.length → w.cell? ⟨b, off + j, none⟩ = some (.int .u8 (l[j]?.getD 0 : Nat))
  le : a ≤ l.length
  lim : l.length ≤ 140737488355328
  byt : ∀ x ∈ l, x < 256

theorem cell_of_two {w : World} {b : Nat} {x y : Value} {t : TypeId} (h : w.heap[b]? = some (.cells #[x, y] t (0, 0))) :
    w.cell? ⟨b, 0, none⟩ = some x ∧ w.cell? ⟨b, 1, none⟩ = some y ∧ (∀ j, w.frozen? ⟨b, j, none⟩ = false) := by
  refine ⟨?_, ?_, fun j => ?_⟩ <;> simp [World.cell?, World.frozen?, h]
theorem two_set1 {w : World} {b : Nat} {x y u : Value} {t : TypeId} (h : w.heap[b]? = some (.cells #[x, y] t (0, 0))) :
    (w.setCell ⟨b, 1, none⟩ u).heap[b]? = some (.cells #[x, u] t (0, 0)) := by
  simp [World.setCell, Array.getElem?_modify, h]
theorem SR.lt {w : World} {bs : Nat} {ao : Option Addr} {cap : Nat} {l : List Nat} {a : Nat} (h : SR w bs ao cap l a) : bs < w.heap.size := lt_of_block h.blk
theorem SR.apart {w : World} {bs : Nat} {ao : Option Addr} {cap : Nat} {l : List Nat} {a b off : Nat} (h : SR w bs ao cap l a) (hl : l ≠ []) (e : ao = some ⟨b, off, none⟩) : b ≠ bs := by
  intro hb
  obtain ⟨b', off', e', hc⟩ := h.seen hl
  rw [e] at e'
  simp at e'
  obtain ⟨rfl, rfl⟩ := e'
  have h0 := hc 0 (List.length_pos_iff.2 hl)
  rw [hb] at h0
  simp only [World.cell?, h.blk] at h0
  rcases Nat.lt_or_ge (off + 0) 2 with h2 | h2
  · have : off + 0 = 0 ∨ off + 0 = 1 := by omega
    rcases this with e | e <;> (rw [e] at h0; simp at h0)
  · rw [Array.getElem?_eq_none (by simpa using h2)] at h0; simp at h0
theorem SR.kept {w w' : World} {bs : Nat} {ao : Option Addr} {cap : Nat} {l : List Nat} {a : Nat} {S : Nat → Prop} (h : SR w bs ao cap l a) (f : Fr S w w') (h1 : ¬ S bs) (h2 : l ≠ [] → ∀ b off, ao = some ⟨b, off, none⟩ → ¬ S b) : SR w' bs ao cap l a := by
  refine ⟨by rw [f.block bs h.lt h1]; exact h.blk, fun hl => ?_, h.le, h.lim, h.byt⟩
  obtain ⟨b, off, e, hc⟩ := h.seen hl
  exact ⟨b, off, e, fun j hj => f.cellv (hc j hj) (h2 hl b off e)⟩
theorem SR.drewN {w : World} {bs : Nat} {ao : Option Addr} {cap : Nat} {l : List Nat} {a : Nat} (h : SR w bs ao cap l a) (q : Nat) : SR (w.drewN q) bs ao cap l a :=
  h.kept ((Fr.refl (fun _ => False) _).drewN q) (fun h => h) (fun _ _ _ _ h => h)
theorem Fr.one (w : World) (b o : Nat) (u : Value) : Fr (fun k => k = b) w (w.setCell ⟨b, o, none⟩ u) := Fr.setCell (S := fun k => k = b) (Fr.refl _ w) (p := ⟨b, o, none⟩) (fun _ => rfl) u
theorem SR.moved {w : World} {bs : Nat} {ao : Option Addr} {cap : Nat} {l : List Nat} {a a' : Nat} {P : Int} (h : SR w bs ao cap l a) (hP : P = (a' : Int)) (hle : a' ≤ l.length) : SR (w.setCell ⟨bs, 1, none⟩ (.int .i64 P)) bs ao cap l a' := by
  subst hP
  refine ⟨two_set1 h.blk, fun hl => ?_, hle, h.lim, h.byt⟩
  obtain ⟨b, off, e, hc⟩ := h.seen hl
  exact ⟨b, off, e, fun j hj => (Fr.one w bs 1 _).cellv (hc j hj) (h.apart hl e)⟩

def lookV (l : List Nat) (a : Nat) : Int := match l[a]? with
  | none => -1
  | some c => (c : Int)
theorem lookV_end {l : List Nat} {a : Nat} (h : l.drop a = []) : lookV l a = -1 := by
  unfold lookV
  rw [List.getElem?_eq_none (by simpa using h)]
theorem lookV_cons {l r : List Nat} {a c : Nat} (h : l.drop a = c :: r) : lookV l a = (c : Int) ∧ a < l.length ∧ l.drop (a + 1) = r := by
  have hlt : a < l.length := by
    rcases Nat.lt_or_ge a l.length with h1 | h1
    · exact h1
    · rw [List.drop_eq_nil_of_le h1] at h; cases h
  rw [List.drop_eq_getElem_cons hlt] at h
  simp only [List.cons.injEq] at h
  refine ⟨?_, hlt, h.2⟩
  unfold lookV
  rw [List.getElem?_eq_getElem hlt, h.1]

set_option maxHeartbeats 1000000 in
theorem look_any (bs : Nat) (ao : Option Addr) (cap : Nat) (l : List Nat) (a : Nat) (w : World) (h : SR w bs ao cap l a) :
    Calls Tryd.prog 63 #[.pointer (some ⟨bs, 0, none⟩)] w fun e w' => e = .returned (.int .i64 (lookV l a)) ∧ ∃ q, w' = w.drewN q := by
  obtain ⟨c0, c1, cf⟩ := cell_of_two h.blk
  have hle := h.le
  have hlim := h.lim
  by_cases he : a = l.length
  · have hv : lookV l a = -1 := lookV_end (by rw [he]; simp)
    rw [hv]
    subst he
    clear h hv
    go_enter Tryd.func63, Tryd.ntmps63
    go_wp2_with fail
    go_quiet (fail)
    go_wp2_with fail
    go_ret
    exact ⟨rfl, _, rfl⟩
  · have hlt : a < l.length := by omega
    have hne : l ≠ [] := by intro e; rw [e] at hlt; simp at hlt
    obtain ⟨b, off, rfl, hc⟩ := h.seen hne
    have hca := hc a hlt
    have hv : lookV l a = ((l[a]?.getD 0 : Nat) : Int) := by unfold lookV; rw [List.getElem?_eq_getElem hlt]; rfl
    have hb : l[a]?.getD 0 < 256 := by rw [List.getElem?_eq_getElem hlt]; exact h.byt _ (List.getElem_mem _)
    have hn : ((a : Int) == (l.length : Int)) = false := by simp; omega
    rw [hv]
    generalize l[a]?.getD 0 = c at *
    generalize l.length = n at *
    clear h hv hc hne cf he
    go_enter Tryd.func63, Tryd.ntmps63
    go_wp2_with fail
    go_quiet (fail)
    go_wp2_with fail
    go_quiet (fail)
    go_wp2_with fail
    go_ret
    exact ⟨rfl, _, World.drewN_drewN _ _ _⟩

def whiteI (c : Int) : Bool := (decide (9 ≤ c) && decide (c ≤ 13)) || decide (c = 32)
def digitI (c : Int) : Bool := decide (48 ≤ c) && decide (c ≤ 57)
theorem isWhite_any (c : Int) (w : World) : Calls Tryd.prog 65 #[.int .i64 c] w fun e w' => e = .returned (.bool (whiteI c)) ∧ w' = w := by
  by_cases h1 : 9 ≤ c
  · by_cases h2 : c ≤ 13
    · have hv : whiteI c = true := by unfold whiteI; simp [h1, h2]
      rw [hv]
      go_enter Tryd.func65, Tryd.ntmps65
      go_wp2_with fail
      go_ret
      exact ⟨by simp, rfl⟩
    · by_cases h3 : c = 32
      · subst h3
        go_enter Tryd.func65, Tryd.ntmps65
        go_wp2_with fail
        go_ret
        exact ⟨rfl, rfl⟩
      · have hv : whiteI c = false := by unfold whiteI; simp [h2, h3]
        rw [hv]
        have h3b : (c == 32) = false := by simp [h3]
        go_enter Tryd.func65, Tryd.ntmps65
        go_wp2_with fail
        go_ret
        exact ⟨by simp, rfl⟩
  · have hv : whiteI c = false := by unfold whiteI; simp [h1]; omega
    have h3b : (c == 32) = false := by simp; omega
    rw [hv]
    go_enter Tryd.func65, Tryd.ntmps65
    go_wp2_with fail
    go_ret
    exact ⟨by simp, rfl⟩
theorem isDigit_any (c : Int) (w : World) : Calls Tryd.prog 62 #[.int .i64 c] w fun e w' => e = .returned (.bool (digitI c)) ∧ w' = w := by
  by_cases h1 : 48 ≤ c
  · go_enter Tryd.func62, Tryd.ntmps62
    go_wp2_with fail
    go_ret
    exact ⟨by simp [digitI, h1], rfl⟩
  · have hv : digitI c = false := by unfold digitI; rw [decide_eq_false h1]; rfl
    rw [hv]
    go_enter Tryd.func62, Tryd.ntmps62
    go_wp2_with fail
    go_ret
    exact ⟨rfl, rfl⟩
theorem whiteI_nat (c : Nat) : whiteI (c : Int) = white c := by
  unfold whiteI white
  rw [Bool.eq_iff_iff]; simp; omega
theorem digitI_nat (c : Nat) : digitI (c : Int) = digit c := by
  unfold digitI digit
  rw [Bool.eq_iff_iff]; simp; omega
theorem SR.byte {w : World} {bs : Nat} {ao : Option Addr} {cap : Nat} {l r : List Nat} {a c : Nat} (h : SR w bs ao cap l a) (he : l.drop a = c :: r) : c < 256 :=
  h.byt c (List.mem_of_mem_drop (by rw [he]; exact List.mem_cons_self ..))

set_option maxHeartbeats 3000000 in
theorem gap_any (bs : Nat) (ao : Option Addr) (cap : Nat) (l : List Nat) (a : Nat) (w : World) (h : SR w bs ao cap l a) :
    Calls Tryd.prog 61 #[.pointer (some ⟨bs, 0, none⟩)] w fun e w' => e = .returned (.tuple #[]) ∧ ∃ a', SR w' bs ao cap l a' ∧ l.drop a' = gapS false (l.drop a) ∧ Fr (fun k => k = bs) w w' := by
  have HS : Hid (SR w bs ao cap l a) := h
  clear h
  go_enter Tryd.func61, Tryd.ntmps61
  go_wp2_with fail
  obtain ⟨J0, HJ0⟩ : ∃ J : Nat → Act → World → Prop, Hid (∀ n f v, J n f v ↔ ∃ (a1 : Nat) (u1 u2 u3 u4 u5 u6 u7 u8 u9 u10 u11 u12 u13 u14 u15 u16 u17 u18 u19 u20 u21 u22 u23 u24 u25 u26 u27 u28 u29 u30 : Value), f = { tmps := #[.pointer (some ⟨bs, 0, none⟩), u1, u2, u3, u4, u5, u6, u7, u8, u9, u10, u11, u12, u13, u14, u15, u16, u17, u18, u19, u20, u21, u22, u23, u24, u25, u26, u27, u28, u29, u30], defers := [] } ∧ n = 3 * (l.drop a1).length + (if (l.drop a1).head? = some 35 then 1 else 0) ∧ SR v bs ao cap l a1 ∧ gapS false (l.drop a1) = gapS false (l.drop a) ∧ Fr (fun k => k = bs) w v) := ⟨_, fun _ _ _ => Iff.rfl⟩
  obtain ⟨J1, HJ1⟩ : ∃ J : Nat → Act → World → Prop, Hid (∀ n f v, J n f v ↔ ∃ (a1 : Nat) (u1 u2 u3 u4 u5 u6 u7 u8 u9 u10 u11 u12 u13 u14 u15 u16 u17 u18 u19 u20 u21 u22 u23 u24 u25 u26 u27 u28 u29 u30 : Value), f = { tmps := #[.pointer (some ⟨bs, 0, none⟩), u1, u2, u3, u4, u5, u6, u7, u8, u9, u10, u11, u12, u13, u14, u15, u16, u17, u18, u19, u20, u21, u22, u23, u24, u25, u26, u27, u28, u29, u30], defers := [] } ∧ n = 3 * (l.drop a1).length + (if (l.drop a1).head? = some 10 then 1 else 0) ∧ SR v bs ao cap l a1 ∧ gapS true (l.drop a1) = gapS false (l.drop a) ∧ Fr (fun k => k = bs) w v) := ⟨_, fun _ _ _ => Iff.rfl⟩
  refine scope_two 1 0 (by decide) J0 J1
    rfl rfl ?_ ?_ ?_
  · intro n f v hj
    obtain ⟨a1, u1, u2, u3, u4, u5, u6, u7, u8, u9, u10, u11, u12, u13, u14, u15, u16, u17, u18, u19, u20, u21, u22, u23, u24, u25, u26, u27, u28, u29, u30, rfl, hn, hs, hg, hf⟩ := (HJ0.out _ _ _).1 hj
    have HN : Hid (n = _) := hn
    clear hj hn
    have HS1 : Hid (SR v bs ao cap l a1) := hs
    have HG : Hid (gapS false (l.drop a1) = gapS false (l.drop a)) := hg
    have HF : Hid (Fr (fun k => k = bs) w v) := hf
    obtain ⟨c0, c1, cf⟩ := cell_of_two hs.blk
    have hle := hs.le
    have hlim := hs.lim
    clear hs hg hf
    go_wp2_with fail
    refine (look_any bs ao cap l a1 v HS1.out).mono ?_
    rintro e v1 ⟨rfl, q, rfl⟩
    have HS2 : Hid (SR (v.drewN q) bs ao cap l a1) := HS1.out.drewN q
    have HF2 : Hid (Fr (fun k => k = bs) w (v.drewN q)) := HF.out.drewN q
    generalize v.drewN q = v2 at *
    clear HS1 HF c0 c1 cf
    obtain ⟨c0, c1, cf⟩ := cell_of_two HS2.out.blk
    rcases hr : l.drop a1 with _ | ⟨c, r⟩
    · rw [lookV_end hr]
      have HE : Hid (l.drop a1 = []) := hr
      clear hr
      go_wp2_with fail
      refine (isWhite_any _ _).mono ?_
      rintro e v1 ⟨rfl, rfl⟩
      rw [show whiteI (-1) = false from rfl]
      go_wp2_with fail
      simp only [jumpsE]
      show bodyPost Tryd.prog Tryd.f61 _ Exit.ret _ _
      refine bodyPost_ret (results_none rfl _ _ _) rfl ?_
      refine ⟨rfl, a1, HS2.out, ?_, HF2.out⟩
      have := HG.out
      rw [HE.out] at this
      rw [HE.out, ← this]; rfl
    · obtain ⟨hv, hlt, hd⟩ := lookV_cons hr
      have hc := HS2.out.byte hr
      rw [hv]
      have HE : Hid (l.drop a1 = c :: r) := hr
      have HD : Hid (l.drop (a1 + 1) = r) := hd
      have HLT : Hid (a1 < l.length) := hlt
      clear hr hd hv
      by_cases h35 : c = 35
      · subst h35
        go_wp2_with fail
        go_step3
        refine Or.inr ⟨rfl, _, ?_, (HJ1.out _ _ _).2 ⟨a1, _, _, _, _, _, _, _, _, _, _, _, _, _, _, _, _, _, _, _, _, _, _, _, _, _, _, _, _, _, _, rfl, rfl, HS2.out, ?_, HF2.out⟩⟩
        · rw [HN.out, HE.out]; simp
        · have := HG.out
          rw [HE.out] at this ⊢
          rw [← this]; rfl
      · have h35b : ((c : Int) == 35) = false := by simp; omega
        go_wp2_with fail
        refine (isWhite_any _ _).mono ?_
        rintro e v1 ⟨rfl, rfl⟩
        rw [whiteI_nat]
        cases hw : white c
        · go_wp2_with fail
          simp only [jumpsE]
          show bodyPost Tryd.prog Tryd.f61 _ Exit.ret _ _
          refine bodyPost_ret (results_none rfl _ _ _) rfl ?_
          refine ⟨rfl, a1, HS2.out, ?_, HF2.out⟩
          have := HG.out
          rw [HE.out] at this
          rw [HE.out, ← this, gapS, if_neg h35, hw]; rfl
        · go_wp2_with fail
          go_step3
          refine Or.inl ⟨rfl, _, ?_, (HJ0.out _ _ _).2 ⟨a1 + 1, _, _, _, _, _, _, _, _, _, _, _, _, _, _, _, _, _, _, _, _, _, _, _, _, _, _, _, _, _, _, rfl, rfl, HS2.out.moved (by omega) HLT.out, ?_, HF2.out.setCell (fun _ => rfl) _⟩⟩
          · rw [HN.out, HE.out, HD.out]; simp only [List.length_cons]; split <;> split <;> omega
          · have := HG.out
            rw [HE.out, gapS, if_neg h35, hw] at this
            rw [HD.out]; exact this
  · intro n f v hj
    obtain ⟨a1, u1, u2, u3, u4, u5, u6, u7, u8, u9, u10, u11, u12, u13, u14, u15, u16, u17, u18, u19, u20, u21, u22, u23, u24, u25, u26, u27, u28, u29, u30, rfl, hn, hs, hg, hf⟩ := (HJ1.out _ _ _).1 hj
    have HN : Hid (n = _) := hn
    clear hj hn
    have HS1 : Hid (SR v bs ao cap l a1) := hs
    have HG : Hid (gapS true (l.drop a1) = gapS false (l.drop a)) := hg
    have HF : Hid (Fr (fun k => k = bs) w v) := hf
    have hle := hs.le
    have hlim := hs.lim
    clear hs hg hf
    go_wp2_with fail
    refine (look_any bs ao cap l a1 v HS1.out).mono ?_
    rintro e v1 ⟨rfl, q, rfl⟩
    have HS2 : Hid (SR (v.drewN q) bs ao cap l a1) := HS1.out.drewN q
    have HF2 : Hid (Fr (fun k => k = bs) w (v.drewN q)) := HF.out.drewN q
    generalize v.drewN q = v2 at *
    clear HS1 HF
    obtain ⟨c0, c1, cf⟩ := cell_of_two HS2.out.blk
    rcases hr : l.drop a1 with _ | ⟨c, r⟩
    · rw [lookV_end hr]
      have HE : Hid (l.drop a1 = []) := hr
      clear hr
      go_wp2_with fail
      simp only [jumpsE]
      show bodyPost Tryd.prog Tryd.f61 _ Exit.ret _ _
      refine bodyPost_ret (results_none rfl _ _ _) rfl ?_
      refine ⟨rfl, a1, HS2.out, ?_, HF2.out⟩
      have := HG.out
      rw [HE.out] at this
      rw [HE.out, ← this]; rfl
    · obtain ⟨hv, hlt, hd⟩ := lookV_cons hr
      have hc := HS2.out.byte hr
      rw [hv]
      have HE : Hid (l.drop a1 = c :: r) := hr
      have HD : Hid (l.drop (a1 + 1) = r) := hd
      have HLT : Hid (a1 < l.length) := hlt
      clear hr hd hv
      by_cases h10 : c = 10
      · subst h10
        go_wp2_with fail
        go_step3
        refine Or.inl ⟨rfl, _, ?_, (HJ0.out _ _ _).2 ⟨a1, _, _, _, _, _, _, _, _, _, _, _, _, _, _, _, _, _, _, _, _, _, _, _, _, _, _, _, _, _, _, rfl, rfl, HS2.out, ?_, HF2.out⟩⟩
        · rw [HN.out, HE.out]; simp
        · have := HG.out
          rw [HE.out] at this ⊢
          rw [← this]; rfl
      · have h10b : ((c : Int) == 10) = false := by simp; omega
        have hm1 : ((c : Int) == -1) = false := by simp
        go_wp2_with fail
        go_step3
        refine Or.inr ⟨rfl, _, ?_, (HJ1.out _ _ _).2 ⟨a1 + 1, _, _, _, _, _, _, _, _, _, _, _, _, _, _, _, _, _, _, _, _, _, _, _, _, _, _, _, _, _, _, rfl, rfl, HS2.out.moved (by omega) HLT.out, ?_, HF2.out.setCell (fun _ => rfl) _⟩⟩
        · rw [HN.out, HE.out, HD.out]; simp only [List.length_cons]; split <;> split <;> omega
        · have := HG.out
          rw [HE.out, gapS, if_neg h10] at this
          rw [HD.out]; exact this
  · intro k0
    exact wp_seq (wp_label (k0 _ _ _ ((HJ0.out _ _ _).2 ⟨a, _, _, _, _, _, _, _, _, _, _, _, _, _, _, _, _, _, _, _, _, _, _, _, _, _, _, _, _, _, _, rfl, rfl, HS.out, rfl, Fr.refl _ _⟩)))


end Go.Proofs.YtpfajkkjnobdlaaDoor
