/- The document's own answer of whole: a bit, a number, numbers. -/
import Derived.Test.YtllhekkclhcdbaaDoorKRdE
import Derived.Test.YtllhekkclhcdbaaDoorKRb5
import Derived.Test.YtllhekkclhcdbaaDoorKDc
import Derived.Deep.LoopGhost
import Derived.Deep.RegionHeld3
import Derived.Deep.Cut
namespace Go.Proofs.YtllhekkclhcdbaaDoor
open Go.RowKit

/-- A taker: the reference's decoder, where it stands in its procedure. -/
structure TkS (w : World) (bt br gt ct gs gz n base : Nat) (vb : Value) (B : List Nat) (s : De × Nat) (M : Nat) : Prop where
  rd : RdAt w br gt ct gs gz n vb B s.1
  tk : w.heap[bt]? = some (.cells #[.pointer (some ⟨br, 0, none⟩), .int .i64 (base : Int), .int .i64 (s.2 : Int), .int .i64 0] 111 (0, 0))
  ok : Eok B s.1
  v : s.2 < 512
  made : s.1.made ≤ M
  ne : bt ≠ br ∧ bt ≠ gt ∧ bt ≠ gs ∧ bt ≠ gz ∧ vb.ownBlock ≠ some bt
theorem TkS.kept {w w' : World} {bt br gt ct gs gz n base : Nat} {vb : Value} {B : List Nat} {s : De × Nat} {M : Nat} (h : TkS w bt br gt ct gs gz n base vb B s M) (f : Fr (fun _ => False) w w') : TkS w' bt br gt ct gs gz n base vb B s M :=
  ⟨h.rd.keptAll f, (f.block _ (lt_of_block h.tk) (fun h => h)).trans h.tk, h.ok, h.v, h.made, h.ne⟩
theorem four_cells {w : World} {b : Nat} {x0 x1 x2 x3 : Value} {t : TypeId} (h : w.heap[b]? = some (.cells #[x0, x1, x2, x3] t (0, 0))) : w.cell? ⟨b, 0, none⟩ = some x0 ∧ w.cell? ⟨b, 1, none⟩ = some x1 ∧ w.cell? ⟨b, 2, none⟩ = some x2 ∧ w.cell? ⟨b, 3, none⟩ = some x3 ∧ ∀ j, w.frozen? ⟨b, j, none⟩ = false := by
  refine ⟨?_, ?_, ?_, ?_, fun j => ?_⟩ <;> simp [World.cell?, World.frozen?, h]

set_option maxRecDepth 100000 in
set_option maxHeartbeats 4000000 in
theorem rbit_any (w : World) (bt br gt ct gs gz n base : Nat) (vb : Value) (B : List Nat) (s : De × Nat) (M : Nat) (h : TkS w bt br gt ct gs gz n base vb B s M) (hM : M < 16777216) (hbase : base ≤ 131072) :
    Calls Tryd.prog 60 #[.pointer (some ⟨bt, 0, none⟩)] w fun e w' => e = .returned (.int .i64 (getBit s.1 ((base + s.2 : Nat) : Int) : Nat)) ∧ TkS w' bt br gt ct gs gz n base vb B (getP B s.1 ((base + s.2 : Nat) : Int), passP 512 s.2 (getBit s.1 ((base + s.2 : Nat) : Int))) (M + 1) ∧ Fr (fun k => k = br ∨ k = gs ∨ k = gz ∨ k = bt) w w' := by
  obtain ⟨o, v⟩ := s
  have hv := h.v
  have hmade := h.made
  dsimp only at hv hmade ⊢
  have HH : Hid (TkS w bt br gt ct gs gz n base vb B (o, v) M) := h
  obtain ⟨bb, HBB⟩ : ∃ bb, Hid (bb = getBit o ((base + v : Nat) : Int)) := ⟨_, rfl⟩
  have hbb : bb < 2 := by rw [HBB.out]; exact getBit_lt _ _
  rw [← HBB.out]
  have HG : Hid (∀ (w' : World) (ii : Int), ii = ((base + v : Nat) : Int) → Fr (fun _ => False) w w' → Calls Tryd.prog 74 #[.pointer (some ⟨br, 0, none⟩), .int .i64 ii] w' fun e w'' => e = .returned (.tuple #[.int .i64 (bb : Nat), .int .i64 0]) ∧ RdAt w'' br gt ct gs gz n vb B (getP B o ((base + v : Nat) : Int)) ∧ RdStep br gs gz w' w'') := fun w' ii e f => by
    have := rget_any w' br gt ct gs gz n vb B o (h.rd.keptAll f) h.ok (by omega) ii (by omega)
    rw [e] at this ⊢
    rw [HBB.out]
    exact this
  have HN : Hid (∀ w', Calls Tryd.prog 49 #[.int .i64 (v : Int), .int .i64 (bb : Int)] w' fun e w'' => e = .returned (.int .i64 (passP 512 v bb : Nat)) ∧ w'' = w') := fun w' => next5_at w' v bb hv hbb
  have HC : Hid (∀ w', Fr (fun k => k = br ∨ k = gs ∨ k = gz) w w' → w'.heap[bt]? = some (.cells #[.pointer (some ⟨br, 0, none⟩), .int .i64 (base : Int), .int .i64 (v : Int), .int .i64 0] 111 (0, 0))) := fun w' f => by
    rw [f.block _ (lt_of_block h.tk) (by have := h.ne; omega)]; exact h.tk
  have HS : Hid (∀ w', Fr (fun k => k = br ∨ k = gs ∨ k = gz) w w' → w'.cell? ⟨bt, 0, none⟩ = some (.pointer (some ⟨br, 0, none⟩)) ∧ w'.cell? ⟨bt, 1, none⟩ = some (.int .i64 (base : Int)) ∧ w'.cell? ⟨bt, 2, none⟩ = some (.int .i64 (v : Int))) := fun w' f => by
    obtain ⟨a, b, c, _⟩ := four_cells (HC.out w' f)
    exact ⟨a, b, c⟩
  have HKP : Hid (Eok B (getP B o ((base + v : Nat) : Int)) ∧ (getP B o ((base + v : Nat) : Int)).made = o.made + 1 ∧ passP 512 v bb < 512) := ⟨getP_ok (show Eok B o from h.ok) _ (by omega), rfl, passP_lt (by decide) (by decide)⟩
  obtain ⟨t0, t1, t2, t3, tf⟩ := four_cells h.tk
  clear h tf
  have hw9 : IntKind.i64.wrap ((base : Int) + (v : Int)) = (base : Int) + (v : Int) := by rw [IntKind.wrap_i64]; omega
  go_enter Tryd.func60, Tryd.ntmps60
  go_upto_region 3 with (fail)
  go_region_held3 (fun w' => w'.cell? ⟨bt, 0, none⟩ = some (.pointer (some ⟨br, 0, none⟩)) ∧ w'.cell? ⟨bt, 1, none⟩ = some (.int .i64 (base : Int)) ∧ w'.cell? ⟨bt, 2, none⟩ = some (.int .i64 (v : Int))) (first | exact HS.out _ (Fr.refl _ _).drew | exact HS.out _ hf5.out) (first | (go_at_call 74; refine (HG.out _ _ (by omega) (Fr.refl _ _).drew).mono ?_; rintro e w5 ⟨rfl, hr5, hs5⟩; (have hf5 : Hid (Fr (fun k => k = br ∨ k = gs ∨ k = gz) w w5) := (Fr.refl (fun k => k = br ∨ k = gs ∨ k = gz) w).drew.trans hs5 (fun _ _ h => h)); (have hr5' : Hid (RdAt w5 br gt ct gs gz n vb B (getP B o ((base + v : Nat) : Int))) := hr5); clear hr5 hs5))
  clear t0 t1 t2 t3
  obtain ⟨t0, t1, t2, t3, tf⟩ := four_cells (HC.out _ hf5.out)
  have tf3 := tf 3
  have hb6 : (w5.setCell ⟨bt, 3, none⟩ (.int .i64 0)).heap[bt]? = some (.cells #[.pointer (some ⟨br, 0, none⟩), .int .i64 (base : Int), .int .i64 (v : Int), .int .i64 0] 111 (0, 0)) := by simp [World.setCell, Array.getElem?_modify, HC.out _ hf5.out]
  have HF6 : Hid (Fr (fun k => k = br ∨ k = gs ∨ k = gz ∨ k = bt) w (w5.setCell ⟨bt, 3, none⟩ (.int .i64 0))) := (hf5.out.mono (fun k _ h => by omega)).setCell (p := ⟨bt, 3, none⟩) (fun _ => Or.inr (Or.inr (Or.inr rfl))) _
  have HR6 : Hid (RdAt (w5.setCell ⟨bt, 3, none⟩ (.int .i64 0)) br gt ct gs gz n vb B (getP B o ((base + v : Nat) : Int))) := by
    have hn := HH.out.ne
    exact hr5'.out.kept ((Fr.refl (fun k => k = bt) w5).setCell (p := ⟨bt, 3, none⟩) (fun _ => rfl) _) (fun e => hn.1 e.symm) (fun e => hn.2.1 e.symm) (fun e => hn.2.2.1 e.symm) (fun e => hn.2.2.2.1 e.symm) (fun k hk e => hn.2.2.2.2 (e ▸ hk))
  have HB6 : Hid ((w5.setCell ⟨bt, 3, none⟩ (.int .i64 0)).heap[bt]? = some (.cells #[.pointer (some ⟨br, 0, none⟩), .int .i64 (base : Int), .int .i64 (v : Int), .int .i64 0] 111 (0, 0))) := hb6
  obtain ⟨r0, r1, r2, r3, rf⟩ := four_cells hb6
  have rf2 := rf 2
  clear tf rf hb6
  go_wp2_with fail
  generalize w5.setCell ⟨bt, 3, none⟩ (.int .i64 0) = w6 at *
  refine (HN.out _).mono ?_
  rintro e w7 ⟨rfl, rfl⟩
  go_wp2_with fail
  go_ret
  have hn := HH.out.ne
  refine ⟨rfl, ⟨?_, ?_, HKP.out.1, HKP.out.2.2, by show (getP B o ((base + v : Nat) : Int)).made ≤ _; rw [HKP.out.2.1]; omega, hn⟩, HF6.out.setCell (p := ⟨bt, 2, none⟩) (fun _ => Or.inr (Or.inr (Or.inr rfl))) _⟩
  · exact HR6.out.kept ((Fr.refl (fun k => k = bt) _).setCell (p := ⟨bt, 2, none⟩) (fun _ => rfl) _) (fun e => hn.1 e.symm) (fun e => hn.2.1 e.symm) (fun e => hn.2.2.1 e.symm) (fun e => hn.2.2.2.1 e.symm) (fun k hk e => hn.2.2.2.2 (e ▸ hk))
  · simp [World.setCell, Array.getElem?_modify, HB6.out]

theorem takeD_next {B : List Nat} {base : Nat} {s : De × Nat} (k : Nat) : (takeD B base 512 (k + 1) s 0).1 = 2 * (takeD B base 512 k s 0).1 + getBit (takeD B base 512 k s 0).2.1 ((base + (takeD B base 512 k s 0).2.2 : Nat) : Int) ∧ (takeD B base 512 (k + 1) s 0).2 = (getP B (takeD B base 512 k s 0).2.1 ((base + (takeD B base 512 k s 0).2.2 : Nat) : Int), passP 512 (takeD B base 512 k s 0).2.2 (getBit (takeD B base 512 k s 0).2.1 ((base + (takeD B base 512 k s 0).2.2 : Nat) : Int))) := by
  rw [takeD_snoc]; exact ⟨rfl, rfl⟩
/-- A bit more of those that were taken. -/
theorem rbit_take (w : World) (bt br gt ct gs gz n base : Nat) (vb : Value) (B : List Nat) (s : De × Nat) (M k : Nat) (h : TkS w bt br gt ct gs gz n base vb B (takeD B base 512 k s 0).2 M) (hM : M < 16777216) (hbase : base ≤ 131072) :
    Calls Tryd.prog 60 #[.pointer (some ⟨bt, 0, none⟩)] w fun e w' => ∃ b : Nat, b < 2 ∧ e = .returned (.int .i64 (b : Int)) ∧ (takeD B base 512 (k + 1) s 0).1 = 2 * (takeD B base 512 k s 0).1 + b ∧ TkS w' bt br gt ct gs gz n base vb B (takeD B base 512 (k + 1) s 0).2 (M + 1) ∧ Fr (fun k => k = br ∨ k = gs ∨ k = gz ∨ k = bt) w w' := by
  obtain ⟨e1, e2⟩ := takeD_next (B := B) (base := base) (s := s) k
  refine (rbit_any w bt br gt ct gs gz n base vb B _ M h hM hbase).mono ?_
  rintro e w' ⟨rfl, ht, hf⟩
  refine ⟨_, getBit_lt _ _, rfl, e1, ?_, hf⟩
  rw [e2]; exact ht

theorem pow_two (k : Nat) : 0 < 2 ^ k := Nat.pow_pos (by decide)
theorem rowH_pow : ∀ k, k < 5 → rowH k + 2 = 2 ^ (k + 1) := by decide
theorem rowX_min : ∀ k, k < 5 → rowX k = k + 1 := by decide
/-- Ones up to a nought tell the row. -/
theorem headK_zero {B : List Nat} {base : Nat} {s : De × Nat} {k : Nat} (hk : k < 5) (h : ∀ j, j ≤ k → (takeD B base 512 j s 0).1 + 1 = 2 ^ j) (h0 : (takeD B base 512 (k + 1) s 0).1 = 2 * (takeD B base 512 k s 0).1) : headK B base 512 s = k := by
  refine headK_at (by omega) (fun j hj => ?_) (Or.inr ?_)
  · have e : hdN (j + 1) = j + 1 := by unfold hdN; omega
    rw [e]
    have h1 := h (j + 1) (by omega)
    have h2 := rowH_pow j (by omega)
    omega
  · have e : hdN (k + 1) = k + 1 := by unfold hdN; omega
    rw [e, h0]
    have h1 := h k (Nat.le_refl _)
    have h2 := rowH_pow k hk
    rw [Nat.pow_succ] at h2
    omega
theorem headK_five {B : List Nat} {base : Nat} {s : De × Nat} (h : ∀ j, j ≤ 5 → (takeD B base 512 j s 0).1 + 1 = 2 ^ j) : headK B base 512 s = 5 := by
  refine headK_at (by omega) (fun j hj => ?_) (Or.inl rfl)
  have e : hdN (j + 1) = j + 1 := by unfold hdN; omega
  rw [e]
  have h1 := h (j + 1) (by omega)
  have h2 := rowH_pow j (by omega)
  omega

set_option maxRecDepth 100000 in
set_option maxHeartbeats 8000000 in
theorem rget5_any (w : World) (br gt ct gs gz n base : Nat) (vb : Value) (B : List Nat) (o : De) (h : RdAt w br gt ct gs gz n vb B o) (hok : Eok B o) (hm : o.made + 38 ≤ 16777216) (hbase : base ≤ 131072) (z : Int) (hz : z = base) :
    Calls Tryd.prog 36 #[.pointer (some ⟨br, 0, none⟩), .int .i64 z] w fun e w' => e = .returned (.tuple #[.agg #[.int .i64 (joinI (numD B base (o, 1)).1 (numD B base (o, 1)).2.1), .bool (joinN (numD B base (o, 1)).1 (numD B base (o, 1)).2.1)], .int .i64 (joinE (numD B base (o, 1)).2.1)]) ∧ RdAt w' br gt ct gs gz n vb B (numD B base (o, 1)).2.2.1 ∧ Fr (fun k => k = br ∨ k = gs ∨ k = gz) w w' := by
  subst hz
  obtain ⟨W4, HW4⟩ : ∃ W4, Hid (W4 = (((w.alloc (.cells #[.int .i64 0, .bool false] 46)).alloc (.cells #[.pointer (some ⟨br, 0, none⟩), .int .i64 (base : Int), .int .i64 1, .int .i64 0] 111)).alloc (.cells #[.int .i64 0, .int .i64 4, .int .i64 20, .int .i64 84, .int .i64 340, .int .i64 4436] 3)).alloc (.cells #[.int .i64 2, .int .i64 4, .int .i64 6, .int .i64 8, .int .i64 12, .int .i64 32] 3)) := ⟨_, rfl⟩
  have HF4 : Hid (Fr (fun _ => False) w W4) := by rw [HW4.out]; exact ((((Fr.refl _ _).alloc _).alloc _).alloc _).alloc _
  have hlts := h.lt
  have hlt2 : gt < w.heap.size ∧ gs < w.heap.size ∧ gz < w.heap.size ∧ ∀ k, vb.ownBlock = some k → k < w.heap.size := ⟨(h.tab.lt gt rfl).2, (h.st.lt gs rfl).2, (h.bt.lt gz rfl).2, fun k hk => (h.bs.lt k hk).2⟩
  have HB4 : Hid (W4.heap[w.heap.size]? = some (.cells #[.int .i64 0, .bool false] 46 (0, 0)) ∧ W4.heap[w.heap.size + 1]? = some (.cells #[.pointer (some ⟨br, 0, none⟩), .int .i64 (base : Int), .int .i64 1, .int .i64 0] 111 (0, 0)) ∧ TAt W4 (w.heap.size + 1 + 1) (w.heap.size + 1 + 1 + 1)) := by
    rw [HW4.out]
    have q2 := heap_alloc_new (w.alloc (.cells #[.int .i64 0, .bool false] 46)) (.cells #[.pointer (some ⟨br, 0, none⟩), .int .i64 (base : Int), .int .i64 1, .int .i64 0] 111)
    have q1 := heap_alloc_new w (.cells #[.int .i64 0, .bool false] 46)
    have q3 := tAt_new ((w.alloc (.cells #[.int .i64 0, .bool false] 46)).alloc (.cells #[.pointer (some ⟨br, 0, none⟩), .int .i64 (base : Int), .int .i64 1, .int .i64 0] 111))
    simp only [World.size_alloc] at q1 q2 q3
    refine ⟨?_, ?_, q3⟩
    · rw [Below.heap_alloc _ _ _ (by simp only [World.size_alloc]; omega), Below.heap_alloc _ _ _ (by simp only [World.size_alloc]; omega), Below.heap_alloc _ _ _ (by simp only [World.size_alloc]; omega)]; exact q1
    · rw [Below.heap_alloc _ _ _ (by simp only [World.size_alloc]; omega), Below.heap_alloc _ _ _ (by simp only [World.size_alloc]; omega)]; exact q2
  have HT0 : Hid (TkS W4 (w.heap.size + 1) br gt ct gs gz n base vb B (takeD B base 512 0 (o, 1) 0).2 o.made) := ⟨h.keptAll HF4.out, HB4.out.2.1, hok, by show 1 < 512; decide, Nat.le_refl _, by omega, by omega, by omega, by omega, fun e => by have := hlt2.2.2.2 _ e; omega⟩
  have HNO : Hid (∀ W', Fr (fun k => k = br ∨ k = gs ∨ k = gz ∨ k = w.heap.size + 1) W4 W' → PAt W' w.heap.size 0 false ∧ TAt W' (w.heap.size + 1 + 1) (w.heap.size + 1 + 1 + 1) ∧ Fr (fun k => k = br ∨ k = gs ∨ k = gz) w W') := fun W' f => by
    refine ⟨⟨(f.block _ (lt_of_block HB4.out.1) (by omega)).trans HB4.out.1⟩, HB4.out.2.2.kept f (by omega) (by omega), ?_⟩
    refine (HF4.out.mono (fun _ _ h => h.elim)).trans f (fun k hk e => by omega)
  have HBT : Hid (∀ (w' : World) (s : De × Nat) (k M : Nat), M < 16777216 → TkS w' (w.heap.size + 1) br gt ct gs gz n base vb B (takeD B base 512 k s 0).2 M → Calls Tryd.prog 60 #[.pointer (some ⟨w.heap.size + 1, 0, none⟩)] w' fun e w'' => ∃ b : Nat, b < 2 ∧ e = .returned (.int .i64 (b : Int)) ∧ (takeD B base 512 (k + 1) s 0).1 = 2 * (takeD B base 512 k s 0).1 + b ∧ TkS w'' (w.heap.size + 1) br gt ct gs gz n base vb B (takeD B base 512 (k + 1) s 0).2 (M + 1) ∧ Fr (fun k => k = br ∨ k = gs ∨ k = gz ∨ k = w.heap.size + 1) w' w'') := fun w' s k M hM ht => rbit_take w' (w.heap.size + 1) br gt ct gs gz n base vb B s M k ht hM hbase
  have HNL : Hid (br < w.heap.size ∧ gt < w.heap.size ∧ gs < w.heap.size ∧ gz < w.heap.size ∧ ∀ k, vb.ownBlock = some k → k < w.heap.size) := ⟨hlts, hlt2⟩
  clear h hok hlts hlt2
  go_enter Tryd.func36, Tryd.ntmps36
  go_wp2_with fail
  rw [← HW4.out]
  refine (HBT.out _ (o, 1) 0 o.made (by omega) HT0.out).mono ?_
  rintro e w1 ⟨sg, hsg, rfl, hsv, ht1, hf1⟩
  obtain ⟨s1, HS1⟩ : ∃ s1, Hid (s1 = (takeD B base 512 (0 + 1) (o, 1) 0).2) := ⟨_, rfl⟩
  have HSG : Hid ((takeD B base 512 1 (o, 1) 0).1 = sg) := by
    show (takeD B base 512 (0 + 1) (o, 1) 0).1 = sg
    rw [hsv]
    show 2 * 0 + sg = sg
    omega
  rw [← HS1.out] at ht1
  have HT1 : Hid (TkS w1 (w.heap.size + 1) br gt ct gs gz n base vb B (takeD B base 512 0 s1 0).2 (o.made + 1)) := ht1
  have HF1 : Hid (Fr (fun k => k = br ∨ k = gs ∨ k = gz ∨ k = w.heap.size + 1) W4 w1) := hf1
  clear ht1 hf1 hsv HT0
  go_wp2_with fail
  go_loopg [10] 5 (fun q kk wr => ∃ k : Nat, k + q = 5 ∧ kk = .int .i64 (k : Int) ∧ Hid (∀ j, j ≤ k → (takeD B base 512 j s1 0).1 + 1 = 2 ^ j) ∧ TkS wr (w.heap.size + 1) br gt ct gs gz n base vb B (takeD B base 512 k s1 0).2 (o.made + 1 + k) ∧ Fr (fun k => k = br ∨ k = gs ∨ k = gz ∨ k = w.heap.size + 1) W4 wr)
  case atStart => exact ⟨0, rfl, rfl, fun j hj => by obtain rfl : j = 0 := by omega
                                                     rfl, HT1.out, HF1.out⟩
  case round =>
    obtain ⟨k, hkq, rfl, HON, htk, hfk⟩ := hrel
    have HTK : Hid (TkS wr (w.heap.size + 1) br gt ct gs gz n base vb B (takeD B base 512 k s1 0).2 (o.made + 1 + k)) := htk
    have HFK : Hid (Fr (fun k => k = br ∨ k = gs ∨ k = gz ∨ k = w.heap.size + 1) W4 wr) := hfk
    clear htk hfk
    by_cases hk5 : k < 5
    · have d5 : decide ((k : Int) < 5) = true := decide_eq_true (by omega)
      have hk5' : (k : Int) < 5 := by omega
      go_wp2_with fail
      refine (HBT.out _ s1 k _ (by omega) HTK.out).mono ?_
      rintro e w2 ⟨b, hb, rfl, hv2, ht2, hf2⟩
      have HT2 : Hid (TkS w2 (w.heap.size + 1) br gt ct gs gz n base vb B (takeD B base 512 (k + 1) s1 0).2 (o.made + 1 + k + 1)) := ht2
      have HF2 : Hid (Fr (fun k => k = br ∨ k = gs ∨ k = gz ∨ k = w.heap.size + 1) W4 w2) := HFK.out.trans hf2 (fun _ _ h => h)
      have HV2 : Hid ((takeD B base 512 (k + 1) s1 0).1 = 2 * (takeD B base 512 k s1 0).1 + b) := hv2
      clear ht2 hf2 hv2
      by_cases hb1 : b = 1
      · subst hb1
        have HON2 : Hid (∀ j, j ≤ k + 1 → (takeD B base 512 j s1 0).1 + 1 = 2 ^ j) := fun j hj => by
          by_cases e : j = k + 1
          · subst e
            have h1 := HON.out k (Nat.le_refl _)
            rw [HV2.out, Nat.pow_succ]
            omega
          · exact HON.out j (by omega)
        have he1 : (((1 : Nat) : Int) == 1) = true := by decide
        go_wp2_with fail
        go_roundg (5 - (k + 1))
        case measure => omega
        case rel => exact ⟨k + 1, by omega, by go_num, HON2.out, HT2.out, HF2.out⟩
      · have hb0 : b = 0 := by omega
        subst hb0
        have he1 : (((0 : Nat) : Int) == 1) = false := by decide
        have HHK : Hid (headK B base 512 s1 = k) := headK_zero hk5 HON.out HV2.out
        have HT3 : Hid (TkS w2 (w.heap.size + 1) br gt ct gs gz n base vb B (takeD B base 512 (rowX k) s1 0).2 (o.made + 1 + 5)) := by
          rw [rowX_min k hk5]
          have := HT2.out
          exact ⟨this.rd, this.tk, this.ok, this.v, by have h6 := this.made; omega, this.ne⟩
        have HTX : Hid _ := HT3.out
        have HFX : Hid _ := HF2.out
        clear HON HV2 HTK HFK HT2 HF2 HT3
        have hk6 : k < 6 := by omega
        obtain ⟨s2, HS2⟩ : ∃ s2, Hid (s2 = (takeD B base 512 (rowX k) s1 0).2) := ⟨_, rfl⟩
        have htk := HTX.out
        rw [← HS2.out] at htk
        have HTK2 : Hid (TkS w2 (w.heap.size + 1) br gt ct gs gz n base vb B (takeD B base 512 0 s2 0).2 (o.made + 1 + 5)) := htk
        have HFK2 : Hid (Fr (fun k => k = br ∨ k = gs ∨ k = gz ∨ k = w.heap.size + 1) W4 w2) := HFX.out
        clear htk
        have hrw : rowW k ≤ 32 := (rowK_small hk6).2.1
        have hrl : rowL k ≤ 4436 := (rowK_small hk6).2.2
        have HCW : Hid (∀ W', Fr (fun k => k = br ∨ k = gs ∨ k = gz ∨ k = w.heap.size + 1) W4 W' → W'.cell? ⟨w.heap.size + 1 + 1 + 1, k, none⟩ = some (.int .i64 (rowW k : Int)) ∧ W'.cell? ⟨w.heap.size + 1 + 1, k, none⟩ = some (.int .i64 (rowL k : Int))) := fun W' f => ⟨(HNO.out W' f).2.1.w_ k hk6, (HNO.out W' f).2.1.f k hk6⟩
        have HAM : Hid (∀ x, (takeD B base 512 (rowW k) s2 0).1 = x → (numD B base (o, 1)).1 = sg ∧ (numD B base (o, 1)).2.1 = rowL k + x ∧ (numD B base (o, 1)).2.2 = (takeD B base 512 (rowW k) s2 0).2) := fun x hx => by
          have e1 : (takeD B base 512 1 (o, 1) 0).2 = s1 := HS1.out.symm
          unfold numD
          dsimp only
          rw [e1, HHK.out, ← HS2.out, hx]
          exact ⟨HSG.out, rfl, rfl⟩
        generalize hRW : rowW k = RW at *
        generalize hRL : rowL k = RL at *
        clear hRW hRL
        have dk0 : (0 : Int) ≤ (k : Int) := by omega
        have dk6 : (k : Int) < 6 := by omega
        go_wp2_with fail
        go_loopg [11, 12] RW (fun q mm ii wr => ∃ i x : Nat, i + q = RW ∧ ii = .int .i64 (i : Int) ∧ mm = .int .i64 (x : Int) ∧ Hid ((takeD B base 512 i s2 0).1 = x) ∧ TkS wr (w.heap.size + 1) br gt ct gs gz n base vb B (takeD B base 512 i s2 0).2 (o.made + 1 + 5 + i) ∧ Fr (fun k => k = br ∨ k = gs ∨ k = gz ∨ k = w.heap.size + 1) W4 wr)
        case atStart => exact ⟨0, 0, by omega, rfl, rfl, rfl, HTK2.out, HFK2.out⟩
        case round =>
          obtain ⟨i, x, hiq, rfl, rfl, HX, hti, hfi⟩ := hrel
          have HTI : Hid (TkS wr (w.heap.size + 1) br gt ct gs gz n base vb B (takeD B base 512 i s2 0).2 (o.made + 1 + 5 + i)) := hti
          have HFI : Hid (Fr (fun k => k = br ∨ k = gs ∨ k = gz ∨ k = w.heap.size + 1) W4 wr) := hfi
          clear hti hfi
          have hx2 : x < 2 ^ i := by
            rw [← HX.out]
            obtain ⟨o2, v2⟩ := s2
            exact takeD_lt base 512 o2 v2 i
          have hx3 : x < 4294967296 := Nat.lt_of_lt_of_le hx2 (Nat.le_trans (Nat.pow_le_pow_right (by decide) (show i ≤ 32 by omega)) (by decide))
          clear hx2
          obtain ⟨cw, cl⟩ := HCW.out _ HFI.out
          by_cases hi : i < RW
          · have di : decide (i < RW) = true := decide_eq_true hi
            have hw8 : IntKind.i64.wrap (2 * (x : Int)) = 2 * (x : Int) := by rw [IntKind.wrap_i64]; omega
            go_wp2_with fail
            refine (HBT.out _ s2 i _ (by omega) HTI.out).mono ?_
            rintro e w2 ⟨b, hb, rfl, hv2, ht2, hf2⟩
            have HT2 : Hid (TkS w2 (w.heap.size + 1) br gt ct gs gz n base vb B (takeD B base 512 (i + 1) s2 0).2 (o.made + 1 + 5 + (i + 1))) := ht2
            have HF2 : Hid (Fr (fun k => k = br ∨ k = gs ∨ k = gz ∨ k = w.heap.size + 1) W4 w2) := HFI.out.trans hf2 (fun _ _ h => h)
            have HV2 : Hid ((takeD B base 512 (i + 1) s2 0).1 = 2 * x + b) := by show _ = _; rw [hv2, HX.out]
            have hw7 : IntKind.i64.wrap (2 * (x : Int) + (b : Int)) = 2 * (x : Int) + (b : Int) := by rw [IntKind.wrap_i64]; omega
            clear ht2 hf2 hv2 cw cl
            go_wp2_with fail
            go_roundg (RW - (i + 1))
            case measure => omega
            case rel => exact ⟨i + 1, 2 * x + b, by omega, by go_num, by push_cast; rfl, HV2.out, HT2.out, HF2.out⟩
          · have di : decide (i < RW) = false := decide_eq_false hi
            have hiw : i = RW := by omega
            subst hiw
            obtain ⟨a1, a2, a3⟩ := HAM.out x HX.out
            obtain ⟨am, ham⟩ : ∃ am, am = RL + x := ⟨_, rfl⟩
            have hlt : am < 4294971733 := by omega
            have hw5 : IntKind.i64.wrap ((x : Int) + (RL : Int)) = (am : Int) := by rw [IntKind.wrap_i64]; omega
            have HPr : Hid (PAt wr w.heap.size 0 false) := (HNO.out _ HFI.out).1
            have HRD : Hid (RdAt wr br gt ct gs gz n vb B (takeD B base 512 i s2 0).2.1) := HTI.out.rd
            have HZ : Hid (∀ (V : Int) (N : Bool), RdAt ((wr.setCell ⟨w.heap.size, 0, none⟩ (.int .i64 V)).setCell ⟨w.heap.size, 1, none⟩ (.bool N)) br gt ct gs gz n vb B (numD B base (o, 1)).2.2.1 ∧ Fr (fun k => k = br ∨ k = gs ∨ k = gz) w ((wr.setCell ⟨w.heap.size, 0, none⟩ (.int .i64 V)).setCell ⟨w.heap.size, 1, none⟩ (.bool N))) := fun V N => by
              have f2 : Fr (fun k => k = w.heap.size) wr ((wr.setCell ⟨w.heap.size, 0, none⟩ (.int .i64 V)).setCell ⟨w.heap.size, 1, none⟩ (.bool N)) := Fr.set2 (Fr.refl _ _) _ _
              have f3 := (HNO.out _ HFI.out).2.2
              have hl := HNL.out
              refine ⟨?_, f3.trans f2 (fun k hk e => by omega)⟩
              rw [a3]
              exact HRD.out.kept f2 (by omega) (by omega) (by omega) (by omega) (fun k hk e => by have := hl.2.2.2.2 k hk; omega)
            rw [← ham] at a2
            have HTE := (show Hid (wr.cell? ⟨w.heap.size + 1, 3, none⟩ = some (.int .i64 0)) from (four_cells HTI.out.tk).2.2.2.1)
            have te := HTE.out
            have HA12 : Hid ((numD B base (o, 1)).1 = sg ∧ (numD B base (o, 1)).2.1 = am) := ⟨a1, a2⟩
            clear HX ham a1 a2 a3 HTI hx3
            by_cases hbig : 2147483648 < am
            · have db : decide (2147483648 < (am : Int)) = true := decide_eq_true (by omega)
              have hbig' : (2147483648 : Int) < (am : Int) := by omega
              have HJ : Hid (joinI sg am = 0 ∧ joinN sg am = false ∧ joinE am = 50) := ⟨if_pos hbig, if_pos hbig, if_pos hbig⟩
              obtain ⟨p0, p1, g0, g1⟩ := HPr.out.cells
              go_wp2_with fail
              refine bodyPost_ret (v := .tuple #[.agg #[.int .i64 (0), .bool false], .int .i64 50]) (by obtain ⟨m0, m1, _, _⟩ := (HPr.out.set (0) false).cells; simp [results, Tryd.results36, go_sem, m0, m1]) rfl ?_
              exact ⟨by rw [HA12.out.1, HA12.out.2, HJ.out.1, HJ.out.2.1, HJ.out.2.2], HZ.out _ _⟩
            · have db : decide (2147483648 < (am : Int)) = false := decide_eq_false (by omega)
              by_cases hs1 : sg = 1
              · subst hs1
                have e1 : (((1 : Nat) : Int) == 1) = true := by decide
                by_cases ha0 : am = 0
                · subst ha0
                  have e2 : (((0 : Nat) : Int) == 0) = true := by decide
                  have HJ : Hid (joinI 1 0 = 0 ∧ joinN 1 0 = true ∧ joinE 0 = 0) := by show _ ∧ _ ∧ _; decide
                  obtain ⟨p0, p1, g0, g1⟩ := HPr.out.cells
                  go_wp2_with fail
                  refine bodyPost_ret (v := .tuple #[.agg #[.int .i64 (0), .bool true], .int .i64 0]) (by obtain ⟨m0, m1, _, _⟩ := (HPr.out.set (0) true).cells; simp [results, Tryd.results36, go_sem, m0, m1]) rfl ?_
                  exact ⟨by rw [HA12.out.1, HA12.out.2, HJ.out.1, HJ.out.2.1, HJ.out.2.2], HZ.out _ _⟩
                · have e2 : ((am : Int) == 0) = false := by rw [beq_eq_false_iff_ne]; omega
                  have HJ : Hid (joinI 1 am = -(am : Int) ∧ joinN 1 am = false ∧ joinE am = 0) := by
                    refine ⟨?_, ?_, if_neg hbig⟩
                    · unfold joinI; rw [if_neg hbig, if_neg (by decide)]
                    · unfold joinN; rw [if_neg hbig, if_neg (by decide)]; exact decide_eq_false ha0
                  have hwn : IntKind.i64.wrap (-(am : Int)) = -(am : Int) := by rw [IntKind.wrap_i64]; omega
                  obtain ⟨p0, p1, g0, g1⟩ := HPr.out.cells
                  go_wp2_with fail
                  refine bodyPost_ret (v := .tuple #[.agg #[.int .i64 (-(am : Int)), .bool false], .int .i64 0]) (by obtain ⟨m0, m1, _, _⟩ := (HPr.out.set (-(am : Int)) false).cells; simp [results, Tryd.results36, go_sem, m0, m1]) rfl ?_
                  exact ⟨by rw [HA12.out.1, HA12.out.2, HJ.out.1, HJ.out.2.1, HJ.out.2.2], HZ.out _ _⟩
              · have hs0 : sg = 0 := by omega
                subst hs0
                have e1 : (((0 : Nat) : Int) == 1) = false := by decide
                have HJ : Hid (joinI 0 am = (am : Int) ∧ joinN 0 am = false ∧ joinE am = 0) := by
                  refine ⟨?_, ?_, if_neg hbig⟩
                  · unfold joinI; rw [if_neg hbig, if_pos rfl]
                  · unfold joinN; rw [if_neg hbig, if_pos rfl]
                obtain ⟨p0, p1, g0, g1⟩ := HPr.out.cells
                go_wp2_with fail
                refine bodyPost_ret (v := .tuple #[.agg #[.int .i64 ((am : Int)), .bool false], .int .i64 0]) (by obtain ⟨m0, m1, _, _⟩ := (HPr.out.set ((am : Int)) false).cells; simp [results, Tryd.results36, go_sem, m0, m1]) rfl ?_
                exact ⟨by rw [HA12.out.1, HA12.out.2, HJ.out.1, HJ.out.2.1, HJ.out.2.2], HZ.out _ _⟩

    · have d5 : decide ((k : Int) < 5) = false := decide_eq_false (by omega)
      have hk5' : ¬ (k : Int) < 5 := by omega
      have HHK : Hid (headK B base 512 s1 = k) := by
        have hk : k = 5 := by omega
        subst hk
        exact headK_five HON.out
      have HTX : Hid (TkS wr (w.heap.size + 1) br gt ct gs gz n base vb B (takeD B base 512 (rowX k) s1 0).2 (o.made + 1 + 5)) := by
        have hk : k = 5 := by omega
        subst hk
        exact HTK.out
      have HFX : Hid (Fr (fun k => k = br ∨ k = gs ∨ k = gz ∨ k = w.heap.size + 1) W4 wr) := HFK.out
      clear HON HTK HFK
      have hk6 : k < 6 := by omega
      obtain ⟨s2, HS2⟩ : ∃ s2, Hid (s2 = (takeD B base 512 (rowX k) s1 0).2) := ⟨_, rfl⟩
      have htk := HTX.out
      rw [← HS2.out] at htk
      have HTK2 : Hid (TkS wr (w.heap.size + 1) br gt ct gs gz n base vb B (takeD B base 512 0 s2 0).2 (o.made + 1 + 5)) := htk
      have HFK2 : Hid (Fr (fun k => k = br ∨ k = gs ∨ k = gz ∨ k = w.heap.size + 1) W4 wr) := HFX.out
      clear htk
      have hrw : rowW k ≤ 32 := (rowK_small hk6).2.1
      have hrl : rowL k ≤ 4436 := (rowK_small hk6).2.2
      have HCW : Hid (∀ W', Fr (fun k => k = br ∨ k = gs ∨ k = gz ∨ k = w.heap.size + 1) W4 W' → W'.cell? ⟨w.heap.size + 1 + 1 + 1, k, none⟩ = some (.int .i64 (rowW k : Int)) ∧ W'.cell? ⟨w.heap.size + 1 + 1, k, none⟩ = some (.int .i64 (rowL k : Int))) := fun W' f => ⟨(HNO.out W' f).2.1.w_ k hk6, (HNO.out W' f).2.1.f k hk6⟩
      have HAM : Hid (∀ x, (takeD B base 512 (rowW k) s2 0).1 = x → (numD B base (o, 1)).1 = sg ∧ (numD B base (o, 1)).2.1 = rowL k + x ∧ (numD B base (o, 1)).2.2 = (takeD B base 512 (rowW k) s2 0).2) := fun x hx => by
        have e1 : (takeD B base 512 1 (o, 1) 0).2 = s1 := HS1.out.symm
        unfold numD
        dsimp only
        rw [e1, HHK.out, ← HS2.out, hx]
        exact ⟨HSG.out, rfl, rfl⟩
      generalize hRW : rowW k = RW at *
      generalize hRL : rowL k = RL at *
      clear hRW hRL
      have dk0 : (0 : Int) ≤ (k : Int) := by omega
      have dk6 : (k : Int) < 6 := by omega
      go_wp2_with fail
      go_loopg [11, 12] RW (fun q mm ii wr => ∃ i x : Nat, i + q = RW ∧ ii = .int .i64 (i : Int) ∧ mm = .int .i64 (x : Int) ∧ Hid ((takeD B base 512 i s2 0).1 = x) ∧ TkS wr (w.heap.size + 1) br gt ct gs gz n base vb B (takeD B base 512 i s2 0).2 (o.made + 1 + 5 + i) ∧ Fr (fun k => k = br ∨ k = gs ∨ k = gz ∨ k = w.heap.size + 1) W4 wr)
      case atStart => exact ⟨0, 0, by omega, rfl, rfl, rfl, HTK2.out, HFK2.out⟩
      case round =>
        obtain ⟨i, x, hiq, rfl, rfl, HX, hti, hfi⟩ := hrel
        have HTI : Hid (TkS wr (w.heap.size + 1) br gt ct gs gz n base vb B (takeD B base 512 i s2 0).2 (o.made + 1 + 5 + i)) := hti
        have HFI : Hid (Fr (fun k => k = br ∨ k = gs ∨ k = gz ∨ k = w.heap.size + 1) W4 wr) := hfi
        clear hti hfi
        have hx2 : x < 2 ^ i := by
          rw [← HX.out]
          obtain ⟨o2, v2⟩ := s2
          exact takeD_lt base 512 o2 v2 i
        have hx3 : x < 4294967296 := Nat.lt_of_lt_of_le hx2 (Nat.le_trans (Nat.pow_le_pow_right (by decide) (show i ≤ 32 by omega)) (by decide))
        clear hx2
        obtain ⟨cw, cl⟩ := HCW.out _ HFI.out
        by_cases hi : i < RW
        · have di : decide (i < RW) = true := decide_eq_true hi
          have hw8 : IntKind.i64.wrap (2 * (x : Int)) = 2 * (x : Int) := by rw [IntKind.wrap_i64]; omega
          go_wp2_with fail
          refine (HBT.out _ s2 i _ (by omega) HTI.out).mono ?_
          rintro e w2 ⟨b, hb, rfl, hv2, ht2, hf2⟩
          have HT2 : Hid (TkS w2 (w.heap.size + 1) br gt ct gs gz n base vb B (takeD B base 512 (i + 1) s2 0).2 (o.made + 1 + 5 + (i + 1))) := ht2
          have HF2 : Hid (Fr (fun k => k = br ∨ k = gs ∨ k = gz ∨ k = w.heap.size + 1) W4 w2) := HFI.out.trans hf2 (fun _ _ h => h)
          have HV2 : Hid ((takeD B base 512 (i + 1) s2 0).1 = 2 * x + b) := by show _ = _; rw [hv2, HX.out]
          have hw7 : IntKind.i64.wrap (2 * (x : Int) + (b : Int)) = 2 * (x : Int) + (b : Int) := by rw [IntKind.wrap_i64]; omega
          clear ht2 hf2 hv2 cw cl
          go_wp2_with fail
          go_roundg (RW - (i + 1))
          case measure => omega
          case rel => exact ⟨i + 1, 2 * x + b, by omega, by go_num, by push_cast; rfl, HV2.out, HT2.out, HF2.out⟩
        · have di : decide (i < RW) = false := decide_eq_false hi
          have hiw : i = RW := by omega
          subst hiw
          obtain ⟨a1, a2, a3⟩ := HAM.out x HX.out
          obtain ⟨am, ham⟩ : ∃ am, am = RL + x := ⟨_, rfl⟩
          have hlt : am < 4294971733 := by omega
          have hw5 : IntKind.i64.wrap ((x : Int) + (RL : Int)) = (am : Int) := by rw [IntKind.wrap_i64]; omega
          have HPr : Hid (PAt wr w.heap.size 0 false) := (HNO.out _ HFI.out).1
          have HRD : Hid (RdAt wr br gt ct gs gz n vb B (takeD B base 512 i s2 0).2.1) := HTI.out.rd
          have HZ : Hid (∀ (V : Int) (N : Bool), RdAt ((wr.setCell ⟨w.heap.size, 0, none⟩ (.int .i64 V)).setCell ⟨w.heap.size, 1, none⟩ (.bool N)) br gt ct gs gz n vb B (numD B base (o, 1)).2.2.1 ∧ Fr (fun k => k = br ∨ k = gs ∨ k = gz) w ((wr.setCell ⟨w.heap.size, 0, none⟩ (.int .i64 V)).setCell ⟨w.heap.size, 1, none⟩ (.bool N))) := fun V N => by
            have f2 : Fr (fun k => k = w.heap.size) wr ((wr.setCell ⟨w.heap.size, 0, none⟩ (.int .i64 V)).setCell ⟨w.heap.size, 1, none⟩ (.bool N)) := Fr.set2 (Fr.refl _ _) _ _
            have f3 := (HNO.out _ HFI.out).2.2
            have hl := HNL.out
            refine ⟨?_, f3.trans f2 (fun k hk e => by omega)⟩
            rw [a3]
            exact HRD.out.kept f2 (by omega) (by omega) (by omega) (by omega) (fun k hk e => by have := hl.2.2.2.2 k hk; omega)
          rw [← ham] at a2
          have HTE := (show Hid (wr.cell? ⟨w.heap.size + 1, 3, none⟩ = some (.int .i64 0)) from (four_cells HTI.out.tk).2.2.2.1)
          have te := HTE.out
          have HA12 : Hid ((numD B base (o, 1)).1 = sg ∧ (numD B base (o, 1)).2.1 = am) := ⟨a1, a2⟩
          clear HX ham a1 a2 a3 HTI hx3
          by_cases hbig : 2147483648 < am
          · have db : decide (2147483648 < (am : Int)) = true := decide_eq_true (by omega)
            have hbig' : (2147483648 : Int) < (am : Int) := by omega
            have HJ : Hid (joinI sg am = 0 ∧ joinN sg am = false ∧ joinE am = 50) := ⟨if_pos hbig, if_pos hbig, if_pos hbig⟩
            obtain ⟨p0, p1, g0, g1⟩ := HPr.out.cells
            go_wp2_with fail
            refine bodyPost_ret (v := .tuple #[.agg #[.int .i64 (0), .bool false], .int .i64 50]) (by obtain ⟨m0, m1, _, _⟩ := (HPr.out.set (0) false).cells; simp [results, Tryd.results36, go_sem, m0, m1]) rfl ?_
            exact ⟨by rw [HA12.out.1, HA12.out.2, HJ.out.1, HJ.out.2.1, HJ.out.2.2], HZ.out _ _⟩
          · have db : decide (2147483648 < (am : Int)) = false := decide_eq_false (by omega)
            by_cases hs1 : sg = 1
            · subst hs1
              have e1 : (((1 : Nat) : Int) == 1) = true := by decide
              by_cases ha0 : am = 0
              · subst ha0
                have e2 : (((0 : Nat) : Int) == 0) = true := by decide
                have HJ : Hid (joinI 1 0 = 0 ∧ joinN 1 0 = true ∧ joinE 0 = 0) := by show _ ∧ _ ∧ _; decide
                obtain ⟨p0, p1, g0, g1⟩ := HPr.out.cells
                go_wp2_with fail
                refine bodyPost_ret (v := .tuple #[.agg #[.int .i64 (0), .bool true], .int .i64 0]) (by obtain ⟨m0, m1, _, _⟩ := (HPr.out.set (0) true).cells; simp [results, Tryd.results36, go_sem, m0, m1]) rfl ?_
                exact ⟨by rw [HA12.out.1, HA12.out.2, HJ.out.1, HJ.out.2.1, HJ.out.2.2], HZ.out _ _⟩
              · have e2 : ((am : Int) == 0) = false := by rw [beq_eq_false_iff_ne]; omega
                have HJ : Hid (joinI 1 am = -(am : Int) ∧ joinN 1 am = false ∧ joinE am = 0) := by
                  refine ⟨?_, ?_, if_neg hbig⟩
                  · unfold joinI; rw [if_neg hbig, if_neg (by decide)]
                  · unfold joinN; rw [if_neg hbig, if_neg (by decide)]; exact decide_eq_false ha0
                have hwn : IntKind.i64.wrap (-(am : Int)) = -(am : Int) := by rw [IntKind.wrap_i64]; omega
                obtain ⟨p0, p1, g0, g1⟩ := HPr.out.cells
                go_wp2_with fail
                refine bodyPost_ret (v := .tuple #[.agg #[.int .i64 (-(am : Int)), .bool false], .int .i64 0]) (by obtain ⟨m0, m1, _, _⟩ := (HPr.out.set (-(am : Int)) false).cells; simp [results, Tryd.results36, go_sem, m0, m1]) rfl ?_
                exact ⟨by rw [HA12.out.1, HA12.out.2, HJ.out.1, HJ.out.2.1, HJ.out.2.2], HZ.out _ _⟩
            · have hs0 : sg = 0 := by omega
              subst hs0
              have e1 : (((0 : Nat) : Int) == 1) = false := by decide
              have HJ : Hid (joinI 0 am = (am : Int) ∧ joinN 0 am = false ∧ joinE am = 0) := by
                refine ⟨?_, ?_, if_neg hbig⟩
                · unfold joinI; rw [if_neg hbig, if_pos rfl]
                · unfold joinN; rw [if_neg hbig, if_pos rfl]
              obtain ⟨p0, p1, g0, g1⟩ := HPr.out.cells
              go_wp2_with fail
              refine bodyPost_ret (v := .tuple #[.agg #[.int .i64 ((am : Int)), .bool false], .int .i64 0]) (by obtain ⟨m0, m1, _, _⟩ := (HPr.out.set ((am : Int)) false).cells; simp [results, Tryd.results36, go_sem, m0, m1]) rfl ?_
              exact ⟨by rw [HA12.out.1, HA12.out.2, HJ.out.1, HJ.out.2.1, HJ.out.2.2], HZ.out _ _⟩


end Go.Proofs.YtllhekkclhcdbaaDoor
