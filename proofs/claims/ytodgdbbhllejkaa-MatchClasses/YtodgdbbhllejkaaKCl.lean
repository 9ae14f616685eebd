/- The classes begun so far, in memory; 'sizeOf', 'isNear'. -/
import Derived.Test.YtodgdbbhllejkaaKOw
import Derived.Deep.RegionHeld3
import Derived.Deep.Light
import Derived.Deep.LoopGhost
import Derived.BigQuiet
namespace Go.Proofs.Ytodgdbbhllejkaa
open Go.RowKit Go.Maps

/-- Is the bitmap of this size? -/
def szB (A : Nat → Bp) (r x y : Nat) : Bool := decide ((A r).x = (x : Int)) && decide ((A r).y = (y : Int))

/-- The classes' bitmaps: the struct bc, its row rv, their words U. -/
structure ClR (w : World) (base bc bm t : Nat) (A : Nat → Bp) (R : List Nat) (rv : Value) (U : Nat → Value) : Prop where
  blk : w.heap[bc]? = some (.cells #[.float .f64 t, rv, .map (some bm)] 60 (0, 0))
  reps : w.ownsRow base 48 3 rv R.length (repCells A U R R.length)
  words : ∀ c, c < R.length → w.ownsRow base 23 1 (U c) (A (R.getD c 0)).l.length (wordCells (A (R.getD c 0)).l)
  wsep : ∀ c c' g, c < R.length → c' < R.length → c ≠ c' → (U c).ownBlock = some g → (U c').ownBlock ≠ some g
/-- The map bm from sizes to the classes' numbers. -/
structure ClM (w : World) (base bm : Nat) (A : Nat → Bp) (R : List Nat) (m : Nat) (D : DataW Value) (V : Nat → Nat → Value) : Prop where
  map : w.ownsMap Try.prog 77 heldR bm m D
  val : ∀ x y, x ≤ 1048576 → y ≤ 1048576 → D.atKey (kS x y) (.held (.slice none 0 0)) = .held (V x y)
  row : ∀ x y, w.ownsRow base 3 1 (V x y) (ofSz (szB A) R x y).length (intCells (ofSz (szB A) R x y))
  vsep : ∀ x y x' y' g, (x, y) ≠ (x', y') → (V x y).ownBlock = some g → (V x' y').ownBlock ≠ some g
/-- The classes begun so far. -/
structure Cl (w : World) (base bc bm t : Nat) (A : Nat → Bp) (R : List Nat) (rv : Value) (U : Nat → Value) (m : Nat) (D : DataW Value) (V : Nat → Nat → Value) : Prop where
  r : ClR w base bc bm t A R rv U
  m : ClM w base bm A R m D V

variable {w w' : World} {base bc bm t m : Nat} {A : Nat → Bp} {R : List Nat} {rv : Value} {U : Nat → Value} {D : DataW Value} {V : Nat → Nat → Value}

theorem ClR.kept {S : Nat → Prop} (h : ClR w base bc bm t A R rv U) (f : Fr S w w') (h1 : ¬ S bc) (h2 : ∀ k, rv.ownBlock = some k → ¬ S k) (h3 : ∀ c k, c < R.length → (U c).ownBlock = some k → ¬ S k) : ClR w' base bc bm t A R rv U :=
  ⟨by rw [f.block bc (lt_of_block h.blk) h1]; exact h.blk, row_kept h.reps f h2, fun c hc => row_kept (h.words c hc) f (fun k hk => h3 c k hc hk), h.wsep⟩
theorem ClM.kept {S : Nat → Prop} (h : ClM w base bm A R m D V) (f : Fr S w w') (h2 : ¬ S bm) (h3 : ∀ x y k, (V x y).ownBlock = some k → ¬ S k) : ClM w' base bm A R m D V := by
  have hlt := h.map.lt
  obtain ⟨es, cl, hbk, F, hs, hD⟩ := h.map
  exact ⟨⟨es, cl, (f.block bm hlt h2).trans hbk, F, hs, hD⟩, h.val, fun x y => row_kept (h.row x y) f (fun k hk => h3 x y k hk), h.vsep⟩
theorem Cl.kept {S : Nat → Prop} (h : Cl w base bc bm t A R rv U m D V) (f : Fr S w w') (h1 : ¬ S bc) (h2 : ¬ S bm) (h3 : ∀ k, base ≤ k → ¬ S k) : Cl w' base bc bm t A R rv U m D V :=
  ⟨h.r.kept f h1 (fun k hk => h3 k (h.r.reps.lt k hk).1) (fun c k hc hk => h3 k ((h.r.words c hc).lt k hk).1), h.m.kept f h2 (fun x y k hk => h3 k ((h.m.row x y).lt k hk).1)⟩
theorem Cl.cells (h : Cl w base bc bm t A R rv U m D V) : w.cell? ⟨bc, 0, none⟩ = some (.float .f64 t) ∧ w.cell? ⟨bc, 1, none⟩ = some rv ∧ w.cell? ⟨bc, 2, none⟩ = some (.map (some bm)) := by
  obtain ⟨a, b, c, _⟩ := cell_of_three h.r.blk
  exact ⟨a, b, c⟩
/-- A row's block is no block of another type. -/
theorem row_not_cells {b base e s n tt : Nat} {v : Value} {xs : List Value} {cs : Array Value} {fz : Nat × Nat} (h : w.ownsRow base e s v n xs) (hb : w.heap[b]? = some (.cells cs tt fz)) (hne : e ≠ tt) : v.ownBlock ≠ some b := by
  intro hv
  rcases h.2 with ⟨rfl, _⟩ | ⟨g1, c1, cur, rfl, _, hg1, _⟩
  · simp [Value.ownBlock] at hv
  · simp [Value.ownBlock] at hv
    subst hv
    rw [hb] at hg1
    simp at hg1
    exact hne hg1.2.1.symm

def updU (U : Nat → Value) (n : Nat) (v : Value) : Nat → Value := fun c => if c = n then v else U c

set_option maxRecDepth 100000 in
set_option maxHeartbeats 1000000 in
theorem sizeOf_any (x y : Int) (v : Value) (w : World) :
    Calls Try.prog 48 #[.agg #[.int .i64 x, .int .i64 y, v]] w fun e w' => e = .returned (.agg #[.int .i64 x, .int .i64 y]) ∧ Fr (fun _ => False) w w' := by
  have HF : Hid (Fr (fun _ => False) w (w.alloc (.cells #[.int .i64 x, .int .i64 y, v] 48))) := (Fr.refl _ _).alloc _
  obtain ⟨c0, c1, c2⟩ := cells3_of (x := .int .i64 x) (y := .int .i64 y) (v := v) (Fr.refl (fun _ => False) (w.alloc (.cells #[.int .i64 x, .int .i64 y, v] 48)))
  go_enter Try.func48, Try.ntmps48
  go_wp2_with fail
  obtain ⟨m0, m1⟩ : ((w.alloc (.cells #[.int .i64 x, .int .i64 y, v] 48)).alloc (.cells #[.int .i64 x, .int .i64 y] 77)).cell? ⟨w.heap.size + 1, 0, none⟩ = some (.int .i64 x) ∧ ((w.alloc (.cells #[.int .i64 x, .int .i64 y, v] 48)).alloc (.cells #[.int .i64 x, .int .i64 y] 77)).cell? ⟨w.heap.size + 1, 1, none⟩ = some (.int .i64 y) := by
    have h := heap_alloc_new (w.alloc (.cells #[.int .i64 x, .int .i64 y, v] 48)) (.cells #[.int .i64 x, .int .i64 y] 77)
    rw [World.size_alloc] at h
    constructor
    · unfold World.cell?; simp only [h]; rfl
    · unfold World.cell?; simp only [h]; rfl
  refine bodyPost_ret (v := .agg #[.int .i64 x, .int .i64 y]) (by simp [results, Try.results48, go_sem, m0, m1]) rfl ?_
  exact ⟨rfl, HF.out.alloc _⟩

set_option maxRecDepth 100000 in
set_option maxHeartbeats 4000000 in
theorem isNear_any (c : Nat) (b : Bp) (vb : Value) (w : World) (h : Cl w base bc bm t A R rv U m D V) (hc : c < R.length) (hR : R.length ≤ 4096) (ha : Good (A (R.getD c 0))) (hb : Good b) (sb : Seen w vb b.l) (hx : (A (R.getD c 0)).x = b.x) (hy : (A (R.getD c 0)).y = b.y) :
    Calls Try.prog 49 #[.pointer (some ⟨bc, 0, none⟩), .int .i64 (c : Int), .agg #[.int .i64 b.x, .int .i64 b.y, vb]] w fun e w' => e = .returned (.bool (nrB t (A (R.getD c 0)) b)) ∧ Fr (fun _ => False) w w' := by
  have HCL : Hid (∀ w', Fr (fun _ => False) w w' → Cl w' base bc bm t A R rv U m D V) := fun w' f => h.kept f (fun h => h) (fun h => h) (fun _ _ h => h)
  obtain ⟨gr, cr, hrv, -, -, -⟩ := row_form h.r.reps (by omega)
  subst hrv
  have HCE : Hid (∀ w', Fr (fun _ => False) w w' → w'.cell? ⟨bc, 0, none⟩ = some (.float .f64 t) ∧ w'.cell? ⟨bc, 1, none⟩ = some (.slice (some ⟨gr, 0, none⟩) R.length cr) ∧ w'.cell? ⟨gr, c * 3, none⟩ = some (.int .i64 (A (R.getD c 0)).x) ∧ w'.cell? ⟨gr, c * 3 + 1, none⟩ = some (.int .i64 (A (R.getD c 0)).y) ∧ w'.cell? ⟨gr, c * 3 + 2, none⟩ = some (U c)) := fun w' f => by
    have hk := HCL.out w' f
    obtain ⟨a1, a2, _⟩ := hk.cells
    obtain ⟨r1, r2, r3⟩ := repCells_at A U R R.length c hc
    exact ⟨a1, a2, (hk.r.reps.cellAt (c * 3) (by omega)).trans r1, (hk.r.reps.cellAt (c * 3 + 1) (by omega)).trans r2, (hk.r.reps.cellAt (c * 3 + 2) (by omega)).trans r3⟩
  have HU : Hid (∀ w', Fr (fun _ => False) w w' → Calls Try.prog 25 #[.agg #[.int .i64 (A (R.getD c 0)).x, .int .i64 (A (R.getD c 0)).y, U c], .agg #[.int .i64 b.x, .int .i64 b.y, vb]] w' fun e w'' => ∃ x, e = .returned (.tuple #[.float .f64 x, .int .i64 0]) ∧ leB x t = nrB t (A (R.getD c 0)) b ∧ Fr (fun _ => False) w' w'') := fun w' f => by
    refine (unlike_bp (U c) vb ha hb (Seen.of_row ((HCL.out w' f).r.words c hc) ?_) (sb.kept f)).mono ?_
    · obtain ⟨W, H, _, _, g1, g2, g3, e, _⟩ := ha.vb
      have := size_facts g1 g2 g3
      rw [e, length_render]; omega
    · rintro e w'' ⟨x, he, hx', hf⟩
      refine ⟨x, he, ?_, hf⟩
      have := hx' t
      rw [hx, hy] at this
      simpa using this
  clear h sb ha hb hx hy
  obtain ⟨aU, cU, hUc⟩ : ∃ aU cU, U c = .slice aU (A (R.getD c 0)).l.length cU := own_slice ((HCL.out w (Fr.refl _ _)).r.words c hc)
  rw [hUc] at HU HCE
  clear HCL hUc
  generalize (A (R.getD c 0)).l.length = nU at *
  generalize nrB t (A (R.getD c 0)) b = res at *
  generalize (A (R.getD c 0)).x = ax at *
  generalize (A (R.getD c 0)).y = ay at *
  generalize b.x = bx at *
  generalize b.y = by' at *
  generalize R.length = nR at *
  have HA : Hid (Fr (fun _ => False) w (w.alloc (.cells #[.int .i64 bx, .int .i64 by', vb] 48))) := (Fr.refl _ _).alloc _
  have HBX : Hid (∀ w', Fr (fun _ => False) (w.alloc (.cells #[.int .i64 bx, .int .i64 by', vb] 48)) w' → w'.cell? ⟨w.heap.size, 0, none⟩ = some (.int .i64 bx) ∧ w'.cell? ⟨w.heap.size, 1, none⟩ = some (.int .i64 by') ∧ w'.cell? ⟨w.heap.size, 2, none⟩ = some vb) := fun w' hf => cells3_of hf
  obtain ⟨c0, c1, c2⟩ := HBX.out _ (Fr.refl _ _)
  obtain ⟨d0, d1, d2, d3, d4⟩ := HCE.out _ HA.out
  have hd : decide (c < nR) = true := decide_eq_true hc
  go_enter Try.func49, Try.ntmps49
  go_wp2_with fail
  have HS : Hid (∀ w', Fr (fun _ => False) (w.alloc (.cells #[.int .i64 bx, .int .i64 by', vb] 48)) w' → (w'.cell? ⟨w.heap.size, 0, none⟩ = some (.int .i64 bx) ∧ w'.cell? ⟨w.heap.size, 1, none⟩ = some (.int .i64 by') ∧ w'.cell? ⟨w.heap.size, 2, none⟩ = some vb) ∧ w'.cell? ⟨bc, 0, none⟩ = some (.float .f64 t) ∧ w'.cell? ⟨bc, 1, none⟩ = some (.slice (some ⟨gr, 0, none⟩) nR cr) ∧ w'.cell? ⟨gr, c * 3, none⟩ = some (.int .i64 ax) ∧ w'.cell? ⟨gr, c * 3 + 1, none⟩ = some (.int .i64 ay) ∧ w'.cell? ⟨gr, c * 3 + 2, none⟩ = some (.slice aU nU cU)) := fun w' hf => ⟨HBX.out w' hf, HCE.out w' (HA.out.trans hf (fun _ _ h => h))⟩
  clear HBX HCE
  generalize w.alloc (.cells #[.int .i64 bx, .int .i64 by', vb] 48) = w0 at *
  go_region_held3 (fun w' => (w'.cell? ⟨w.heap.size, 0, none⟩ = some (.int .i64 bx) ∧ w'.cell? ⟨w.heap.size, 1, none⟩ = some (.int .i64 by') ∧ w'.cell? ⟨w.heap.size, 2, none⟩ = some vb) ∧ w'.cell? ⟨bc, 0, none⟩ = some (.float .f64 t) ∧ w'.cell? ⟨bc, 1, none⟩ = some (.slice (some ⟨gr, 0, none⟩) nR cr) ∧ w'.cell? ⟨gr, c * 3, none⟩ = some (.int .i64 ax) ∧ w'.cell? ⟨gr, c * 3 + 1, none⟩ = some (.int .i64 ay) ∧ w'.cell? ⟨gr, c * 3 + 2, none⟩ = some (.slice aU nU cU)) (first | exact HS.out _ (Fr.refl _ _).drew | exact HS.out _ hf3') (first | (go_at_call 25; refine (HU.out _ (HA.out.trans (Fr.refl _ _).drew (fun _ _ h => h))).mono ?_; rintro e w3 ⟨x, rfl, hx, hf3⟩; (have hf3' : Fr (fun _ => False) w0 w3 := (Fr.refl _ _).drew.trans hf3 (fun _ _ h => h))))
  all_goals
    have HF3 : Hid (Fr (fun _ => False) w0 w3) := hf3'
    have hle : (FloatKind.f64.format.order x t == some Ordering.lt || FloatKind.f64.format.order x t == some Ordering.eq) = res := by rw [o_le]; exact hx
    clear hf3 hf3' c0 c1 c2 d0 d1 d2 d3 d4 hx
    obtain ⟨⟨c0, c1, c2⟩, d0, d1, d2, d3, d4⟩ := HS.out _ HF3.out
    go_wp2_with fail
    all_goals (go_ret; exact ⟨rfl, HA.out.trans HF3.out (fun _ _ h => h)⟩)
end Go.Proofs.Ytodgdbbhllejkaa
