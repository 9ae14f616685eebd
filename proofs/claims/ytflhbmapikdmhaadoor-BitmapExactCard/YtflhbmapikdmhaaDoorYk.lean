/- What the law's loop leans on: cells of both rows, answers of both sides. -/
import Derived.Test.YtflhbmapikdmhaaDoorYm
import Derived.Test.YtflhbmapikdmhaaDoorWakes
import Derived.Test.YtflhbmapikdmhaaDoorTurn
import Derived.Test.YtflhbmapikdmhaaDoorMirror
import Derived.Test.YtflhbmapikdmhaaDoorRef
namespace Go.Proofs.YtflhbmapikdmhaaDoor
set_option maxRecDepth 100000
open Go.RowKit

theorem Bo.ptr {S : Nat → Prop} {w w' : World} {lb lc n : Nat} {u : Value} {M : Nat → Mp} {R : Nat → Rw} (h : Bo w (.slice (some ⟨lb, 0, none⟩) n lc) u n M R) (f : Fr S w w') (hs : ¬ S lb) {i : Nat} (hi : i < n) : w'.cell? ⟨lb, i, none⟩ = some (.pointer (some ⟨(M i).b, 0, none⟩)) := by
  have h1 := row_kept h.l.row f (fun k hk e => hs (by simp only [Value.ownBlock, Option.some.injEq] at hk; rw [hk]; exact e))
  rw [h1.cellAt i (by omega)]
  exact tabC_get hi
theorem Bo.ref {S : Nat → Prop} {w w' : World} {rb rc n : Nat} {v : Value} {M : Nat → Mp} {R : Nat → Rw} (h : Bo w v (.slice (some ⟨rb, 0, none⟩) n rc) n M R) (f : Fr S w w') (hs : ¬ S rb) {i : Nat} (hi : i < n) : w'.cell? ⟨rb, i * 3, none⟩ = some (.int .i64 ((R i).W : Int)) ∧ w'.cell? ⟨rb, i * 3 + 1, none⟩ = some (.int .i64 ((R i).H : Int)) ∧ w'.cell? ⟨rb, i * 3 + 2, none⟩ = some (.slice (some ⟨(R i).g, 0, none⟩) ((R i).H * stride (R i).W) (R i).cap) := by
  have h1 := row_kept h.r.row f (fun k hk e => hs (by simp only [Value.ownBlock, Option.some.injEq] at hk; rw [hk]; exact e))
  refine ⟨?_, ?_, ?_⟩
  · rw [h1.cellAt (i * 3) (by omega)]
    refine (tabC_get (by omega)).trans ?_
    show some (rowV (R (i * 3 / 3)) (i * 3 % 3)) = _
    rw [show i * 3 / 3 = i by omega, show i * 3 % 3 = 0 by omega]; rfl
  · rw [h1.cellAt (i * 3 + 1) (by omega)]
    refine (tabC_get (by omega)).trans ?_
    show some (rowV (R ((i * 3 + 1) / 3)) ((i * 3 + 1) % 3)) = _
    rw [show (i * 3 + 1) / 3 = i by omega, show (i * 3 + 1) % 3 = 1 by omega]; rfl
  · rw [h1.cellAt (i * 3 + 2) (by omega)]
    refine (tabC_get (by omega)).trans ?_
    show some (rowV (R ((i * 3 + 2) / 3)) ((i * 3 + 2) % 3)) = _
    rw [show (i * 3 + 2) / 3 = i by omega, show (i * 3 + 2) % 3 = 2 by omega]; rfl
theorem Bo.lbs {w : World} {lb lc rb rc n : Nat} {M : Nat → Mp} {R : Nat → Rw} (h : Bo w (.slice (some ⟨lb, 0, none⟩) n lc) (.slice (some ⟨rb, 0, none⟩) n rc) n M R) : lb < w.heap.size ∧ rb < w.heap.size ∧ lb ≠ rb ∧ ∀ j, j < n → lb ≠ (M j).g ∧ rb ≠ (M j).g ∧ lb ≠ (R j).g ∧ rb ≠ (R j).g := by
  refine ⟨(h.l.row.lt lb rfl).2, (h.r.row.lt rb rfl).2, fun e => own_ne h.l.row h.r.row (by decide) (by rw [e]; rfl), fun j hj => ?_⟩
  obtain ⟨a, b, c, d⟩ := h.vg hj
  exact ⟨fun e => a (by rw [e]; rfl), fun e => b (by rw [e]; rfl), fun e => c (by rw [e]; rfl), fun e => d (by rw [e]; rfl)⟩
theorem Ag.pix {n : Nat} {M : Nat → Mp} {R : Nat → Rw} (h : Ag n M R) (t : Nat) (ht : t < n) (P : Nat → Nat → Bool) : Ag n (updF M t { M t with P := P }) (updF R t { R t with P := P }) := fun j hj => by
  by_cases e : j = t
  · subst e; rw [updF_same, updF_same]; exact ⟨(h j hj).1, (h j hj).2.1, rfl⟩
  · rw [updF_other M _ e, updF_other R _ e]; exact h j hj
theorem Ag.set {n : Nat} {M : Nat → Mp} {R : Nat → Rw} (h : Ag n M R) (t : Nat) (m : Mp) (r : Rw) (e1 : m.W = r.W) (e2 : m.H = r.H) (e3 : m.P = r.P) : Ag n (updF M t m) (updF R t r) := fun j hj => by
  by_cases e : j = t
  · subst e; rw [updF_same, updF_same]; exact ⟨e1, e2, e3⟩
  · rw [updF_other M _ e, updF_other R _ e]; exact h j hj
theorem Fs.pix {w : World} {v u : Value} {n : Nat} {M : Nat → Mp} {R : Nat → Rw} (h : Fs w v u n M R) (t : Nat) (P Q : Nat → Nat → Bool) : Fs w v u n (updF M t { M t with P := P }) (updF R t { R t with P := Q }) := by
  refine ⟨h.v, h.u, fun j hj => ?_⟩
  by_cases e : j = t
  · subst e; rw [updF_same, updF_same]; exact h.e j hj
  · rw [updF_other M _ e, updF_other R _ e]; exact h.e j hj
theorem Fs.set {w : World} {v u : Value} {n : Nat} {M : Nat → Mp} {R : Nat → Rw} (h : Fs w v u n M R) (t : Nat) (m : Mp) (r : Rw) (h1 : w.heap.size ≤ m.b) (h2 : w.heap.size ≤ m.g) (h3 : w.heap.size ≤ r.g) : Fs w v u n (updF M t m) (updF R t r) := by
  refine ⟨h.v, h.u, fun j hj => ?_⟩
  by_cases e : j = t
  · subst e; rw [updF_same, updF_same]; exact ⟨h1, h2, h3⟩
  · rw [updF_other M _ e, updF_other R _ e]; exact h.e j hj
theorem get_any (b g cap W H : Nat) (P : Nat → Nat → Bool) (x y : Int) (w : World) (h : MapAt w b g cap W H P) :
    Calls Tryd.prog 20 #[.pointer (some ⟨b, 0, none⟩), .int .i64 x, .int .i64 y] w fun e w' => e = .returned (.int .i64 ((getPix W H P x y).toNat : Nat)) ∧ Fr (fun _ => False) w w' := by
  by_cases hp : 0 ≤ x ∧ x < W ∧ 0 ≤ y ∧ y < H
  · obtain ⟨a, rfl⟩ : ∃ a : Nat, x = a := ⟨x.toNat, by omega⟩
    obtain ⟨c, rfl⟩ : ∃ c : Nat, y = c := ⟨y.toNat, by omega⟩
    refine (get_in b g cap W H P a c w h (by omega) (by omega)).mono ?_
    rintro e w' ⟨rfl, q, rfl⟩
    rw [getPix_in (by omega) (by omega)]
    exact ⟨rfl, (Fr.refl _ _).drewN q⟩
  · refine (get_out b g cap W H P x y w h hp).mono ?_
    rintro e w' ⟨rfl, rfl⟩
    rw [getPix_out hp]
    exact ⟨rfl, Fr.refl _ _⟩
theorem cnt_any (b g cap W H : Nat) (P : Nat → Nat → Bool) (w : World) (h : MapAt w b g cap W H P) :
    Calls Tryd.prog 22 #[.pointer (some ⟨b, 0, none⟩)] w fun e w' => e = .returned (.int .i64 (cnt W H P : Nat)) ∧ Fr (fun _ => False) w w' := by
  refine (count_any b g cap W H P w h).mono ?_
  rintro e w' ⟨rfl, q, rfl⟩
  rw [pops_render]
  exact ⟨rfl, (Fr.refl _ _).drewN q⟩
theorem cell_of_eleven {w : World} {o : Nat} {a b c d e f g h i j k : Value} {t : TypeId} (hb : w.heap[o]? = some (.cells #[a, b, c, d, e, f, g, h, i, j, k] t (0, 0))) :
    w.cell? ⟨o, 0, none⟩ = some a ∧ w.cell? ⟨o, 1, none⟩ = some b ∧ w.cell? ⟨o, 2, none⟩ = some c ∧ w.cell? ⟨o, 3, none⟩ = some d ∧ w.cell? ⟨o, 4, none⟩ = some e ∧ w.cell? ⟨o, 5, none⟩ = some f ∧ w.cell? ⟨o, 6, none⟩ = some g ∧ w.cell? ⟨o, 7, none⟩ = some h ∧ w.cell? ⟨o, 8, none⟩ = some i ∧ w.cell? ⟨o, 9, none⟩ = some j ∧ w.cell? ⟨o, 10, none⟩ = some k := by
  refine ⟨?_, ?_, ?_, ?_, ?_, ?_, ?_, ?_, ?_, ?_, ?_⟩ <;> (unfold World.cell?; simp only [hb]; rfl)

/-- What is done, as it is handed in: eleven numbers each. -/
def OpsAt (w : World) (bo : Option Addr) (n : Nat) (O : Nat → Nat → Int) : Prop := n ≤ 9223372036854775807 ∧ (0 < n → ∃ b off, bo = some ⟨b, off, none⟩ ∧ ∀ j, j < n → ∀ c, c < 11 → w.cell? ⟨b, off + j * 11 + c, none⟩ = some (.int .i64 (O j c)) ∧ I64 (O j c))
theorem OpsAt.kept {w w' : World} {bo : Option Addr} {n : Nat} {O : Nat → Nat → Int} (h : OpsAt w bo n O) (f : Fr (fun _ => False) w w') : OpsAt w' bo n O := by
  refine ⟨h.1, fun hn => ?_⟩
  obtain ⟨b, off, e, hc⟩ := h.2 hn
  exact ⟨b, off, e, fun j hj c hc' => ⟨seen_cellF f (hc j hj c hc').1, (hc j hj c hc').2⟩⟩
end Go.Proofs.YtflhbmapikdmhaaDoor
