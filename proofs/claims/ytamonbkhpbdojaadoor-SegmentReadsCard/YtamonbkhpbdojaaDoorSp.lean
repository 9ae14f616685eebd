/- Segments' headers: a segment that is handed in; equal segments. -/
import Derived.Test.YtamonbkhpbdojaaDoorSo
import Derived.Test.YtamonbkhpbdojaaDoorEq
namespace Go.Proofs.YtamonbkhpbdojaaDoor
set_option maxRecDepth 100000
open Go.RowKit

/-- A segment, whatever is in it. -/
structure SgX where
  num : Int
  kind : Int
  page : Int
  refs : List Int
  keep : List Bool
  stay : Bool
  data : List Nat
def sgV (s : SgX) (vr vk vd : Value) : Value := .agg #[.int .i64 s.num, .int .i64 s.kind, .int .i64 s.page, vr, vk, .bool s.stay, vd]
def sgC (s : SgX) (vr vk vd : Value) : List Value := [.int .i64 s.num, .int .i64 s.kind, .int .i64 s.page, vr, vk, .bool s.stay, vd]
/-- Its lists, as they lie in memory. -/
structure SgAt (w : World) (s : SgX) (vr vk vd : Value) : Prop where
  refs : RowS w vr (iCells s.refs)
  keep : RowS w vk (boolCells s.keep)
  data : RowS w vd (byteCells s.data)
theorem SgAt.kept {w w' : World} {s : SgX} {vr vk vd : Value} (h : SgAt w s vr vk vd) (f : Fr (fun _ => False) w w') : SgAt w' s vr vk vd := ⟨h.refs.kept f, h.keep.kept f, h.data.kept f⟩

theorem RowS.slice {w : World} {v : Value} {xs : List Value} (h : RowS w v xs) : ∃ ao c, v = .slice ao xs.length c := by
  obtain ⟨ao, c, e, _⟩ := h; exact ⟨ao, c, e⟩
theorem RowS.seen {w : World} {v : Value} {l : List Nat} (h : RowS w v (byteCells l)) (hl : l.length ≤ 140737488355328) : SeenAt w v l := by
  obtain ⟨ao, c, rfl, h1, h2⟩ := h
  rw [length_byteCells] at *
  refine ⟨ao, c, rfl, hl, fun hl => ?_⟩
  obtain ⟨b, off, e, hc⟩ := h2 (fun e => hl (by cases l with | nil => rfl | cons a t => simp [byteCells] at e))
  refine ⟨b, off, e, fun j hj => ?_⟩
  rw [hc j hj, byteCells_get, List.getElem?_eq_getElem hj]; rfl

set_option maxHeartbeats 4000000 in
theorem eqSegment_same (s : SgX) (vr vk vd ur uk ud : Value) (w : World) (h : SgAt w s vr vk vd) (k : SgAt w s ur uk ud) (hd : s.data.length ≤ 140737488355328) :
    Calls Tryd.prog 13 #[sgV s vr vk vd, sgV s ur uk ud] w fun e w' => e = .returned (.bool true) ∧ Fr (fun _ => False) w w' := by
  have HI : Hid (∀ w', Fr (fun _ => False) w w' → Calls Tryd.prog 31 #[vr, ur] w' fun e w'' => e = .returned (.bool true) ∧ ∃ q, w'' = w'.drewN q) := fun w' f => eqInts_same vr ur s.refs w' (h.refs.kept f) (k.refs.kept f)
  have HF : Hid (∀ w', Fr (fun _ => False) w w' → Calls Tryd.prog 32 #[vk, uk] w' fun e w'' => e = .returned (.bool true) ∧ ∃ q, w'' = w'.drewN q) := fun w' f => eqFlags_same vk uk s.keep w' (h.keep.kept f) (k.keep.kept f)
  have HD : Hid (∀ w', Fr (fun _ => False) w w' → Calls Tryd.prog 12 #[vd, ud] w' fun e w'' => e = .returned (.bool true) ∧ ∃ q, w'' = w'.drewN q) := fun w' f => eq_same vd ud s.data s.data w' ((h.data.kept f).seen hd) ((k.data.kept f).seen hd) rfl true (by show _ = _; simp)
  obtain ⟨ao1, c1, rfl⟩ := h.refs.slice
  obtain ⟨ao2, c2, rfl⟩ := h.keep.slice
  obtain ⟨ao3, c3, rfl⟩ := h.data.slice
  obtain ⟨bo1, d1, rfl⟩ := k.refs.slice
  obtain ⟨bo2, d2, rfl⟩ := k.keep.slice
  obtain ⟨bo3, d3, rfl⟩ := k.data.slice
  obtain ⟨N, K, P, Rs, Ks, st, D⟩ := s
  clear h k hd
  rw [length_iCells, length_boolCells, length_byteCells] at *
  simp only [sgV]
  simp only at HI HF HD
  generalize Rs.length = nr at *
  generalize Ks.length = nk at *
  generalize D.length = nd at *
  have hb1 : (N == N) = true := by simp
  have hb2 : (K == K) = true := by simp
  have hb3 : (P == P) = true := by simp
  cases st
  all_goals
    go_enter Tryd.func13, Tryd.ntmps13
    go_wp2_with fail
    refine (HI.out _ (((Fr.refl _ _).alloc _).alloc _)).mono ?_
    rintro e w1 ⟨rfl, q1, rfl⟩
    go_wp2_with fail
    refine (HF.out _ ((((Fr.refl _ _).alloc _).alloc _).drewN q1)).mono ?_
    rintro e w1 ⟨rfl, q2, rfl⟩
    go_wp2_with fail
    refine (HD.out _ ((((Fr.refl _ _).alloc _).alloc _).drewN (q1 + q2))).mono ?_
    rintro e w1 ⟨rfl, q3, rfl⟩
    go_wp2_with fail
    go_ret
    exact ⟨rfl, (((Fr.refl _ _).alloc _).alloc _).drewN _⟩
end Go.Proofs.YtamonbkhpbdojaaDoor
