/-
  Plain: segments, synced one by one; mended.
-/
import Derived.Test.YtjppklgegpmfpaaGreatDoorSgA
import Derived.Test.YtjppklgegpmfpaaGreatDoorWgH
namespace Go.Proofs.YtjppklgegpmfpaaGreatDoor
open Go.RowKit
open Go.Maps

theorem allL_whole : ∀ (n : Nat) (L : List Int), L.length ≤ n → (allL L).2.2 = 0 → (allL L).2.1 = L.length
  | _, [], _, _ => rfl
  | 0, _ :: _, h, _ => by simp at h
  | n + 1, x :: s, h, h0 => by
    by_cases hr : (readL (x :: s)).2.2 = 0
    · obtain ⟨h8, h9, -⟩ := readL_ok _ hr
      have e := allL_ok (x :: s) (by simp) hr
      rw [e] at h0 ⊢
      simp only at h0 ⊢
      have hd : ((x :: s).drop (readL (x :: s)).2.1).length = (x :: s).length - (readL (x :: s)).2.1 := List.length_drop
      have := allL_whole n ((x :: s).drop (readL (x :: s)).2.1) (by omega) h0
      omega
    · rw [allL_bad (x :: s) (by simp) hr] at h0
      exact absurd h0 hr
/-- A segment, synced; mended. -/
def syn (x : Sg) : Sg := (x.1, x.2.1, (x.2.1.length : Int))
def fixS (x : Sg) : Sg := syn (x.1, x.2.1.take (allL x.2.1).2.1, 0)
theorem fix_whole {x : Sg} (h : (allL x.2.1).2.2 = 0) : fixS x = syn x := by
  unfold fixS syn
  rw [allL_whole _ _ (Nat.le_refl _) h, List.take_length]
/-- Synced as far as that. -/
def upS (L : List Sg) (i : Nat) : List Sg := (L.take i).map syn ++ L.drop i
theorem upS_zero (L : List Sg) : upS L 0 = L := by unfold upS; simp
theorem upS_all {L : List Sg} {n : Nat} (h : L.length = n) : upS L n = L.map syn := by unfold upS; rw [List.take_of_length_le (by omega), List.drop_of_length_le (by omega), List.append_nil]
theorem upS_nums (L : List Sg) (i : Nat) : (upS L i).map Prod.fst = L.map Prod.fst := by
  unfold upS
  rw [List.map_append, List.map_map]
  have : (Prod.fst ∘ syn : Sg → Nat) = Prod.fst := rfl
  rw [this, ← List.map_append, List.take_append_drop]
theorem Rising.same {L L' : List Sg} (h : Rising L) (e : L'.map Prod.fst = L.map Prod.fst) : Rising L' := by
  refine ⟨?_, fun x hx => ?_⟩
  · have h1 : (L.map Prod.fst).Pairwise (· < ·) := List.pairwise_map.2 h.lt
    rw [← e] at h1
    exact List.pairwise_map.1 h1
  · have : x.1 ∈ L'.map Prod.fst := List.mem_map_of_mem hx
    rw [e] at this
    obtain ⟨y, hy, e2⟩ := List.mem_map.1 this
    rw [← e2]
    exact h.inn y hy
theorem upS_get {L : List Sg} {i : Nat} {x : Sg} (h : L[i]? = some x) : (upS L i)[i]? = some x := by
  have hi := (List.getElem?_eq_some_iff.1 h).1
  unfold upS
  rw [List.getElem?_append_right (by simp; omega), List.length_map, List.length_take, Nat.min_eq_left (by omega), Nat.sub_self, List.getElem?_drop, Nat.add_zero, h]
theorem upS_step {L : List Sg} {i : Nat} {x : Sg} (h : L[i]? = some x) : (upS L i).set i (syn x) = upS L (i + 1) := by
  have hi := (List.getElem?_eq_some_iff.1 h).1
  unfold upS
  have e : L.drop i = x :: L.drop (i + 1) := by
    rw [List.drop_eq_getElem_cons hi]
    congr 1
    exact (List.getElem?_eq_some_iff.1 h).2
  rw [e, List.take_add_one, h]
  rw [List.set_append_right _ _ (by simp; omega), List.length_map, List.length_take, Nat.min_eq_left (by omega), Nat.sub_self]
  simp
/-- The segments behind the cut. -/
def cutS (L : List Sg) (bk : Bool) : List Sg := if bk then L.dropLast ++ (L.getLast?.map (fun x => fixS x)).toList else L
theorem cutS_nums (L : List Sg) (bk : Bool) : (cutS L bk).map Prod.fst = L.map Prod.fst := by
  unfold cutS
  cases bk
  · rfl
  · rcases List.eq_nil_or_concat L with rfl | ⟨M, x, rfl⟩
    · rfl
    · simp [fixS, syn]
theorem cutS_len (L : List Sg) (bk : Bool) : (cutS L bk).length = L.length := by
  have := congrArg List.length (cutS_nums L bk)
  simpa using this
theorem fix_idem (x : Sg) : syn (fixS x) = fixS x := rfl
/-- What is left at last. -/
theorem cutS_syn {L : List Sg} {bk : Bool} (hw : ∀ (i : Nat) (x : Sg), i + 1 < L.length → L[i]? = some x → (allL x.2.1).2.2 = 0) (h0 : bk = false → ∀ x ∈ L, (allL x.2.1).2.2 = 0) : (cutS L bk).map syn = L.map fixS := by
  unfold cutS
  cases bk
  · refine List.map_congr_left fun x hx => (fix_whole (h0 rfl x hx)).symm
  · rcases List.eq_nil_or_concat L with rfl | ⟨M, x, rfl⟩
    · rfl
    · simp only [if_true, List.concat_eq_append, List.dropLast_concat, List.getLast?_concat, Option.map_some, Option.toList_some, List.map_append, List.map_cons, List.map_nil, fix_idem]
      congr 1
      refine List.map_congr_left fun y hy => ?_
      obtain ⟨i, hi, e⟩ := List.mem_iff_getElem.1 hy
      refine (fix_whole (hw i y (by simp; omega) ?_)).symm
      rw [List.concat_eq_append, List.getElem?_append_left hi, List.getElem?_eq_getElem hi, e]

/-- The records that were found, apart from an object. -/
def RB (A : Option Addr) (T : List Sl) (k : Nat) : Prop := (∃ ad, A = some ad ∧ k = ad.block) ∨ ∃ s ∈ T, ∃ ad, s.a = some ad ∧ k = ad.block
theorem Seen.in_ {w : World} {B : Nat} {A : Option Addr} {c : Nat} {T : List Sl} (h : Seen w B A c T) : ∀ k, RB A T k → B ≤ k ∧ k < w.heap.size := fun k hk => by
  rcases hk with ⟨ad, ha, rfl⟩ | ⟨s, hs, ad, ha, rfl⟩
  · exact own_in h.row ad ha
  · exact own_in (h.rows s hs) ad ha
theorem Seen.of {w w' : World} {B : Nat} {A : Option Addr} {c : Nat} {T : List Sl} (h : Seen w B A c T) (e : ∀ k, RB A T k → w'.heap[k]? = w.heap[k]?) : Seen w' B A c T :=
  ⟨own_block h.row (fun ad ha => e _ (.inl ⟨ad, ha, rfl⟩)), fun s hs => own_block (h.rows s hs) (fun ad ha => e _ (.inr ⟨s, hs, ad, ha, rfl⟩)), h.byt⟩
theorem Seen.kept {w w' : World} {B : Nat} {A : Option Addr} {c : Nat} {T : List Sl} (h : Seen w B A c T) (hb : Below w.heap.size w w') : Seen w' B A c T := h.of (fun k hk => hb.block k (h.in_ k hk).2)
theorem Seen.mono {w : World} {B C : Nat} {A : Option Addr} {c : Nat} {T : List Sl} (h : Seen w B A c T) (hC : C ≤ B) : Seen w C A c T := ⟨h.row.mono hC, fun s hs => (h.rows s hs).mono hC, h.byt⟩

end Go.Proofs.YtjppklgegpmfpaaGreatDoor
