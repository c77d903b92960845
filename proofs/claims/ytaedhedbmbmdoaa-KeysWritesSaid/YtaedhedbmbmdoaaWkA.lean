/-
  Walks: what a part is, asked by the program.
-/
import Derived.Test.YtaedhedbmbmdoaaMemP
namespace Go.Proofs.Ytaedhedbmbmdoaa
open Go.RowKit

def Qt.long (q : Qt) : Bool := q.t && decide (64 < q.s.size)
def Qt.mixed (q : Qt) : Bool := if q.t then (q.num != 0) else !decide (q.s.size = 0)

theorem str_empty {s : ByteArray} : s.toList.isEmpty = decide (s.size = 0) := by
  rw [ByteArray.toList_eq]
  obtain ⟨⟨l⟩⟩ := s
  rw [Bool.eq_iff_iff]
  simp [ByteArray.size]

theorem ret_int {k : IntKind} {a b : Int} (h : a = b) : Ending.returned (.int k a) = .returned (.int k b) := by rw [h]
theorem ret_bool {a b : Bool} (h : a = b) : Ending.returned (.bool a) = .returned (.bool b) := by rw [h]

/-- It answers a bool, and makes new memory alone. -/
def Tells (w : World) (b : Bool) (e : Ending) (w' : World) : Prop := e = .returned (.bool b) ∧ Below w.heap.size w w'

theorem isLongText_any (q : Qt) (w : World) (h : q.Ok) : Calls Try.prog 32 #[q.val] w (Tells w q.long) := by
  obtain ⟨t, num, s⟩ := q
  obtain ⟨h1, h2, h3⟩ := h
  simp only at h1
  unfold Qt.long Qt.val
  cases t
  all_goals
    go_enter Try.func32, Try.ntmps32
    go_wp2
    go_ret
    exact ⟨by simp; try omega, below_new _ _⟩

theorem isMixed_any (q : Qt) (w : World) : Calls Try.prog 23 #[q.val] w (Tells w q.mixed) := by
  obtain ⟨t, num, s⟩ := q
  unfold Qt.mixed Qt.val
  cases t
  all_goals
    go_enter Try.func23, Try.ntmps23
    go_wp2
    go_ret
    exact ⟨by simp [str_empty], below_new _ _⟩

/-- The first part of which it is told. -/
def firstI (p : Qt → Bool) (l : List Qt) : Int := ((l.findIdx? p).map (fun i => (i : Int))).getD (-1)
theorem firstI_at {p : Qt → Bool} {l : List Qt} {k : Nat} {q : Qt} (hq : l[k]? = some q) (h : p q = true) (hb : ∀ j, j < k → ∀ q, l[j]? = some q → p q = false) : firstI p l = (k : Int) := by
  have hk := (List.getElem?_eq_some_iff.1 hq).1
  have : l.findIdx? p = some k := by
    rw [List.findIdx?_eq_some_iff_getElem]
    refine ⟨hk, ?_, fun j hj => ?_⟩
    · rw [List.getElem?_eq_getElem hk] at hq
      injection hq with hq
      rw [hq]
      exact h
    · rw [hb j hj _ (List.getElem?_eq_getElem (by omega))]
      simp
  unfold firstI
  rw [this]
  rfl
theorem firstI_none {p : Qt → Bool} {l : List Qt} (hb : ∀ j, j < l.length → ∀ q, l[j]? = some q → p q = false) : firstI p l = -1 := by
  have : l.findIdx? p = none := by
    rw [List.findIdx?_eq_none_iff]
    intro q hq
    obtain ⟨j, hj, e⟩ := List.mem_iff_getElem.1 hq
    exact hb j hj q (by rw [List.getElem?_eq_getElem hj, e])
  unfold firstI
  rw [this]
  rfl
theorem firstI_any (p : Qt → Bool) (l : List Qt) : decide (0 ≤ firstI p l) = l.any p := by
  unfold firstI
  cases h : l.findIdx? p with
  | none =>
    rw [List.findIdx?_eq_none_iff] at h
    have : l.any p = false := by
      rw [List.any_eq_false]
      intro q hq
      rw [h q hq]
      simp
    rw [this]
    rfl
  | some k =>
    rw [List.findIdx?_eq_some_iff_getElem] at h
    obtain ⟨hk, hp, -⟩ := h
    have : l.any p = true := by
      rw [List.any_eq_true]
      exact ⟨_, List.getElem_mem hk, hp⟩
    rw [this]
    simp

set_option maxHeartbeats 1000000 in
theorem index_any (f : Nat) (p : Qt → Bool) (hcf : ∀ args w, (callFunc f args).run Try.prog w = .ok (.enter f args) w) (hf : ∀ q w, q.Ok → Calls Try.prog f #[q.val] w (Tells w (p q))) (A : Option Addr) (l : List Qt) (n c : Nat) (w : World) (hn : l.length = n) (hc : n ≤ 140737488351232) (h : Pts w A l) (ho : ∀ q ∈ l, q.Ok) :
    Calls Try.prog 33 #[.slice A n c, .func (.func f) #[] #[]] w fun e w' => e = .returned (.int .i64 (firstI p l)) ∧ Below w.heap.size w w' := by
  have HF : Hid (∀ q w, q.Ok → Calls Try.prog f #[q.val] w (Tells w (p q))) := Lib.hid hf
  have HP := Lib.hid (fun (w' : World) (hb : Below w.heap.size w w') => h.kept hb)
  clear hf h
  go_enter Try.func33, Try.ntmps33
  go_wp2_with fail
  go_loopw [8] (fun t8 wr => ∃ k : Nat, k ≤ n ∧ t8 = .int .i64 k ∧ (∀ j, j < k → ∀ q, l[j]? = some q → p q = false) ∧ Below w.heap.size w wr) (fun t8 _ => n - (intOf t8).toNat)
  case atStart => exact ⟨0, by omega, rfl, fun j hj => by omega, Below.refl _ _⟩
  case round =>
    obtain ⟨k, hk, rfl, hp, hb⟩ := hrel
    by_cases hlt : k < n
    · have hq := List.getElem?_eq_getElem (l := l) (i := k) (by omega)
      generalize l[k]'(by omega) = q at hq
      obtain ⟨ad, rfl, c0, c1, c2⟩ := (HP.out _ hb).at_ hq
      have HO := Lib.hid (ho q (List.mem_of_getElem? hq))
      have HQ := Lib.hid hq
      have HB := Lib.hid hb
      have HJ := Lib.hid hp
      have HN := Lib.hid hn
      clear hq hb hp hn
      cases hp : p q
      · have HP := Lib.hid hp
        go_wp2_with ((refine ((HF.out q _ HO.out)).mono ?_); rintro e w1 ⟨rfl, b1⟩; rw [hp]; clear hp; have B1 := Lib.hid (HB.out.trans (b1.mono HB.out.size)); clear b1)
        go_roundw
        case rel => exact ⟨k + 1, by omega, by go_num, fun j hj q' hq' => by
          by_cases e : j = k
          · subst e; rw [HQ.out] at hq'; injection hq' with hq'; rw [← hq']; exact HP.out
          · exact HJ.out j (by omega) q' hq', B1.out⟩
        case measure => simp [intOf]; omega
      · have HP := Lib.hid hp
        go_wp2_with ((refine ((HF.out q _ HO.out)).mono ?_); rintro e w1 ⟨rfl, b1⟩; rw [hp]; clear hp; have B1 := Lib.hid (HB.out.trans (b1.mono HB.out.size)); clear b1)
        go_ret
        exact ⟨ret_int (firstI_at HQ.out HP.out HJ.out).symm, B1.out⟩
    · have HB := Lib.hid hb
      have HJ := Lib.hid hp
      have HN := Lib.hid hn
      clear hb hp hn
      go_wp2_with fail
      go_ret
      exact ⟨ret_int (firstI_none (fun j hj => HJ.out j (by have := HN.out; omega))).symm, HB.out⟩

/-- Among parts is one such. -/
theorem contains_any (f : Nat) (p : Qt → Bool) (hcf : ∀ args w, (callFunc f args).run Try.prog w = .ok (.enter f args) w) (hf : ∀ q w, q.Ok → Calls Try.prog f #[q.val] w (Tells w (p q))) (A : Option Addr) (l : List Qt) (n c : Nat) (w : World) (hn : l.length = n) (hc : n ≤ 140737488351232) (h : Pts w A l) (ho : ∀ q ∈ l, q.Ok) :
    Calls Try.prog 22 #[.slice A n c, .func (.func f) #[] #[]] w (Tells w (l.any p)) := by
  have HI := Lib.hid (index_any f p hcf hf A l n c w hn hc h ho)
  have HA := Lib.hid (firstI_any p l)
  clear hcf hf h hn
  generalize firstI p l = i at HI HA
  go_enter Try.func22, Try.ntmps22
  go_wp2_with (go_at_call 33; refine HI.out.mono ?_; rintro e w1 ⟨rfl, b1⟩; have B1 := Lib.hid b1; clear b1)
  go_ret
  exact ⟨ret_bool HA.out, B1.out⟩

theorem isLong_any (A : Option Addr) (l : List Qt) (n c : Nat) (w : World) (hn : l.length = n) (hc : n ≤ 140737488351232) (h : Pts w A l) (ho : ∀ q ∈ l, q.Ok) :
    Calls Try.prog 21 #[.slice A n c] w (Tells w (decide (8 < l.length) || l.any Qt.long)) := by
  have HI := Lib.hid (contains_any 32 Qt.long (by intros; rfl) isLongText_any A l n c w hn hc h ho)
  rw [hn]
  clear h ho hn
  generalize l.any Qt.long = b at HI ⊢
  by_cases h8 : 8 < n
  · have h8' : decide ((8 : Int) < n) = true := by simp; omega
    go_enter Try.func21, Try.ntmps21
    go_wp2_with fail
    go_ret
    exact ⟨by simp [h8], Below.refl _ _⟩
  · have h8' : decide ((8 : Int) < n) = false := by simp; omega
    go_enter Try.func21, Try.ntmps21
    go_wp2_with (go_at_call 22; refine HI.out.mono ?_; rintro e w1 ⟨rfl, b1⟩; have B1 := Lib.hid b1; clear b1)
    go_ret
    exact ⟨by simp [h8], B1.out⟩

/-- Whether bytes are a key. -/
def keyB (n : Nat) : Bool := decide (0 < n) && decide (n ≤ 200)
theorem isKey_any (A : Option Addr) (n c : Nat) (w : World) (hc : n ≤ 281474976710656) :
    Calls Try.prog 25 #[.slice A n c] w fun e w' => e = .returned (.bool (keyB n)) ∧ w = w' := by
  unfold keyB
  by_cases h : 0 < n
  · go_enter Try.func25, Try.ntmps25
    go_wp2_with fail
    go_ret
    exact ⟨by simp [h]; try omega, rfl⟩
  · obtain rfl : n = 0 := by omega
    go_enter Try.func25, Try.ntmps25
    go_wp2_with fail
    go_ret
    exact ⟨by simp, rfl⟩

end Go.Proofs.Ytaedhedbmbmdoaa
