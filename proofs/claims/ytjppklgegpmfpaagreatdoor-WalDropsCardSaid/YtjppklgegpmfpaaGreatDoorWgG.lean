/-
  Walks: the number of a segment's name; the numbers of the segments.
-/
import Derived.Test.YtjppklgegpmfpaaGreatDoorWgF
import Derived.Lib.AtoiErrMem
namespace Go.Proofs.YtjppklgegpmfpaaGreatDoor
open Go.RowKit
open Go.Maps

theorem mk_list (L : List UInt8) : (⟨L.toArray⟩ : ByteArray).data.toList = L := rfl
theorem cutPre_any (p : ByteArray) (k : Nat) (w : World) :
    Calls Tryz.prog 68 #[.string (seg p k), .string p] w fun e w' => e = .returned (.tuple #[.string ⟨(six k ++ [46, 108, 111, 103]).toArray⟩, .bool true]) ∧ w' = w := by
  have h1 : Lib.hasPrefix (seg p k).data.toList p.data.toList = true := by
    unfold Lib.hasPrefix
    rw [List.isPrefixOf_iff_prefix, seg_list]
    exact List.prefix_append _ _
  have h2 : Lib.trimPrefix (seg p k).data.toList p.data.toList = six k ++ [46, 108, 111, 103] := by
    unfold Lib.trimPrefix
    rw [if_pos h1, seg_list]
    exact List.drop_left
  have := Tryz.strings_CutPrefix (seg p k) p w
  rw [h1, h2] at this
  exact this
theorem cutSuf_any (k : Nat) (w : World) :
    Calls Tryz.prog 69 #[.string ⟨(six k ++ [46, 108, 111, 103]).toArray⟩, .string ⟨#[46, 108, 111, 103]⟩] w fun e w' => e = .returned (.tuple #[.string ⟨(six k).toArray⟩, .bool true]) ∧ w' = w := by
  have h1 : Lib.hasSuffix (six k ++ [46, 108, 111, 103]) [46, 108, 111, 103] = true := by
    unfold Lib.hasSuffix
    rw [List.isSuffixOf_iff_suffix]
    exact List.suffix_append _ _
  have h2 : Lib.trimSuffix (six k ++ [46, 108, 111, 103]) [46, 108, 111, 103] = six k := by
    unfold Lib.trimSuffix
    rw [if_pos h1]
    rfl
  have h3 := Tryz.strings_CutSuffix ⟨(six k ++ [46, 108, 111, 103]).toArray⟩ ⟨#[46, 108, 111, 103]⟩ w (by show (six k ++ [46, 108, 111, 103]).toArray.size ≤ _; simp [six])
  rw [mk_list, mk_list] at h3
  rw [h1, h2] at h3
  exact h3
theorem parse_any (k : Nat) (w : World) (hk : k ≤ 999999) :
    Calls Tryz.prog 70 #[.string ⟨(six k).toArray⟩, .int .i64 10, .int .i64 32] w fun e w' => e = .returned (.tuple #[.int .u64 (k : Int), .nilIface]) ∧ Below w.heap.size w w' := by
  refine (Tryz.strconv_ParseUint_10_at32_ok ⟨(six k).toArray⟩ (by show (six k).toArray.size ≤ _; simp [six]) k (parse_six k hk) w).mono ?_
  rintro e w' ⟨rfl, rfl | rfl⟩
  · exact ⟨rfl, Below.refl _ _⟩
  · exact ⟨rfl, Lib.bytesWorld_below _ _ _⟩

set_option maxHeartbeats 2000000 in
theorem numberOf_any (lb g k : Nat) (l : Lg) (w : World) (hk : k ≤ 999999) (h : LgAt w lb g l) :
    Calls Tryz.prog 49 #[.pointer (some ⟨lb, 0, none⟩), .string (seg l.p k)] w fun e w' => e = .returned (.int .i64 (k : Int)) ∧ Below w.heap.size w w' := by
  have HP := Lib.hid (fun W => cutPre_any l.p k W)
  have HS := Lib.hid (fun W => cutSuf_any k W)
  have HU := Lib.hid (fun W => parse_any k W hk)
  have hsz : (⟨(six k).toArray⟩ : ByteArray).size = 6 := rfl
  obtain ⟨r1, h1⟩ : ∃ r1 : ByteArray, ⟨(six k ++ [46, 108, 111, 103]).toArray⟩ = r1 := ⟨_, rfl⟩
  obtain ⟨r2, h2⟩ : ∃ r2 : ByteArray, ⟨(six k).toArray⟩ = r2 := ⟨_, rfl⟩
  rw [h1] at HP HS
  rw [h2] at HS HU hsz
  obtain ⟨-, c1, -⟩ := h.cell
  generalize seg l.p k = sg at HP
  clear h h1 h2
  have hk' : (k : Int) ≤ 999999 := by omega
  go_enter Tryz.func49, Tryz.ntmps49
  go_wp2_with (first
    | (go_at_call 68; refine (HP.out _).mono ?_; rintro e w1 ⟨rfl, hw⟩; subst hw)
    | (go_at_call 69; refine (HS.out _).mono ?_; rintro e w1 ⟨rfl, hw⟩; subst hw)
    | (go_at_call 70; refine (HU.out _).mono ?_; rintro e w2 ⟨rfl, hb⟩; have B2 := Lib.hid hb; clear hb))
  go_ret
  exact ⟨rfl, B2.out⟩

theorem wpList_append_irows (w : World) {ops : Array Oper} {rest : List Oper} {o : Oper} {a : Act} {Q : Exit → Act → World → Prop} (hgd : o.guard = none) (s x : Operand)
    (ho : o.op = .call { callee := .builtin .append, args := #[s, x], argTypes := #[23, 23] })
    (B : Nat) (A : Option Addr) (c : Nat) (T U : List Int) (C : Option Addr) (n m cm : Nat) (hs : a.eval s = .slice A n c) (hx : a.eval x = .slice C m cm) (en : T.length = n) (em : U.length = m) (h : Irow w B A c T) (hm : Ints w C U) (hB : B ≤ w.heap.size) (hr : (T.length + U.length) * 8 ≤ 140737488355328)
    (k : ∀ A' c' w', Irow w' B A' c' (T ++ U) → Below B w w' → wpList Tryz.prog ops Q rest (a.put o.dst (.slice A' (n + m) c')) w') : wpList Tryz.prog ops Q (o :: rest) a w := by
  subst en
  subst em
  obtain ⟨i, hi, hz0, hz1, hz2⟩ := info_parts info3
  refine wpList_plain hgd fun K hK => ?_
  obtain ⟨A', c', w', r, h2, h3, h4⟩ := run_append_grown (P := Tryz.prog) w 23 o.type 3 i (.int .i64 0) 1 8 Tryz.underlying23 hi hz0 hz1 hz2 rfl (by decide) B A T.length c (ivals T) h C U.length cm (ivals U) (by simp [ivals_len]) hm ivals_one (by unfold maxLen; omega) hr hB
  have e : ivals T ++ ivals U = ivals (T ++ U) := by simp [ivals]
  rw [e] at h2
  have k' := k A' c' w' (by unfold Irow; rw [List.length_append]; exact h2) h3
  unfold Oper.wp execOp
  simp only [ho, resolve, invoke, builtin, Sem.run_bind, Sem.run_pure, Result.andThen_ok, List.map_toArray, List.map_cons, List.map_nil, hs, hx, r]
  exact hK _ _ k'
theorem texts_at {w : World} {A : Option Addr} {T : List ByteArray} {k : Nat} {s : ByteArray} (h : Lies w A (T.map Value.string)) (hs : T[k]? = some s) : ∃ ad, A = some ad ∧ w.cell? (ad.add k) = some (.string s) := by
  have hv : (T.map Value.string)[k]? = some (.string s) := by simp [hs]
  rcases h with h | ⟨ad, rfl, h⟩
  · rw [h] at hv
    simp at hv
  · exact ⟨ad, rfl, h k _ hv⟩
/-- Numbers as they are counted. -/
def zs (ns : List Nat) : List Int := ns.map (fun (n : Nat) => (n : Int))
theorem zs_len (ns : List Nat) : (zs ns).length = ns.length := by simp [zs]

set_option maxRecDepth 100000 in
set_option maxHeartbeats 4000000 in
theorem numbers_any (B g lb : Nat) (d : Pk) (s : Ls) (p : ByteArray) (size n : Nat) (ns : List Nat) (w : World) (h : LSt w B g lb d s p size) (hd : s.m.down = false) (hf : Fits s.m 0) (hns : s.m.fs.map Prod.fst = ns.map (seg p)) (hn : ns.length = n) (hin : ∀ k ∈ ns, 1 ≤ k ∧ k ≤ 999999) (hn6 : n ≤ 1000000) :
    Calls Tryz.prog 32 #[.pointer (some ⟨lb, 0, none⟩)] w fun e w' => ∃ A c, e = .returned (.tuple #[.slice A n c, .int .i64 0]) ∧ Irow w' w.heap.size A c (zs ns) ∧ Below w.heap.size w w' := by
  have c0 := h.lg.cell.1
  have HL : Hid (Calls Tryz.prog 18 #[.pointer (some ⟨g, 0, none⟩)] w fun e w' => ∃ A c, e = .returned (.tuple #[.slice A n c, .int .i64 0]) ∧ Lies w' A ((ns.map (seg p)).map Value.string) ∧ Below w.heap.size w w') := Lib.hid (by
    refine (list_vm B g d s.m w (ns.map (seg p), 0) h.ps h.vm hf (by unfold Vm.list; rw [hd, hns]; rfl)).mono ?_
    rintro e w' ⟨A, c, rfl, h1, h2⟩
    refine ⟨A, c, ?_, h1.lies, h2⟩
    show Ending.returned (.tuple #[.slice A (ns.map (seg p)).length c, .int .i64 0]) = _
    rw [List.length_map, hn])
  have HNO := Lib.hid (fun (W : World) (hb : Below w.heap.size w W) (k : Nat) (hk : k ≤ 999999) => numberOf_any lb g k _ W hk (h.lg.kept hb))
  simp only at HNO
  have HN := Lib.hid hn
  have HI := Lib.hid hin
  clear h hd hf hns hn hin
  go_enter Tryz.func32, Tryz.ntmps32
  go_wp2_with (go_at_call 18; refine HL.out.mono ?_; rintro e w1 ⟨A1, c1, rfl, hl, hb⟩; have L1 := Lib.hid hl; have B1 := Lib.hid hb; clear hl hb)
  go_loopw [6, 23] (fun t6 t23 wr => ∃ (k : Nat) (A2 : Option Addr) (c2 : Nat), k ≤ n ∧ t23 = .int .i64 (k : Int) ∧ t6 = .slice A2 k c2 ∧ Hid (Irow wr w1.heap.size A2 c2 (zs (ns.take k))) ∧ Hid (Below w1.heap.size w1 wr)) (fun _ t23 _ => n - (intOf t23).toNat)
  case atStart => exact ⟨0, none, 0, by omega, rfl, rfl, Lib.hid (Irow.nil _ _), Lib.hid (Below.refl _ _)⟩
  case round =>
    obtain ⟨k, A2, c2, hk, rfl, rfl, r2, b2⟩ := hrel
    by_cases hlt : k < n
    · have hq := List.getElem?_eq_getElem (l := ns) (i := k) (by have := HN.out; omega)
      generalize ns[k]'(by have := HN.out; omega) = x at hq
      obtain ⟨ad, rfl, a0⟩ := texts_at (L1.out.kept b2.out) (show (ns.map (seg p))[k]? = some (seg p x) by rw [List.getElem?_map, hq]; rfl)
      obtain ⟨x1, x2⟩ := HI.out x (List.mem_of_getElem? hq)
      have x1' : (0 : Int) < (x : Int) := by omega
      have HX := Lib.hid (HNO.out wr (B1.out.trans (b2.out.mono B1.out.size)) x x2)
      have HE : Hid (zs (ns.take (k + 1)) = zs (ns.take k) ++ [(x : Int)]) := Lib.hid (by unfold zs; rw [List.take_add_one, hq]; simp)
      have HKL : Hid ((zs (ns.take k)).length = k) := Lib.hid (by rw [zs_len, List.length_take]; have := HN.out; omega)
      generalize seg p x = sg at a0 HX
      clear hq x1 x2
      go_wp2_with (first
        | (go_at_call 49; refine HX.out.mono ?_; rintro e w3 ⟨rfl, hb⟩; have K3 : Hid (Below wr.heap.size wr w3) := Lib.hid hb; have B3 : Hid (Below w1.heap.size w1 w3) := Lib.hid (b2.out.trans (hb.mono b2.out.size)); clear hb)
        | (at_builtin; refine wpList_append_irows _ rfl (.tmp 32) (.tmp 34) rfl w1.heap.size A2 c2 _ [(x : Int)] _ k 1 1 rfl rfl HKL.out rfl (own_kept (own_kept r2.out K3.out (Nat.le_refl _)) (below_new _ _) (Nat.le_refl _)) (lit_lies w3 [.int .i64 (x : Int)] _ rfl 3) (by have := B3.out.size; simp; omega) (by have := HKL.out; simp; omega) ?_; intro A4 c4 w4 r4 b4; have R4 := Lib.hid r4; have B4 : Hid (Below w1.heap.size w1 w4) := Lib.hid ((B3.out.alloc B3.out.size _).trans b4); clear r4 b4))
      go_roundw
      case rel => exact ⟨k + 1, A4, c4, by omega, by go_num, rfl, Lib.hid (by rw [HE.out]; exact R4.out), B4⟩
      case measure => simp [intOf]; omega
    · obtain rfl : k = n := by omega
      have e0 : ns.take k = ns := List.take_of_length_le (by have := HN.out; omega)
      rw [e0] at r2
      go_wp2_with fail
      go_ret2
      exact ⟨A2, c2, rfl, own_mono r2.out B1.out.size, B1.out.trans (b2.out.mono B1.out.size)⟩

end Go.Proofs.YtjppklgegpmfpaaGreatDoor
