/-
  Walks: pairs packed, by the document.
-/
import Derived.Test.YtimonpoeieenpaaKBd
import Derived.Lib.AppendStr
namespace Go.Proofs.Ytimonpoeieenpaa
open Go.RowKit

theorem strCells_nums (M : List Int) (h : Byt M) : Lib.strCells (strOfNums M) = vals M := by
  unfold Lib.strCells vals
  conv => rhs; rw [← nums_of_str M h]
  unfold nums
  rw [List.map_map]
  rfl
theorem run_append_str (w : World) (ty : TypeId) (B : Nat) (A : Option Addr) (c : Nat) (L M : List Int) (h : Row w B A c L) (hM : Byt M) (hB : B ≤ w.heap.size) (hr : L.length + M.length ≤ 140737488355328) :
    ∃ A' c' w', (Builtin.append_ #[24, 9] ty #[.slice A L.length c, .string (strOfNums M)]).run Try.prog w = .ok (.slice A' (L.length + M.length) c') w' ∧ Row w' B A' c' (L ++ M) ∧ Below B w w' := by
  obtain ⟨i, hi, hz0, hz1, hz2⟩ := info_parts info5
  obtain ⟨v', w', r, h2, h3, h4⟩ := Lib.run_append_own_string (P := Try.prog) w B 24 9 ty 5 i Try.underlying24 Try.underlying9 hi hz0 hz1 hz2 (.slice A L.length c) L.length (vals L) h (strOfNums M) (by rw [str_size]; unfold maxLen; omega) (by rw [str_size]; omega) hB
  rw [str_size, strCells_nums M hM, ← vals_append] at h2
  have key : ∃ A' c', v' = .slice A' (L.length + M.length) c' := by
    rcases h2.2 with ⟨rfl, he⟩ | ⟨g, cap, cur, rfl, _⟩
    · exact ⟨none, 0, by rw [he]⟩
    · exact ⟨_, _, rfl⟩
  obtain ⟨A', c', rfl⟩ := key
  refine ⟨A', c', w', r, by unfold Row; rw [List.length_append]; exact h2, (Below.refl B w).grown h3 hB fun k hk => (World.ownsRow.lt h k hk).1⟩
theorem step_append_str (w : World) {ops : Array Oper} {o : Oper} {a : Act} {K : Act → World → Prop} {Q : Exit → Act → World → Prop} {E : Prop} (hgd : o.guard = none) (s x : Operand)
    (ho : o.op = .call { callee := .builtin .append, args := #[s, x], argTypes := #[24, 9] })
    (B : Nat) (A : Option Addr) (c : Nat) (L M : List Int) (n m : Nat) (hs : a.eval s = .slice A n c) (hx : a.eval x = .string (strOfNums M)) (en : L.length = n) (em : M.length = m) (h : Row w B A c L) (hM : Byt M) (hB : B ≤ w.heap.size) (hr : L.length + M.length ≤ 140737488355328)
    (k : ∀ A' c' w', Row w' B A' c' (L ++ M) → Below B w w' → K (a.put o.dst (.slice A' (n + m) c')) w') : if Region.wanted o (yielded ops a.tmps) = true then Oper.wp Try.prog o a w K Q else E := by
  have hw : Region.wanted o (yielded ops a.tmps) = true := by simp [Region.wanted, hgd]
  rw [if_pos hw]
  subst en
  subst em
  obtain ⟨A', c', w', r, h2, h3⟩ := run_append_str w o.type B A c L M h hM hB hr
  have k' := k A' c' w' h2 h3
  unfold Oper.wp execOp
  simp only [ho, resolve, invoke, builtin, Sem.run_bind, Sem.run_pure, Result.andThen_ok, List.map_toArray, List.map_cons, List.map_nil, hs, hx, r]
  exact k'
/-- A text from a place on, up to a place. -/
theorem str_low (K : List Int) (n : Nat) (hn : n ≤ K.length) : ∀ W, (Instr.slice 9 (.string (strOfNums K)) (some (.int .i64 (n : Int))) none none).run Try.prog W = .ok (.string (strOfNums (K.drop n))) W := fun W => by
  rw [run_slice_string_l (P := Try.prog) W _ (strOfNums K) Try.underlying9 .i64 (n : Int) (by omega) (by rw [str_size]; omega)]
  congr 2
  apply ByteArray.ext
  apply Array.ext'
  rw [Lib.extract_data, str_size]
  simp only [strOfNums, Int.toNat_natCast]
  rw [List.take_of_length_le (by simp), List.map_drop]
theorem str_high (K : List Int) (n : Nat) (hn : n ≤ K.length) (k : IntKind) : ∀ W, (Instr.slice 9 (.string (strOfNums K)) none (some (.int k (n : Int))) none).run Try.prog W = .ok (.string (strOfNums (K.take n))) W := fun W => by
  rw [run_slice_string_h (P := Try.prog) W _ (strOfNums K) Try.underlying9 k (n : Int) (by omega) (by rw [str_size]; omega)]
  congr 2
  apply ByteArray.ext
  apply Array.ext'
  rw [Lib.extract_data]
  simp only [strOfNums, Int.toNat_natCast, List.drop_zero, Nat.sub_zero]
  rw [List.map_take]

/-- What packing answers. -/
def Built (w : World) (p : List Int × Int) (e : Ending) (w' : World) : Prop :=
  ∃ A c, e = .returned (.tuple #[.slice A p.1.length c, .int .i64 p.2]) ∧ Row w' w.heap.size A c p.1 ∧ Below w.heap.size w w'
theorem built_none {w w' : World} {r : Int} {e : Ending} (h : e = .returned (.tuple #[.slice none 0 0, .int .i64 r]) ∧ Below w.heap.size w w') : Built w ([], r) e w' := by
  obtain ⟨rfl, hb⟩ := h
  exact ⟨none, 0, rfl, Row.nil _ _, hb⟩
theorem fit_not {l : List Bp} {q : Bp} {k : Nat} (hq : l[k]? = some q) (h : 200 < q.k.l.length ∨ 4096 < q.v.l.length) : ¬ FitP (rds l) := fun hf => by
  have := hf.2 q.rd (List.mem_of_getElem? (rds_get hq))
  obtain ⟨h1, h2⟩ := this
  simp only [Bp.rd] at h1 h2
  omega
theorem short_next {L : List Pr} {k : Nat} {p : Pr} (h : ∀ x ∈ L.take k, ShortP x) (hp : L[k]? = some p) (hs : ShortP p) : ∀ x ∈ L.take (k + 1), ShortP x := fun x hx => by
  rw [List.take_add_one, hp] at hx
  rcases List.mem_append.1 hx with hx | hx
  · exact h x hx
  · simp only [Option.toList, List.mem_singleton] at hx
    subst hx
    exact hs
theorem take_next {L : List Pr} {k : Nat} {p : Pr} (hp : L[k]? = some p) : L.take (k + 1) = L.take k ++ [p] := by
  rw [List.take_add_one, hp]
  rfl
theorem rises_next {L : List Pr} {k : Nat} {p : Pr} (h : risesP [] (L.take k)) (hp : L[k]? = some p) (hs : cmpL p.1 (lastK [] (L.take k)) = 1) : risesP [] (L.take (k + 1)) := by
  rw [take_next hp, risesP_snoc]
  exact ⟨h, hs⟩
theorem rises_not {L : List Pr} {k : Nat} {p : Pr} (hp : L[k]? = some p) (hs : cmpL p.1 (lastK [] (L.take k)) ≠ 1) : ¬ risesP [] L := fun h => by
  have e : L = L.take (k + 1) ++ L.drop (k + 1) := (List.take_append_drop _ _).symm
  rw [e] at h
  have := risesP_left _ _ _ h
  rw [take_next hp, risesP_snoc] at this
  exact hs this.2
theorem lastK_take {L : List Pr} {k : Nat} {p : Pr} (hp : L[k]? = some p) : lastK [] (L.take (k + 1)) = p.1 := by
  rw [take_next hp, lastK_snoc]

set_option maxRecDepth 100000 in
set_option maxHeartbeats 8000000 in
theorem refBuild_any (A : Option Addr) (l : List Bp) (n c : Nat) (w : World) (hn : l.length = n) (h : Lies w A (pvals l)) (hi : Ins w l) (hl : n * 48 ≤ 140737488351232) (hs : ∀ q ∈ l, q.k.l.length ≤ 140737488351232 ∧ q.v.l.length ≤ 140737488351232) :
    Calls Try.prog 10 #[.slice A n c] w (Built w (buildP (rds l))) := by
  have HP := Lib.hid (fun (w' : World) (hb : Below w.heap.size w w') => h.kept hb)
  have HI := Lib.hid (fun (w' : World) (hb : Below w.heap.size w w') => hi.kept hb)
  have HY := Lib.hid hi.byt
  have HS := Lib.hid hs
  have HN := Lib.hid hn
  have HR := Lib.hid (rds_len l)
  clear h hn hi hs
  by_cases hbig : 4096 < n
  · rw [buildP_long (fun hf => by have := hf.1; rw [HR.out, HN.out] at this; omega)]
    have hb' : (4096 : Int) < n := by omega
    go_enter Try.func10, Try.ntmps10
    go_wp2_with fail
    go_ret2
    exact built_none ⟨rfl, Below.refl _ _⟩
  go_enter Try.func10, Try.ntmps10
  go_wp2_with fail
  go_loop [16] (fun t16 => ∃ k : Nat, k ≤ n ∧ t16 = .int .i64 k ∧ Hid (∀ x ∈ (rds l).take k, ShortP x)) (fun t16 => n - (intOf t16).toNat)
  case atStart => exact ⟨0, by omega, rfl, Lib.hid (fun x hx => by simp at hx)⟩
  case round =>
    obtain ⟨k, hk, rfl, hsh⟩ := hrel
    by_cases hlt : k < n
    · have hq := List.getElem?_eq_getElem (l := l) (i := k) (by have := HN.out; omega)
      generalize l[k]'(by have := HN.out; omega) = x at hq
      obtain ⟨ad, rfl, a0, a1⟩ := lies_pair (HP.out _ (Below.refl _ _)) hq
      have HQ := Lib.hid hq
      have HL := HS.out x (List.mem_of_getElem? hq)
      clear hq
      obtain ⟨⟨ka, kc, kl⟩, ⟨va, vc, vl⟩⟩ := x
      obtain ⟨m, hm⟩ : ∃ m, kl.length = m := ⟨_, rfl⟩
      obtain ⟨z, hz⟩ : ∃ m, vl.length = m := ⟨_, rfl⟩
      simp only [hm, hz] at a0 a1 HL
      have HM := Lib.hid (And.intro hm hz)
      clear hm hz
      have i0 : (k : Int) < n := by omega
      by_cases h1 : 200 < m
      · rw [buildP_long (fit_not HQ.out (.inl (by have := HM.out.1; simp only; omega)))]
        have d1 : decide (200 < (m : Int)) = true := by simp; omega
        clear h1
        go_wp2_with fail
        go_ret2
        exact built_none ⟨rfl, Below.refl _ _⟩
      · have d1 : decide (200 < (m : Int)) = false := by simp; omega
        by_cases h2 : 4096 < z
        · rw [buildP_long (fit_not HQ.out (.inr (by have := HM.out.2; simp only; omega)))]
          have d2 : decide (4096 < (z : Int)) = true := by simp; omega
          clear h1 h2
          go_wp2_with fail
          go_ret2
          exact built_none ⟨rfl, Below.refl _ _⟩
        · have d2 : decide (4096 < (z : Int)) = false := by simp; omega
          have HX := Lib.hid (short_next hsh.out (rds_get HQ.out) ⟨by have := HM.out.1; simp only [Bp.rd]; omega, by have := HM.out.2; simp only [Bp.rd]; omega⟩)
          clear h1 h2
          go_wp2_with fail
          go_round
          case rel => exact ⟨k + 1, by omega, by go_num, HX⟩
          case measure => simp [intOf]; omega
    · obtain rfl : k = n := by omega
      have hsh' := hsh.out
      rw [List.take_of_length_le (by rw [HR.out, HN.out]; omega)] at hsh'
      have HF : Hid (FitP (rds l)) := Lib.hid ⟨by rw [HR.out, HN.out]; omega, hsh'⟩
      have HSH := Lib.hid hsh'
      clear hsh hsh' HS
      go_wp2_with fail
      go_loopw [38] (fun t38 wr => ∃ j dr : Nat, j ≤ k ∧ t38 = .int .i64 j ∧ wr = w.drewN dr ∧ Hid (risesP [] ((rds l).take j))) (fun t38 _ => k - (intOf t38).toNat)
      case atStart => exact ⟨0, 0, by omega, rfl, rfl, Lib.hid trivial⟩
      case round =>
        obtain ⟨j, dr, hj, rfl, rfl, hris⟩ := hrel
        by_cases hlj : j < k
        · have hq := List.getElem?_eq_getElem (l := l) (i := j) (by have := HN.out; omega)
          generalize l[j]'(by have := HN.out; omega) = x at hq
          obtain ⟨ad, rfl, a0, a1⟩ := lies_pair (HP.out _ (Below.refl _ _)) hq
          have HX := Lib.hid ((HI.out _ (Below.refl _ _)) x (List.mem_of_getElem? hq)).1
          have HQ := Lib.hid (rds_get hq)
          clear hq a1
          obtain ⟨⟨ka, kc, kl⟩, ⟨va, vc, vl⟩⟩ := x
          simp only at a0 HX
          have C0 := conv_drew HX.out.bys kl.length kc rfl
          obtain ⟨m, hm⟩ : ∃ m, kl.length = m := ⟨_, rfl⟩
          rw [hm] at a0 C0
          have HM := Lib.hid hm
          have i0 : (j : Int) < k := by omega
          by_cases hm0 : m = 0
          · subst hm0
            have hk0 : kl = [] := List.eq_nil_of_length_eq_zero hm
            rw [buildP_key HF.out (rises_not HQ.out (by simp only [Bp.rd]; rw [hk0]; cases lastK [] (List.take j (rds l)) <;> simp [cmpL]))]
            clear hm hk0 C0
            go_upto_region 12 with fail
            go_quiet (fail)
            go_wp2_with fail
            go_ret2
            exact built_none ⟨rfl, below_drewN (below_drewN (Below.refl _ _) _) _⟩
          · have d0 : ((m : Int) == 0) = false := by simp; omega
            obtain rfl | ⟨i, rfl⟩ : j = 0 ∨ ∃ i, j = i + 1 := by
              cases j with
              | zero => exact .inl rfl
              | succ i => exact .inr ⟨i, rfl⟩
            · have HV := Lib.hid (rises_next hris.out HQ.out (by
                obtain ⟨y, s, e⟩ := List.exists_cons_of_length_pos (l := kl) (by omega)
                simp only [Bp.rd, List.take_zero, lastK]
                rw [e]
                rfl))
              have a2 : w.cell? ad = some (.slice ka m kc) := by simpa [Addr.add] using a0
              clear hm0 hm C0
              go_upto_region 12 with fail
              go_quiet (fail)
              go_wp2_with fail
              go_roundw
              case rel => exact ⟨1, _, by omega, by go_num, rfl, HV⟩
              case measure => simp [intOf]; omega
            · have hp := List.getElem?_eq_getElem (l := l) (i := i) (by have := HN.out; omega)
              generalize l[i]'(by have := HN.out; omega) = y at hp
              obtain ⟨b0, b1⟩ := lies_pair_at (HP.out _ (Below.refl _ _)) hp
              have HZ := Lib.hid ((HI.out _ (Below.refl _ _)) y (List.mem_of_getElem? hp)).1
              have HE := Lib.hid (lastK_take (rds_get hp))
              have HSY := Lib.hid (HSH.out y.rd (List.mem_of_getElem? (rds_get hp))).1
              have HSX := Lib.hid (HSH.out _ (List.mem_of_getElem? HQ.out)).1
              clear hp b1
              obtain ⟨⟨ya, yc, yl⟩, ⟨yva, yvc, yvl⟩⟩ := y
              simp only [Bp.rd] at b0 HZ HE HSY HSX
              have C1 := conv_drew HZ.out.bys yl.length yc rfl
              have HL := Lib.hid (fun W => less_any (strOfNums yl) (strOfNums kl) W (by rw [str_size]; have := HSY.out; omega) (by rw [str_size]; have := HSX.out; omega))
              rw [nums_of_str _ HZ.out.byt, nums_of_str _ HX.out.byt] at HL
              have hfl := cmpL_flip yl kl
              have h3 := cmpL_three yl kl
              obtain ⟨q, hq⟩ : ∃ m, yl.length = m := ⟨_, rfl⟩
              rw [hq] at b0 C1
              clear hq
              by_cases hz : cmpL yl kl = -1
              · have HV := Lib.hid (rises_next hris.out HQ.out (by rw [HE.out]; simp only [Bp.rd]; rw [hfl, hz]; rfl))
                rw [hz] at HL
                clear hm0 hm hz hfl h3
                go_upto_region 12 with fail
                go_quiet ((go_at_call 22; first | exact drawn_on HL.out _ _ _ | exact Calls.quiet_of (HL.out _)))
                go_wp2_with fail
                go_roundw
                case rel => exact ⟨i + 1 + 1, _, by omega, by go_num, rfl, HV⟩
                case measure => simp [intOf]; omega
              · rw [buildP_key HF.out (rises_not HQ.out (by rw [HE.out]; simp only [Bp.rd]; rw [hfl]; omega))]
                have hz0 : 0 ≤ cmpL yl kl := by omega
                generalize cmpL yl kl = z at HL hz0
                clear hm0 hm hz hfl h3
                go_upto_region 12 with fail
                go_quiet ((go_at_call 22; first | exact drawn_on HL.out _ _ _ | exact Calls.quiet_of (HL.out _)))
                go_wp2_with fail
                go_ret2
                exact built_none ⟨rfl, by repeat (first | exact Below.refl _ _ | refine below_drewN ?_ _)⟩
        · obtain rfl : j = k := by omega
          have hris' := hris.out
          rw [List.take_of_length_le (by rw [HR.out, HN.out]; omega)] at hris'
          have HRS := Lib.hid hris'
          obtain ⟨wd, hwd⟩ : ∃ wd, w.drewN dr = wd := ⟨_, rfl⟩
          have BD : Hid (Below w.heap.size w wd) := Lib.hid (hwd ▸ below_drewN (Below.refl _ _) dr)
          rw [hwd]
          clear hris hris' hwd
          go_wp2_with fail
          go_loopw [6, 7, 72] (fun t6 t7 t72 wr => ∃ (i : Nat) (A2 : Option Addr) (c2 m : Nat), i ≤ j ∧ t72 = .int .i64 i ∧ t6 = .slice A2 m c2 ∧ t7 = .string (strOfNums (lastK [] ((rds l).take i))) ∧ Hid ((flatP [] ((rds l).take i)).length = m) ∧ Hid (Row wr w.heap.size A2 c2 (flatP [] ((rds l).take i))) ∧ Hid (Below w.heap.size w wr)) (fun _ _ t72 _ => j - (intOf t72).toNat)
          case atStart => exact ⟨0, none, 0, 0, by omega, rfl, rfl, rfl, Lib.hid rfl, Lib.hid (Row.nil _ _), BD⟩
          case round =>
            obtain ⟨i, A2, c2, m, hij, rfl, rfl, rfl, hfl, hrow, hbl⟩ := hrel
            by_cases hli : i < j
            · have hq := List.getElem?_eq_getElem (l := l) (i := i) (by have := HN.out; omega)
              generalize l[i]'(by have := HN.out; omega) = x at hq
              obtain ⟨ad, rfl, a0, a1⟩ := lies_pair (HP.out _ hbl.out) hq
              have HA := Lib.hid (fun (w' : World) (hb : Below w.heap.size w w') => lies_pair_at (HP.out w' hb) hq)
              have HX := Lib.hid (fun (w' : World) (hb : Below w.heap.size w w') => (HI.out w' hb) x (List.mem_of_getElem? hq))
              have HQ0 := Lib.hid hq
              have HQ := Lib.hid (rds_get hq)
              have HSX := Lib.hid (HF.out.2 x.rd (List.mem_of_getElem? HQ.out))
              have HGB := Lib.hid (lastK_byt [] ((rds l).take i) Byt.nil (fun p hp => HY.out p (List.mem_of_mem_take hp)))
              have HGS := Lib.hid (lastK_short [] ((rds l).take i) (by simp) (fun p hp => HF.out.2 p (List.mem_of_mem_take hp)))
              have HFL := Lib.hid (flatP_len [] ((rds l).take i) (fun p hp => HF.out.2 p (List.mem_of_mem_take hp)))
              have HTL : Hid (((rds l).take i).length ≤ 4096) := Lib.hid (by rw [List.length_take]; have := HF.out.1; omega)
              have HFN : Hid (flatP [] ((rds l).take (i + 1)) = flatP [] ((rds l).take i) ++ formP (lastK [] ((rds l).take i)) x.rd) := Lib.hid (by rw [take_next HQ.out, flatP_snoc])
              have HKN := Lib.hid (lastK_take HQ.out)
              clear hq
              obtain ⟨⟨ka, kc, kl⟩, ⟨va, vc, vl⟩⟩ := x
              simp only [Bp.rd] at a0 a1 HX HSX HFN HKN
              have HSK : Hid (kl.length ≤ 200 ∧ vl.length ≤ 4096) := Lib.hid ⟨HSX.out.1, HSX.out.2⟩
              clear HSX
              generalize flatP [] ((rds l).take i) = F at hfl hrow HFL HFN
              generalize lastK [] ((rds l).take i) = G at HGB HGS HFN ⊢
              have C0 := conv_any (HX.out _ hbl.out).1.bys kl.length kc rfl
              have HKB := Lib.hid (HX.out _ hbl.out).1.byt
              obtain ⟨N, hN⟩ : ∃ N, alike kl G = N := ⟨_, rfl⟩
              have HSh := Lib.hid (fun W => shared_any (strOfNums G) (strOfNums kl) W (by rw [str_size]; have := HGS.out; omega) (by rw [str_size]; have := HSK.out.1; omega))
              rw [nums_of_str _ HGB.out, nums_of_str _ HKB.out, alike_comm, hN] at HSh
              have hNl : N ≤ kl.length := by rw [← hN]; exact (alike_le _ _).1
              have hsz := str_size kl
              have sl := str_low kl N hNl
              have HFM : Hid (formP G (kl, vl) = digs N ++ (digs ((kl.length - N : Nat) : Int) ++ (digs vl.length ++ (kl.drop N ++ vl)))) := Lib.hid (by unfold formP; simp only [hN])
              have HDL : Hid ((kl.drop N).length = kl.length - N) := Lib.hid (List.length_drop)
              have HDB : Hid (Byt (kl.drop N)) := Lib.hid (HKB.out.drop N)
              obtain ⟨mk, hmk⟩ : ∃ mk, kl.length = mk := ⟨_, rfl⟩
              obtain ⟨z, hz⟩ : ∃ z, vl.length = z := ⟨_, rfl⟩
              simp only [hmk, hz] at a0 a1 C0 hNl hsz HX HSK HFM HDL
              have HZ := Lib.hid (And.intro hmk hz)
              have HA2 : Hid (∀ w' : World, Below w.heap.size w w' → w'.cell? (ad.add (i * 2)) = some (.slice ka mk kc) ∧ w'.cell? ⟨(ad.add (i * 2)).block, (ad.add (i * 2)).off + 1, none⟩ = some (.slice va z vc)) := Lib.hid (fun w' hb => by
                have := HA.out w' hb
                unfold AtP at this
                simp only [HZ.out.1, HZ.out.2] at this
                exact this)
              obtain ⟨D, hD⟩ : ∃ D, kl.drop N = D := ⟨_, rfl⟩
              rw [hD] at sl HFM HDL HDB
              have e1 : IntKind.u64.wrap (N : Int) = N := by rw [IntKind.wrap_u64]; have := HSK.out.1; omega
              have e2 : IntKind.u64.wrap ((mk : Int) - N) = (mk : Int) - N := by rw [IntKind.wrap_u64]; have := HSK.out.1; omega
              have e3 : IntKind.u64.wrap (z : Int) = z := by rw [IntKind.wrap_u64]; have := HSK.out.2; omega
              have HE2 : Hid (((mk - N : Nat) : Int) = (mk : Int) - N) := Lib.hid (by omega)
              have hmk2 : (mk : Int) ≤ 200 := by have := HSK.out.1; omega
              have hz2 : (z : Int) ≤ 4096 := by have := HSK.out.2; omega
              have HM : Hid (m ≤ 20000000) := Lib.hid (by have := HFL.out; have := HTL.out; have := hfl.out; omega)
              have HN2 : Hid (N ≤ 200) := Lib.hid (by omega)
              have i0 : (i : Int) < j := by omega
              have U1 := Lib.hid (fun W (hb : Below wr.heap.size wr W) => appendUintR_any A2 F m c2 (N : Int) W hfl.out ((hrow.out.kept hb (Nat.le_refl _)).lies) (by omega) (by have := HN2.out; omega) (by have := HM.out; have := hfl.out; omega))
              have T1 := Lib.hid trivial
              have T2 := Lib.hid trivial
              have T3 := Lib.hid trivial
              clear hN hmk hz hD HA HKB HX
              go_upto_region 25 with (first
                | (go_at_call 23; refine (HSh.out _).mono ?_; rintro e q0 ⟨rfl, dq, rfl⟩; have B0 : Hid (Below wr.heap.size wr (wr.drewN dq)) := Lib.hid (below_drewN (Below.refl _ _) dq))
                | (have t1 := T1; go_at_call 24; (with_reducible refine (U1.out _ B0.out).mono ?_); rintro e w1 ⟨g1, c1, rfl, m1, b1⟩; have R1 := Lib.hid m1.row; have B1 := Lib.hid (below_then B0.out b1); have hl1 : Hid ((F ++ digs (N : Int)).length ≤ m + 10) := Lib.hid (by have := (digs_len (N : Int)).2; have := hfl.out; rw [List.length_append]; omega); clear m1 b1 T1 t1)
                | (have t2 := T2; go_at_call 24; (with_reducible refine (appendUintR_any _ (F ++ digs (N : Int)) _ _ ((mk : Int) - N) w1 (by simp only [List.length_append]) R1.out.lies (by omega) (by omega) (by have := hl1.out; have := HM.out; omega)).mono ?_); rintro e w2 ⟨g2, c2', rfl, m2, b2⟩; have R2 := Lib.hid m2.row; have B2 := Lib.hid (below_then B1.out b2); have hl2 : Hid (((F ++ digs (N : Int)) ++ digs ((mk : Int) - N)).length ≤ m + 20) := Lib.hid (by have := (digs_len ((mk : Int) - N)).2; have := hl1.out; rw [List.length_append]; omega); have v2 := (HA2.out w2 (hbl.out.trans (B2.out.mono hbl.out.size))).2; clear m2 b2 T2 t2)
                | (have t3 := T3; go_at_call 24; (with_reducible refine (appendUintR_any _ ((F ++ digs (N : Int)) ++ digs ((mk : Int) - N)) _ _ (z : Int) w2 (by simp only [List.length_append, Nat.add_assoc]) R2.out.lies (by omega) (by omega) (by have := hl2.out; have := HM.out; omega)).mono ?_); rintro e w3 ⟨g3, c3', rfl, m3, b3⟩; have R3 := Lib.hid m3.row; have B3 := Lib.hid (below_then B2.out b3); have hl3 : Hid ((((F ++ digs (N : Int)) ++ digs ((mk : Int) - N)) ++ digs (z : Int)).length ≤ m + 30) := Lib.hid (by have := (digs_len (z : Int)).2; have := hl2.out; rw [List.length_append]; omega); have v3 := (HA2.out w3 (hbl.out.trans (B3.out.mono hbl.out.size))).2; clear m3 b3 T3 t3))
              have HAV : Hid (∀ W : World, Below w.heap.size w W → W.cell? ⟨(ad.add (i * 2)).block, (ad.add (i * 2)).off + 1, none⟩ = some (.slice va z vc)) := Lib.hid (fun W hb => (HA2.out W hb).2)
              have HVB := Lib.hid (fun W (hb : Below w.heap.size w W) => (HI.out W hb) _ (List.mem_of_getElem? HQ0.out) |>.2.bys)
              have CB : Hid (Below w.heap.size w w3) := Lib.hid (hbl.out.trans (B3.out.mono hbl.out.size))
              have T4 := Lib.hid trivial
              have T5 := Lib.hid trivial
              go_region_held3 (fun W => W.cell? ⟨(ad.add (i * 2)).block, (ad.add (i * 2)).off + 1, none⟩ = some (.slice va z vc)) (first | exact HAV.out _ CB.out | exact HAV.out _ CB.out.drew | go_keep) (first
                | (have t4 := T4; refine step_append_str _ (by rfl) (.tmp 104) (.tmp 107) (by rfl) w.heap.size _ _ (((F ++ digs (N : Int)) ++ digs ((mk : Int) - N)) ++ digs (z : Int)) D _ _ rfl rfl (by simp only [List.length_append, Nat.add_assoc]) rfl ?_ HDB.out ?_ ?_ ?_; (refine Row.mono (B := w2.heap.size) ?_ ?_; (exact R3.out.kept (by repeat (first | with_reducible exact BB.out | with_reducible exact Below.refl _ _ | with_reducible refine Below.drew ?_ | with_reducible refine below_al ?_ _)) (Nat.le_refl _)); (have := hbl.out.size; have := B2.out.size; omega)); (exact CB.out.size); (have := hl3.out; have := HM.out; have := HDL.out; omega); intro A4 c4 w4 r4 b4; have R4 := Lib.hid r4; have CB : Hid (Below w.heap.size w w4) := Lib.hid (CB.out.drew.trans b4); clear r4 b4 T4 t4)
                | (have t5 := T5; refine step_append_row _ (by rfl) (.tmp 108) (.tmp 113) (by rfl) w.heap.size A4 c4 ((((F ++ digs (N : Int)) ++ digs ((mk : Int) - N)) ++ digs (z : Int)) ++ D) vl va _ z vc rfl rfl (by simp only [List.length_append, Nat.add_assoc]) HZ.out.2 R4.out (HVB.out _ CB.out) CB.out.size ?_ ?_; (have := hl3.out; have := HM.out; have := HDL.out; have := HZ.out; rw [List.length_append]; omega); intro A5 c5 w5 r5 b5; have R5 := Lib.hid r5; have CB : Hid (Below w.heap.size w w5) := Lib.hid (CB.out.trans b5); clear r5 b5 T5 t5))
              have HEQ : Hid ((((F ++ digs (N : Int)) ++ digs ((mk : Int) - N)) ++ digs (z : Int)) ++ D ++ vl = flatP [] ((rds l).take (i + 1))) := Lib.hid (by rw [HFN.out, HFM.out, HE2.out]; simp only [List.append_assoc])
              rw [HEQ.out] at R5
              go_wp2_with fail
              go_roundw
              case rel => exact ⟨i + 1, A5, c5, _, by omega, by go_num, rfl, by rw [HKN.out], Lib.hid (by rw [← HEQ.out]; simp only [List.length_append, HZ.out.2]; omega), R5, CB⟩
              case measure => simp [intOf]; omega
            · obtain rfl : i = j := by omega
              have e : (rds l).take i = rds l := List.take_of_length_le (by rw [HR.out, HN.out]; omega)
              rw [e] at hfl hrow
              have hm := hfl.out
              clear hfl
              subst hm
              go_wp2_with fail
              go_ret2
              rw [buildP_ok HF.out HRS.out]
              exact ⟨A2, c2, rfl, hrow.out, hbl.out⟩

end Go.Proofs.Ytimonpoeieenpaa
