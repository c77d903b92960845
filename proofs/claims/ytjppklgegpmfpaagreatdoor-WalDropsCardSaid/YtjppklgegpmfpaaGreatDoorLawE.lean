/-
  The program's Drop; the law WalDrops, walked.
-/
import Derived.Test.YtjppklgegpmfpaaGreatDoorLawB
import Derived.Test.YtjppklgegpmfpaaGreatDoorLast
import Derived.Deep.DeepAppendRoom
namespace Go.Proofs.YtjppklgegpmfpaaGreatDoor
open Go.RowKit
open Go.Maps

/-- The segments that Drop leaves. -/
def keepB (below : Int) (num : Nat) (x : Gr) : Bool := decide (below ≤ (x.1 : Int)) || decide (x.1 = num)
theorem delete_seg {p : ByteArray} {m : Vm} {L : List Sg} (hp : IsPre p) (hs : Still m) (hf : m.fs = segFs p L) (hr : Rising L) {i : Nat} {x : Sg} (hx : L[i]? = some x) : m.delete (seg p x.1) = ({ m with fs := segFs p (L.eraseIdx i) }, 0) := by
  unfold Vm.delete
  rw [hinder_seg hp hs.down hf hr hx, hs.does]
  have e : m.fs.eraseIdx ((findM (seg p x.1) m.fs).getD 0) = segFs p (L.eraseIdx i) := by
    rw [hf, findM_seg hr hx]
    unfold segFs
    simp only [Option.getD_some]
    exact (map_erase _ L i).symm
  rw [e]
/-- What is left behind k segments. -/
def left (P : Gr → Bool) (G : List Gr) (k : Nat) : List Gr := (G.take k).filter P ++ G.drop k
theorem left_sub (P : Gr → Bool) (G : List Gr) (k : Nat) : (left P G k).Sublist G := by
  have h : ((G.take k).filter P ++ G.drop k).Sublist (G.take k ++ G.drop k) := List.Sublist.append List.filter_sublist (List.Sublist.refl _)
  rwa [List.take_append_drop] at h
theorem left_zero (P : Gr → Bool) (G : List Gr) : left P G 0 = G := by simp [left]
theorem left_end (P : Gr → Bool) (G : List Gr) : left P G G.length = G.filter P := by simp [left]
theorem left_yes {P : Gr → Bool} {G : List Gr} {k : Nat} {x : Gr} (hx : G[k]? = some x) (h : P x = true) : left P G (k + 1) = left P G k := by
  obtain ⟨hk, e⟩ := List.getElem?_eq_some_iff.1 hx
  unfold left
  rw [List.take_add_one, hx, List.filter_append, List.drop_eq_getElem_cons hk, e]
  simp [h]
theorem left_no {P : Gr → Bool} {G : List Gr} {k : Nat} {x : Gr} (hx : G[k]? = some x) (h : P x = false) : (left P G k)[((G.take k).filter P).length]? = some x ∧ left P G (k + 1) = (left P G k).eraseIdx ((G.take k).filter P).length := by
  obtain ⟨hk, e⟩ := List.getElem?_eq_some_iff.1 hx
  unfold left
  rw [List.take_add_one, hx, List.filter_append, List.drop_eq_getElem_cons hk, e]
  refine ⟨by simp, ?_⟩
  rw [List.eraseIdx_append_of_length_le (Nat.le_refl _)]
  simp [h]
theorem Rising.sub {L M : List Sg} (h : Rising L) (hs : M.Sublist L) : Rising M := ⟨h.lt.sublist hs, fun x hx => h.inn x (hs.subset hx)⟩
theorem total_sub {G H : List Gr} (hs : H.Sublist G) : ∀ r ∈ total H, r ∈ total G := fun r hr => by
  unfold total at hr ⊢
  obtain ⟨l, hl, h⟩ := List.mem_flatten.1 hr
  obtain ⟨x, hx, rfl⟩ := List.mem_map.1 hl
  exact List.mem_flatten.2 ⟨_, List.mem_map_of_mem (hs.subset hx), h⟩
theorem K.sub {p : ByteArray} {m m' : Vm} {G H : List Gr} (h : K p m G) (hs : H.Sublist G) (hf : m'.fs = segFs p (H.map raw)) : K p m' H := by
  have hr : Rising (H.map raw) := h.rise.sub (hs.map raw)
  refine ⟨hf, hr, fun r hr => h.fine r (total_sub hs r hr), fun x hx => h.part x (hs.subset hx), fun M x e y hy => ?_⟩
  subst e
  have hy' : y ∈ G := hs.subset (List.mem_append_left _ hy)
  have hx' : x ∈ G := hs.subset (List.mem_append_right _ (List.mem_singleton.2 rfl))
  have hlt := rise_lt hr y hy
  rcases List.eq_nil_or_concat G with rfl | ⟨N, z, rfl⟩
  · cases hy'
  · rw [List.concat_eq_append] at *
    rcases List.mem_append.1 hy' with h1 | h1
    · exact h.full N z rfl y h1
    · rw [List.mem_singleton.1 h1] at hlt
      rcases List.mem_append.1 hx' with h2 | h2
      · have := rise_lt h.rise x h2
        omega
      · rw [List.mem_singleton.1 h2] at hlt
        omega
def lessM (p : ByteArray) (below : Int) (s : Ls) (G : List Gr) (k : Nat) : Vm := { s.m with fs := segFs p ((left (keepB below s.num) G k).map raw) }

set_option maxRecDepth 100000 in
set_option maxHeartbeats 8000000 in
theorem dropJ (B g lb n : Nat) (d : Pk) (s : Ls) (G : List Gr) (p : ByteArray) (size : Nat) (below : Int) (w : World) (h : LSt w B g lb d s p size) (hp : IsPre p) (hk : K p s.m G) (hs : Still s.m) (hT : Tab B w) (hf : Fits s.m 0) (hn : G.length = n) (hn6 : n ≤ 1000000) :
    Calls Tryz.prog 17 #[.pointer (some ⟨lb, 0, none⟩), .int .i64 below] w fun e w' => e = .returned (.int .i64 0) ∧ LRest w B g lb d p size { s with m := lessM p below s G n } w' := by
  have H := Lib.hid h
  have HK := Lib.hid hk
  have HST := Lib.hid hs
  have HG := Lib.hid hn
  have HT := Lib.hid hT
  have hin : ∀ k ∈ G.map (fun x => x.1), 1 ≤ k ∧ k ≤ 999999 := fun k hk' => by
    obtain ⟨x, hx, rfl⟩ := List.mem_map.1 hk'
    exact hk.rise.inn (raw x) (List.mem_map_of_mem hx)
  have HI := Lib.hid hin
  have HN := Lib.hid (numbers_any B g lb d s p size n (G.map (fun x => x.1)) w h hs.down hf (by rw [hk.fs]; unfold segFs; simp only [List.map_map]; rfl) (by rw [List.length_map, hn]) hin hn6)
  clear h hk hs hT hf hn hin
  obtain ⟨m, num, len⟩ := s
  have hn9 : (n : Int) ≤ 9223372036854775807 := by omega
  go_enter Tryz.func17, Tryz.ntmps17
  go_wp2_with (go_at_call 32; refine HN.out.mono ?_; rintro e w1 ⟨A1, c1, rfl, hr, hb⟩; have R1 := Lib.hid hr; have B1 := Lib.hid hb; clear hr hb HN)
  have L1 : Hid (LSt w1 B g lb d ⟨m, num, len⟩ p size) := Lib.hid (H.out.kept B1.out)
  have O1 : Hid (∀ ad, A1 = some ad → ¬ lown d g lb ad.block ∧ ad.block < w1.heap.size) := Lib.hid (fun ad ha => ⟨fun ho => by have h1 := (H.out.owned _ ho).2; have h2 := (own_in R1.out ad ha).1; omega, (own_in R1.out ad ha).2⟩)
  go_loopw [22] (fun t22 wr => ∃ (k : Nat) (d' : Pk), k ≤ n ∧ t22 = .int .i64 (k : Int) ∧ Hid (LSt wr B g lb d' ⟨lessM p below ⟨m, num, len⟩ G k, num, len⟩ p size ∧ Does (lown d g lb) (lown d' g lb) w1 wr)) (fun t22 _ => n - (intOf t22).toNat)
  case atStart =>
    refine ⟨0, d, by omega, rfl, Lib.hid ⟨?_, Does.refl _ _⟩⟩
    have e : lessM p below ⟨m, num, len⟩ G 0 = m := by
      unfold lessM
      rw [left_zero, ← HK.out.fs]
    rw [e]
    exact L1.out
  case round =>
    obtain ⟨k, d', hk, rfl, Q⟩ := hrel
    by_cases hlt : k < n
    · have hx := List.getElem?_eq_getElem (l := G) (i := k) (by have := HG.out; omega)
      generalize G[k]'(by have := HG.out; omega) = x at hx
      have HX := Lib.hid hx
      have hR : Irow wr w.heap.size A1 c1 (zs (G.map (fun x => x.1))) := own_block R1.out (fun ad ha => Q.out.2.block _ (O1.out ad ha).2 (O1.out ad ha).1)
      obtain ⟨ad, rfl, a0⟩ := ints_at hR.lies (show (zs (G.map (fun x => x.1)))[k]? = some ((x.1 : Nat) : Int) by unfold zs; rw [List.getElem?_map, List.getElem?_map, hx]; rfl)
      obtain ⟨x1, x2⟩ := HI.out x.1 (List.mem_map_of_mem (List.mem_of_getElem? hx))
      obtain ⟨-, -, -, c3, -⟩ := Q.out.1.lg.cell
      simp only at c3
      obtain ⟨y, hy⟩ : ∃ y, x.1 = y := ⟨_, rfl⟩
      have HY := Lib.hid hy
      rw [hy] at a0 x1 x2
      clear hx hR hy
      by_cases hA : below ≤ (y : Int)
      · have hE : lessM p below ⟨m, num, len⟩ G (k + 1) = lessM p below ⟨m, num, len⟩ G k := by
          unfold lessM
          rw [left_yes HX.out (by unfold keepB; rw [HY.out]; simp [hA])]
        go_wp2_with fail
        go_roundw
        case rel => exact ⟨k + 1, d', by omega, by go_num, by rw [hE]; exact Q⟩
        case measure => simp [intOf]; omega
      · by_cases hB : ((y : Int) == (num : Int)) = true
        · have hE : lessM p below ⟨m, num, len⟩ G (k + 1) = lessM p below ⟨m, num, len⟩ G k := by
            unfold lessM
            have : y = num := by have := eq_of_beq hB; omega
            rw [left_yes HX.out (by unfold keepB; rw [HY.out]; simp [this])]
          have hA' : decide (below ≤ (y : Int)) = false := by simpa using hA
          go_wp2_with fail
          go_roundw
          case rel => exact ⟨k + 1, d', by omega, by go_num, by rw [hE]; exact Q⟩
          case measure => simp [intOf]; omega
        · have hA' : decide (below ≤ (y : Int)) = false := by simpa using hA
          have hB' : ((y : Int) == (num : Int)) = false := by simpa using hB
          have HC := Lib.hid (fun (W : World) (e : W.heap[lb]? = wr.heap[lb]?) => ((Q.out.1.lg.of e).cell.1 : W.cell? ⟨lb, 0, none⟩ = some (.pointer (some ⟨g, 0, none⟩))))
          have HL := Lib.hid Q.out.1.lg.lt
          have HNM := Lib.hid (fun (W : World) (hb : Below wr.heap.size wr W) => name_any B lb g y ⟨p, size, num, len⟩ W hp x2 (Q.out.1.lg.kept hb) (((HT.out.on (B1.out.mono H.out.size_le)).on (Q.out.2.below (Nat.le_trans H.out.size_le B1.out.size) (fun k hk => (L1.out.owned k hk).1))).on (hb.mono Q.out.1.size_le)) (Nat.le_trans Q.out.1.size_le hb.size))
          have HS : Hid (∀ W, Below wr.heap.size wr W → Calls Tryz.prog 33 #[.pointer (some ⟨g, 0, none⟩), .string (seg p y)] W fun e w' => e = .returned (.int .i64 0) ∧ Rest W B g d' (lessM p below ⟨m, num, len⟩ G (k + 1)) w') := Lib.hid (fun W hb => by
            obtain ⟨l1, l2⟩ := left_no (P := keepB below num) HX.out (by unfold keepB; rw [HY.out, hA']; have : ¬ y = num := fun e => hB (by rw [e]; simp); simp [this])
            refine delete_vm B g d' (lessM p below ⟨m, num, len⟩ G k) _ 0 (seg p y) W (Q.out.1.ps.kept hb) Q.out.1.vm (pre_size hp y) ?_
            have hst : Still (lessM p below ⟨m, num, len⟩ G k) := ⟨HST.out.down, HST.out.left, HST.out.room⟩
            have := delete_seg (L := (left (keepB below num) G k).map raw) (x := raw x) hp hst rfl (HK.out.rise.sub ((left_sub _ _ _).map raw)) (i := ((G.take k).filter (keepB below num)).length) (by rw [List.getElem?_map, l1]; rfl)
            rw [show (raw x).1 = y from HY.out] at this
            rw [this, ← map_erase, ← l2]
            rfl)
          simp only at HNM
          generalize hsg : seg p y = sg at HNM HS
          clear hsg
          go_upto_region 10 with fail
          go_region_held3 (fun W => W.cell? ⟨lb, 0, none⟩ = some (.pointer (some ⟨g, 0, none⟩))) (first | exact HC.out _ E2.out | exact HC.out _ (E1.out.block _ HL.out) | exact HC.out _ rfl | go_keep) (first
            | (go_at_call 26; refine (HNM.out _ (by repeat (first | exact Below.refl _ _ | refine Below.drew ?_))).mono ?_; rintro e w2 ⟨rfl, hb⟩; have E1 : Hid (Below wr.heap.size wr w2) := Lib.hid ((by repeat (first | exact Below.refl _ _ | refine Below.drew ?_) : Below wr.heap.size wr _).trans hb); clear hb)
            | (go_at_call 33; refine (HS.out _ (by first | exact E1.out | exact E1.out.drew)).mono ?_; rintro e w3 ⟨rfl, hb⟩; have E3 := Lib.hid (Q.out.1.kept E1.out |>.rest hb); have E2 : Hid (w3.heap[lb]? = wr.heap[lb]?) := Lib.hid (by obtain ⟨d', x1, x2, x3⟩ := hb; exact (x3.block lb (Nat.lt_of_lt_of_le HL.out E1.out.size) Q.out.1.off).trans (E1.out.block lb HL.out)); clear hb))
          obtain ⟨d3, hl3, hd3⟩ := E3.out
          have E4 : Hid (LSt w3 B g lb d3 ⟨lessM p below ⟨m, num, len⟩ G (k + 1), num, len⟩ p size ∧ Does (lown d g lb) (lown d3 g lb) w1 w3) := Lib.hid ⟨hl3, (Q.out.2.trans (Does.of_below E1.out (fun _ hk => .inl hk))).trans hd3⟩
          clear hl3 hd3 E3 E1 E2
          go_wp2_with fail
          go_roundw
          case rel => exact ⟨k + 1, d3, by omega, by go_num, E4⟩
          case measure => simp [intOf]; omega
    · obtain rfl : k = n := by omega
      go_wp2_with fail
      go_ret
      exact ⟨rfl, d', Q.out.1, (Does.of_below B1.out (fun _ hk => .inl hk)).trans Q.out.2⟩

/-- One number more: the row stays in its block, or lies in a new one. -/
theorem irow_place (w : World) (ty : TypeId) (B : Nat) (A : Option Addr) (c : Nat) (T : List Int) (v : Int) (C : Option Addr) (cm : Nat) (h : Irow w B A c T) (hm : Ints w C [v]) (hB : B ≤ w.heap.size) (hr : (T.length + 1) * 8 ≤ 140737488355328) :
    ∃ A' c' w', (Builtin.append_ #[23, 23] ty #[.slice A T.length c, .slice C 1 cm]).run Tryz.prog w = .ok (.slice A' (T.length + 1) c') w' ∧ Irow w' B A' c' (T ++ [v]) ∧ w.grownBy w' (Value.slice A T.length c).ownBlock ∧ Below B w w' ∧ ∀ ad, A' = some ad → (∃ a0, A = some a0 ∧ ad.block = a0.block) ∨ w.heap.size ≤ ad.block := by
  obtain ⟨i, hi, hz0, hz1, hz2⟩ := info_parts info3
  obtain ⟨A', c', w', r, h2, h3, h4⟩ := run_append_grown (P := Tryz.prog) w 23 ty 3 i (.int .i64 0) 1 8 Tryz.underlying23 hi hz0 hz1 hz2 rfl (by decide) B A T.length c (ivals T) h C 1 cm (ivals [v]) rfl hm ivals_one (by unfold maxLen; omega) hr hB
  have e : ivals T ++ ivals [v] = ivals (T ++ [v]) := by simp [ivals]
  rw [e] at h2
  refine ⟨A', c', w', r, by unfold Irow; rw [List.length_append]; exact h2, h4, h3, fun ad ha => ?_⟩
  obtain ⟨cd, rfl, hc⟩ := hm.resolve_left (by simp [ivals])
  rcases h.2 with ⟨hv, h0⟩ | ⟨g, cap, cur, hv, hbg, hg, hnc, hcm, hcs, htake⟩
  · injection hv with e1 e2 e3
    subst e1
    subst e3
    have hr := run_append_nil (P := Tryz.prog) w 23 ty 3 i (.int .i64 0) Tryz.underlying23 hi hz0 cd 1 cm (ivals [v]) (by rw [hz1]; rfl) hc (by decide) (by decide) (by rw [hz2]; decide)
    rw [e2, hr] at r
    injection r with r1 r2
    injection r1 with r1
    rw [ha] at r1
    injection r1 with r1
    rw [← r1]
    exact .inr (Nat.le_refl _)
  · injection hv with e1 e2 e3
    subst e1
    subst e3
    by_cases hroom : T.length + 1 ≤ c
    · obtain ⟨w2, hr, -, -⟩ := run_append_own_spare (P := Tryz.prog) w B 23 ty 3 i 1 Tryz.underlying23 hi hz1 g T.length c (ivals T) h cd 1 cm (ivals [v]) rfl hc ivals_one hroom
      rw [hr] at r
      injection r with r1 r2
      injection r1 with r1
      rw [ha] at r1
      injection r1 with r1
      exact .inl ⟨_, rfl, by rw [← r1]⟩
    · have hr := run_append_grow (P := Tryz.prog) w 23 ty 3 i (.int .i64 0) Tryz.underlying23 hi hz0 ⟨g, 0, none⟩ T.length c (ivals T) (by rw [hz1]; simp [ivals]) (World.ownsRow.cells h (g := g) rfl) cd 1 cm (ivals [v]) (by rw [hz1]; rfl) hc (by omega) (by omega) (by rw [hz2]; exact growslice_fits (by omega) hr)
      rw [hr] at r
      injection r with r1 r2
      injection r1 with r1
      rw [ha] at r1
      injection r1 with r1
      rw [← r1]
      exact .inr (Nat.le_refl _)
theorem wpList_append_irowg (w : World) {ops : Array Oper} {rest : List Oper} {o : Oper} {a : Act} {Q : Exit → Act → World → Prop} (hgd : o.guard = none) (s x : Operand)
    (ho : o.op = .call { callee := .builtin .append, args := #[s, x], argTypes := #[23, 23] })
    (B : Nat) (A : Option Addr) (c : Nat) (T : List Int) (v : Int) (C : Option Addr) (n cm : Nat) (hs : a.eval s = .slice A n c) (hx : a.eval x = .slice C 1 cm) (en : T.length = n) (h : Irow w B A c T) (hm : Ints w C [v]) (hB : B ≤ w.heap.size) (hr : (T.length + 1) * 8 ≤ 140737488355328)
    (k : ∀ A' c' w', Irow w' B A' c' (T ++ [v]) → w.grownBy w' (Value.slice A n c).ownBlock → Below B w w' → (∀ ad, A' = some ad → (∃ a0, A = some a0 ∧ ad.block = a0.block) ∨ w.heap.size ≤ ad.block) → wpList Tryz.prog ops Q rest (a.put o.dst (.slice A' (n + 1) c')) w') : wpList Tryz.prog ops Q (o :: rest) a w := by
  subst en
  refine wpList_plain hgd fun K hK => ?_
  obtain ⟨A', c', w', r, h2, h3, h4, h5⟩ := irow_place w o.type B A c T v C cm h hm hB hr
  have k' := k A' c' w' h2 h3 h4 h5
  unfold Oper.wp execOp
  simp only [ho, resolve, invoke, builtin, Sem.run_bind, Sem.run_pure, Result.andThen_ok, List.map_toArray, List.map_cons, List.map_nil, hs, hx, r]
  exact hK _ _ k'
theorem Kq.kept {w wr w' : World} {g lb size n : Nat} {p : ByteArray} {T : List Sl} {i se su : Nat} {r : Int} {d : Pk} {s : Ls} {G : List Gr} (h : Kq w wr g lb size n p T i se su r d s G) (hb : Below wr.heap.size wr w') : Kq w w' g lb size n p T i se su r d s G :=
  ⟨h.ls.kept hb, h.bel.trans (hb.mono h.bel.size), h.k, h.tot, h.sure, h.sent, h.upto, h.top, h.ways⟩
theorem Kq.grown {w wr w' : World} {g lb size n : Nat} {p : ByteArray} {T : List Sl} {i se su : Nat} {r : Int} {d : Pk} {s : Ls} {G : List Gr} {row : Option Nat} (h : Kq w wr g lb size n p T i se su r d s G) (hg : wr.grownBy w' row) (hr : ∀ b, row = some b → ¬ lown d g lb b ∧ w.heap.size ≤ b) : Kq w w' g lb size n p T i se su r d s G :=
  ⟨h.ls.of (fun k hk => hg.block k (h.ls.owned k hk).2 (fun e => (hr k e.symm).1 hk)), h.bel.trans ⟨hg.os, hg.tape, hg.output, hg.size, fun k hk => hg.block k (Nat.lt_of_lt_of_le hk h.bel.size) (fun e => by have := (hr k e.symm).2; omega)⟩, h.k, h.tot, h.sure, h.sent, h.upto, h.top, h.ways⟩
theorem Kq.ones {w wr : World} {g lb size n : Nat} {p : ByteArray} {T : List Sl} {i su : Nat} {d : Pk} {s : Ls} {G : List Gr} (h : Kq w wr g lb size n p T i i su 0 d s G) (hn : n = T.length) (hb : i ≤ 100000) : (total G).length = i ∧ (∀ x ∈ G, x.1 ≤ 200000) ∧ s.num + 1 ≤ 200000 := by
  obtain ⟨-, hnum, hj, hd⟩ := h.go
  have htk : ((byts T).take i).length = i := by rw [List.length_take, byts_len]; have := h.upto; omega
  exact ⟨by rw [h.tot, htk], fun x hx => by have := h.top x hx; omega, by omega⟩
theorem tags_len (G : List Gr) : (tags G).length = (total G).length := by
  induction G with
  | nil => rfl
  | cons x G ih =>
    have e : x :: G = [x] ++ G := rfl
    rw [e, tags_append, total_append, tags_one, total_one, List.length_append, List.length_append, ih, List.length_replicate]
/-- The records that a dropping leaves. -/
def pickB (below : Int) (num : Nat) (y : Nat × List Int) : Bool := decide (below ≤ (y.1 : Int)) || decide (y.1 = num)
theorem zip_rep (k : Nat) : ∀ ps : List (List Int), (List.replicate ps.length k).zip ps = ps.map (fun r => (k, r))
  | [] => rfl
  | p :: ps => by simp [List.replicate_succ, zip_rep k ps]
theorem total_pick (below : Int) (num : Nat) (G : List Gr) : total (G.filter (keepB below num)) = (((tags G).zip (total G)).filter (pickB below num)).map Prod.snd := by
  induction G with
  | nil => rfl
  | cons x G ih =>
    have e : x :: G = [x] ++ G := rfl
    rw [e, List.filter_append, total_append, tags_append, total_append, tags_one, total_one, List.zip_append (by simp), List.filter_append, List.map_append, ← ih, zip_rep]
    congr 1
    obtain ⟨k, ps, a⟩ := x
    by_cases h : keepB below num (k, ps, a) = true
    · have h1 : ∀ y ∈ ps.map (fun r => (k, r)), pickB below num y = true := fun y hy => by
        obtain ⟨r, -, rfl⟩ := List.mem_map.1 hy
        exact h
      rw [List.filter_eq_self.2 h1, List.filter_cons_of_pos h, List.filter_nil, total_one]
      simp [Function.comp_def]
    · have h1 : ∀ y ∈ ps.map (fun r => (k, r)), ¬ pickB below num y = true := fun y hy => by
        obtain ⟨r, -, rfl⟩ := List.mem_map.1 hy
        exact h
      rw [List.filter_eq_nil_iff.2 h1, List.filter_cons_of_neg h, List.filter_nil]
      rfl
theorem pick_next (below : Int) (num : Nat) {tg : List Nat} {R : List (List Int)} {j t : Nat} {r : List Int} (h1 : tg[j]? = some t) (h2 : R[j]? = some r) : (((tg.zip R).take (j + 1)).filter (pickB below num)).map Prod.snd = (((tg.zip R).take j).filter (pickB below num)).map Prod.snd ++ if pickB below num (t, r) = true then [r] else [] := by
  have e : (tg.zip R)[j]? = some (t, r) := by rw [List.getElem?_zip_eq_some]; exact ⟨h1, h2⟩
  rw [List.take_add_one, e, List.filter_append, List.map_append]
  congr 1
  by_cases h : pickB below num (t, r) = true
  · rw [if_pos h]
    simp [h]
  · rw [if_neg h]
    simp [h]
/-- What a loop over the records knows: the log, and which segment each record went to. -/
structure Dq (w u wr : World) (g lb size n : Nat) (T : List Sl) (i last : Nat) (A : Option Addr) (c : Nat) (d : Pk) (s : Ls) (G : List Gr) : Prop where
  kq : Kq w wr g lb size n ⟨#[119]⟩ T i i 0 0 d s G
  still : Still s.m
  at_ : Irow wr u.heap.size A c (zs (tags G))
  off : ∀ ad, A = some ad → ¬ lown d g lb ad.block
  few : i ≤ 61
  last_ : (i = 0 ∧ last = 0) ∨ last = s.num
  low : w.heap.size ≤ u.heap.size
  size_ : u.heap.size ≤ wr.heap.size

theorem drops_step {w u u0 w6 w8 w9 : World} {g lb size n i last v c2 c6 : Nat} {T : List Sl} {A2 A6 : Option Addr} {d d9 : Pk} {s s9 : Ls} {G G9 : List Gr} {xl : List Int} (h : Dq w u u0 g lb size n T i last A2 c2 d s G) (h6 : Kq w w6 g lb size n ⟨#[119]⟩ T i i 0 0 d s G) (hr : Irow w6 u.heap.size A6 c6 (zs (tags G) ++ [(v : Int)])) (hv : (if size ≤ s.len then s.num + 1 else s.num) = v) (hlt : i < n) (hB : (byts T)[i]? = some xl) (h61 : i ≤ 60) (b8 : Below w6.heap.size w6 w8)
    (hw : Went ⟨#[119]⟩ s s9 0 G G9 [xl]) (hp : s9.num = if s.len < size then s.num else s.num + 1) (hs : Still s9.m) (hl : LSt w9 w.heap.size g lb d9 s9 ⟨#[119]⟩ size) (hd : Does (lown d g lb) (lown d9 g lb) w8 w9) (ho : ∀ ad, A6 = some ad → ¬ lown d g lb ad.block) (hsz : u.heap.size ≤ w6.heap.size) : Dq w u w9 g lb size n T (i + 1) v A6 c6 d9 s9 G9 := by
  have hv9 : v = s9.num := by
    rw [hp, ← hv]
    split <;> split <;> omega
  have hbel : Below w.heap.size w w9 := (h6.bel.trans (b8.mono h6.bel.size)).trans (hd.below (Nat.le_trans h6.bel.size b8.size) (fun k hk => ((h6.ls.kept b8).owned k hk).1))
  have hne : ∀ ad, A6 = some ad → ad.block < w8.heap.size := fun ad ha => Nat.lt_of_lt_of_le (own_in hr ad ha).2 b8.size
  rcases h6.appended hlt hB hw hl hbel with ⟨-, hk⟩ | ⟨h0, -⟩
  · refine ⟨hk, hs, ?_, fun ad ha ho9 => ?_, by omega, .inr hv9, h.low, Nat.le_trans hsz (Nat.le_trans b8.size hd.size)⟩
    · have e : zs (tags G9) = zs (tags G) ++ [(v : Int)] := by
        rw [hw.tag rfl, hv9]
        simp [zs]
      rw [e]
      exact own_block (own_kept hr b8 (Nat.le_refl _)) (fun ad ha => hd.block _ (hne ad ha) (ho ad ha))
    · rcases hd.grows _ ho9 with h1 | h1
      · exact ho ad ha h1
      · have := hne ad ha
        omega
  · exact absurd rfl h0

/-- What opening finds behind a dropping. -/
theorem less_found {w wr : World} {g lb size n : Nat} {T : List Sl} {d : Pk} {s : Ls} {G : List Gr} (below : Int) (h : Kq w wr g lb size n ⟨#[119]⟩ T n n 0 0 d s G) (hn : n = T.length) (hb : n ≤ 61) (hs : Still s.m) :
    Fits s.m 0 ∧ G.length ≤ 1000000 ∧ ∃ L : List Sg, Found ⟨lessM ⟨#[119]⟩ below s G G.length, 0, 0⟩ ⟨#[119]⟩ L L.length ∧ pays (L.map (fun x => x.2.1)) = (((tags G).zip (byts T)).filter (pickB below s.num)).map Prod.snd ∧ nextNo L ≤ 999999 := by
  obtain ⟨o1, o2, o3⟩ := h.ones hn (by omega)
  have hft := h.k.fits pre_w o2 (by decide) (by omega)
  have hlen := h.k.len o2
  have hsub : (G.filter (keepB below s.num)).Sublist G := List.filter_sublist
  have hK : K ⟨#[119]⟩ (lessM ⟨#[119]⟩ below s G G.length) (G.filter (keepB below s.num)) := h.k.sub hsub (by unfold lessM; rw [left_end])
  have hst : Still (lessM ⟨#[119]⟩ below s G G.length) := ⟨hs.down, hs.left, hs.room⟩
  have htot : total G = byts T := by rw [h.tot, List.take_of_length_le (by rw [byts_len]; omega)]
  have hpick := total_pick below s.num G
  rw [htot] at hpick
  have hl2 : (total (G.filter (keepB below s.num))).length ≤ 100000 := by
    rw [hpick, List.length_map]
    refine Nat.le_trans (List.length_filter_le _ _) ?_
    rw [List.length_zip, byts_len]
    omega
  have hF := (hK.here.found hK (m' := lessM ⟨#[119]⟩ below s G G.length) hK.fs hst.down (fun _ => hst) (by have := hsub.length_le; omega) hl2).1
  refine ⟨⟨hft.few, fun x hx => by have := hft.long x hx; omega, hft.names⟩, by omega, _, hF, ?_, ?_⟩
  · rw [pays_raw _ hK.fine, hpick]
  · refine Nat.le_trans (next_le (N := 200000) (fun x hx => ?_) (by omega)) (by decide)
    obtain ⟨z, hz, rfl⟩ := List.mem_map.1 hx
    exact o2 z (hsub.subset hz)

set_option maxRecDepth 100000 in
set_option maxHeartbeats 16000000 in
theorem lawDrops (A : Option Addr) (n c : Nat) (T : List Sl) (every below : Int) (w : World) (hT : Tab w.heap.size w) (h : SIn w A T n c) (he : (Lit.int .i64 every).wf = true) :
    Calls Tryz.prog 4 #[.slice A n c, .int .i64 every, .int .i64 below] w fun e w' => e = .returned (.bool true) ∧ Below w.heap.size w w' := by
  have H := Lib.hid h
  have HT := Lib.hid hT
  have HW := Lib.hid (wakes_any w hT)
  have htop := h.top
  have hcap := h.cap
  clear h hT
  go_enter Tryz.func4, Tryz.ntmps4
  go_upto_region 4 with (first
    | (go_at_call 7; refine HW.out.mono ?_; rintro e w1 ⟨rfl, hb⟩; have B1 := Lib.hid hb; clear hb)
    | (go_at_call 14; refine (calm_any _).mono ?_; rintro e w2 ⟨rfl, hb⟩; have D2 : Hid (Below w.heap.size w w2) := Lib.hid (B1.out.trans (hb.mono B1.out.size)); clear hb)
    | (go_at_call 8; refine (new_any (-1) (-1) none [] 0 0 w2 rfl (.inl rfl) (by decide) (fun x hx => (List.not_mem_nil hx).elim) (by decide) (by decide)).mono ?_; rintro e w3 ⟨g, d, rfl, h31, h32, h33⟩; have D3 : Hid (Below w.heap.size w w3) := Lib.hid (D2.out.trans (h33.mono D2.out.size)); have E3 : Hid (PSt w3 w.heap.size g d ∧ d.vm = m0) := Lib.hid ⟨h31.mono D2.out.size, h32⟩; clear h31 h32 h33))
  obtain ⟨size, hsz, hs1, hs2⟩ := way_size every 60 (by decide)
  simp only [show ((60 : Nat) : Int) = 60 from rfl] at hsz
  have HSZ : Hid (1 ≤ size ∧ size ≤ 1048576) := Lib.hid ⟨hs1, by omega⟩
  clear hs1 hs2
  have S0 : Hid (Still m0) := Lib.hid ⟨rfl, by decide, by decide⟩
  go_wp2_with (go_at_call 10; refine (openNew w.heap.size g d m0 ⟨#[119]⟩ size w3 E3.out.1 E3.out.2 rfl rfl pre_w HSZ.out (HT.out.on D3.out)).mono ?_; rintro e w4 ⟨lb, A4, c4, d4, rfl, hl, hd, hlb⟩; have D4 : Hid (Below w.heap.size w w4) := Lib.hid (D3.out.trans (hd.below D3.out.size (fun k hk => (E3.out.1.owned k hk).1))); have E4 := Lib.hid hl; clear hl hd hlb)
  go_loopw [11, 12, 38] (fun t11 t12 t38 wr => ∃ (i last c2 : Nat) (A2 : Option Addr) (d : Pk) (s : Ls) (G : List Gr), t38 = .int .i64 i ∧ t11 = .int .i64 last ∧ t12 = .slice A2 i c2 ∧ Hid (Dq w w4 wr g lb size n T i last A2 c2 d s G)) (fun _ _ t38 _ => n - (intOf t38).toNat)
  case atStart =>
    exact ⟨0, 0, 0, none, d4, _, [], rfl, rfl, rfl, Lib.hid ⟨⟨E4.out, D4.out, (J.start rfl).k, by simp [total], Nat.zero_le _, Nat.zero_le _, Nat.zero_le _, fun x hx => (List.not_mem_nil hx).elim, .inl ⟨rfl, rfl, Nat.le_refl _, J.start rfl, rfl⟩⟩, S0.out, Irow.nil _ _, (fun _ h => by cases h), Nat.zero_le _, .inl ⟨rfl, rfl⟩, D4.out.size, Nat.le_refl _⟩⟩
  case round =>
    obtain ⟨i, last, c2, A2, d5, s5, G5, rfl, rfl, rfl, Q⟩ := hrel
    generalize wr = u0 at Q
    by_cases hlt : i < n
    · have hs := List.getElem?_eq_getElem (l := T) (i := i) (by have := H.out.len; omega)
      generalize T[i]'(by have := H.out.len; omega) = x at hs
      have HSX := Lib.hid hs
      obtain ⟨ad, rfl, a0⟩ := lies_at (H.out.kept Q.out.kq.bel).lies hs
      have HA := Lib.hid (fun (W : World) (hb : Below w.heap.size w W) => (show W.cell? (ad.add i) = some (.slice x.a x.l.length x.c) ∧ In W x.a x.l x.l.length x.c from ⟨by
        obtain ⟨ad', e, h⟩ := lies_at (H.out.kept hb).lies HSX.out
        injection e with e
        subst e
        exact h, (H.out.kept hb).all x (List.mem_of_getElem? HSX.out)⟩))
      obtain ⟨xa, xc, xl⟩ := x
      obtain ⟨q, hq⟩ : ∃ q, xl.length = q := ⟨_, rfl⟩
      simp only [hq] at a0 HA
      have HB := Lib.hid (byts_of hs)
      have HQ := Lib.hid hq
      clear hs hq
      by_cases hq5 : q ≤ 5000
      · by_cases hi6 : i ≤ 60
        · have hq5' : (q : Int) ≤ 5000 := by omega
          have hd5 : decide ((5000 : Int) < (q : Int)) = false := by simp; omega
          have hd6 : decide ((60 : Int) < (i : Int)) = false := by simp; omega
          obtain ⟨v, hv⟩ : ∃ v, (if size ≤ s5.len then s5.num + 1 else s5.num) = v := ⟨_, rfl⟩
          have HV := Lib.hid hv
          obtain ⟨o1, o2, o3⟩ := Q.out.kq.ones H.out.len.symm (by omega)
          have HO := Lib.hid (And.intro o1 (And.intro o2 o3))
          clear o1 o2 o3 hv
          go_upto_region 15 with (go_at_call 16; refine (segment_any lb g v _ u0 Q.out.kq.ls.lg HV.out (by simp only; have := HO.out.2.2; omega)).mono ?_; rintro e w5 ⟨rfl, hb⟩; have B5 := Lib.hid hb; clear hb)
          have Q5 : Hid (Kq w w5 g lb size n ⟨#[119]⟩ T i i 0 0 d5 s5 G5 ∧ Irow w5 w4.heap.size A2 c2 (zs (tags G5))) := Lib.hid ⟨Q.out.kq.kept B5.out, own_kept Q.out.at_ B5.out (Nat.le_refl _)⟩
          have HTL : Hid ((zs (tags G5)).length = i) := Lib.hid (by rw [zs_len, tags_len, HO.out.1])
          go_upto_region 16 with (at_builtin; refine wpList_append_irowg _ rfl (.tmp 53) (.tmp 55) rfl w4.heap.size A2 c2 (zs (tags G5)) (v : Int) _ i 1 rfl rfl HTL.out (own_kept Q5.out.2 (below_new _ _) (Nat.le_refl _)) (lit_lies w5 [.int .i64 (v : Int)] _ rfl 3) (by have := Q.out.size_; have := B5.out.size; simp; omega) (by have := HTL.out; omega) ?_; intro A6 c6 w6 r6 g6 b6 p6; have P6 : Hid (∀ ad, A6 = some ad → ¬ lown d5 g lb ad.block) := Lib.hid (fun ad ha hk => (p6 ad ha).elim (fun ⟨a0, ha0, e⟩ => Q.out.off a0 ha0 (e ▸ hk)) (fun h => by have := (Q5.out.1.ls.owned _ hk).2; simp at h; omega)); have E6 : Hid (Irow w6 w4.heap.size A6 c6 (zs (tags G5) ++ [(v : Int)])) := Lib.hid r6; have Q6 : Hid (Kq w w6 g lb size n ⟨#[119]⟩ T i i 0 0 d5 s5 G5) := Lib.hid ((Q5.out.1.kept (below_new _ _)).grown g6 (fun b hb => by cases A2 with | none => cases hb | some ad2 => (injection hb with hb; subst hb; exact ⟨Q.out.off ad2 rfl, by have := (own_in Q.out.at_ ad2 rfl).1; have := Q.out.low; omega⟩))); have O6 : Hid (w4.heap.size ≤ w6.heap.size) := Lib.hid (by have := Q.out.size_; have := B5.out.size; have := b6.size; simp at this; omega); clear r6 g6 b6 p6)
          have K6 := Lib.hid (HA.out w6 Q6.out.bel)
          have a6 : ∀ o, (w6.alloc o).cell? (ad.add i) = some (.slice xa q xc) := fun o => (HA.out _ (Q6.out.bel.alloc Q6.out.bel.size o)).1
          have A7 := Lib.hid (row_made w6 w6.heap.size [] #[] rfl (by simp) (Nat.le_refl _))
          have E7 := Lib.hid (K6.out.2.bys.alloc (.cells #[] 5))
          clear a0
          go_upto_region 17 with (first
            | (at_builtin; refine wpList_append_row_if _ (by with_unfolding_all rfl) (.tmp 58) (.tmp 62) rfl w6.heap.size _ 0 [] xl xa 0 q xc rfl rfl rfl HQ.out A7.out E7.out (by simp) (by have := HQ.out; simp only [List.length_nil]; omega) ?_; intro A8 c8 w8 r8 b8; have B8 : Hid (Below w6.heap.size w6 w8) := Lib.hid ((below_new w6 _).trans b8); have R8 : Hid (Row w8 w6.heap.size A8 c8 xl) := Lib.hid r8; clear r8 b8)
            | (go_at_call 11; refine (appendJ w.heap.size g lb 200000 d5 s5 G5 ⟨#[119]⟩ size A8 xl q c8 w8 (Q6.out.ls.kept B8.out) pre_w HSZ.out.1 Q6.out.go.2.2.1 Q6.out.go.2.2.2 (HT.out.on (Q6.out.bel.trans (B8.out.mono Q6.out.bel.size))) (R8.out.in_n K6.out.2.byt HQ.out) hq5 HO.out.2.2 (by decide) HO.out.2.1 (by rw [HO.out.1]; omega)).mono ?_; rintro e w9 ⟨r9, s9, G9, d9, rfl, hw9, hp9, hl9, hd9⟩; obtain ⟨rfl, hs9, -, -⟩ := hw9.stay Q.out.still; have E9 : Hid (Dq w w4 w9 g lb size n T (i + 1) v A6 c6 d9 s9 G9) := Lib.hid (drops_step Q.out Q6.out E6.out HV.out hlt HB.out (by omega) B8.out hw9 (hp9 rfl).1 hs9 hl9 hd9 P6.out O6.out); clear hw9 hp9 hl9 hd9 hs9))
          clear a6
          go_wp2_with fail
          go_roundw
          case rel => exact ⟨i + 1, v, c6, A6, d9, s9, G9, by go_num, rfl, by go_num, E9⟩
          case measure => simp [intOf]; omega
        · have hd6 : decide ((60 : Int) < (i : Int)) = true := by simp; omega
          have hd5 : decide ((5000 : Int) < (q : Int)) = false := by simp; omega
          go_wp2_with fail
          go_ret
          exact ⟨rfl, Q.out.kq.bel⟩
      · have hd5 : decide ((5000 : Int) < (q : Int)) = true := by simp; omega
        go_wp2_with fail
        go_ret
        exact ⟨rfl, Q.out.kq.bel⟩
    · obtain rfl : i = n := by have := Q.out.kq.upto; omega
      obtain ⟨hft, hgl, L, hF, hpay, hno⟩ := less_found below Q.out.kq H.out.len.symm Q.out.few Q.out.still
      have F := Lib.hid (And.intro hF (And.intro hpay hno))
      have HD : Hid (Calls Tryz.prog 17 #[.pointer (some ⟨lb, 0, none⟩), .int .i64 below] u0 fun e w' => e = .returned (.int .i64 0) ∧ LRest u0 w.heap.size g lb d5 ⟨#[119]⟩ size { s5 with m := lessM ⟨#[119]⟩ below s5 G5 G5.length } w') := Lib.hid (dropJ w.heap.size g lb G5.length d5 s5 G5 ⟨#[119]⟩ size below u0 Q.out.kq.ls pre_w Q.out.kq.k Q.out.still (HT.out.on Q.out.kq.bel) hft rfl hgl)
      clear hft hgl hF hpay hno
      go_upto_region 21 with (go_at_call 17; refine HD.out.mono ?_; rintro e w5 ⟨rfl, d6, h1, h2⟩; have E5 : Hid (LSt w5 w.heap.size g lb d6 { s5 with m := lessM ⟨#[119]⟩ below s5 G5 G5.length } ⟨#[119]⟩ size) := Lib.hid h1; have D5 : Hid (Below w.heap.size w w5) := Lib.hid (Q.out.kq.bel.trans (h2.below Q.out.kq.bel.size (fun k hk => (Q.out.kq.ls.owned k hk).1))); have R5 : Hid (Irow w5 w4.heap.size A2 c2 (zs (tags G5))) := Lib.hid (own_block Q.out.at_ (fun ad ha => h2.block _ (own_in Q.out.at_ ad ha).2 (Q.out.off ad ha))); clear h1 h2 HD)
      have HTL : Hid ((tags G5).length = i) := Lib.hid (by rw [tags_len, (Q.out.kq.ones H.out.len.symm (by have := Q.out.few; omega)).1])
      have hi61 : i ≤ 61 := Q.out.few
      have HBL : Hid ((byts T).length = i) := Lib.hid (by rw [byts_len, H.out.len])
      go_wp2_with fail
      go_loopw [14, 73] (fun t14 t73 wr => ∃ (j m c3 : Nat) (A3 : Option Addr) (U : List Sl), j ≤ i ∧ m ≤ j ∧ t73 = .int .i64 j ∧ t14 = .slice A3 m c3 ∧ Hid (Srow wr w5.heap.size A3 c3 U ∧ U.length = m ∧ byts U = (((((tags G5).zip (byts T)).take j).filter (pickB below s5.num)).map Prod.snd) ∧ (∀ x ∈ U, x ∈ T) ∧ Below w5.heap.size w5 wr)) (fun _ t73 _ => i - (intOf t73).toNat)
      case atStart => exact ⟨0, 0, 0, none, [], Nat.zero_le _, Nat.le_refl _, rfl, rfl, Lib.hid ⟨Srow.nil _ _, rfl, by simp [byts], fun x hx => (List.not_mem_nil hx).elim, Below.refl _ _⟩⟩
      case round =>
        obtain ⟨j, m, c3, A3, U, hj, hm, rfl, rfl, V⟩ := hrel
        by_cases hlt2 : j < i
        · have hs := List.getElem?_eq_getElem (l := T) (i := j) (by have := H.out.len; omega)
          generalize T[j]'(by have := H.out.len; omega) = x at hs
          have ht := List.getElem?_eq_getElem (l := tags G5) (i := j) (by have := HTL.out; omega)
          generalize (tags G5)[j]'(by have := HTL.out; omega) = y at ht
          have DW : Hid (Below w.heap.size w wr) := Lib.hid (D5.out.trans (V.out.2.2.2.2.mono D5.out.size))
          obtain ⟨ad, rfl, a0⟩ := lies_at (H.out.kept DW.out).lies hs
          obtain ⟨bd, rfl, b0⟩ := ints_at (Lies.kept R5.out.lies V.out.2.2.2.2) (show (zs (tags G5))[j]? = some ((y : Nat) : Int) by unfold zs; rw [List.getElem?_map, ht]; rfl)
          have hlast : last = s5.num := by rcases Q.out.last_ with h | h; exact absurd h.1 (by omega); exact h
          have HPN := Lib.hid (pick_next below s5.num ht (byts_of hs))
          have HSX := Lib.hid (List.mem_of_getElem? hs)
          clear hs ht
          obtain ⟨xa, xc, xl⟩ := x
          simp only at a0
          by_cases hP : pickB below s5.num (y, xl) = true
          · have hAB : below ≤ (y : Int) ∨ (decide (below ≤ (y : Int)) = false ∧ ((y : Int) == (last : Int)) = true) := by
              unfold pickB at hP
              simp only [Bool.or_eq_true, decide_eq_true_eq] at hP
              by_cases h : below ≤ (y : Int)
              · exact .inl h
              · exact .inr ⟨by simpa using h, by rw [hlast, hP.resolve_left h]; simp⟩
            have HE : Hid (byts (U ++ [⟨xa, xc, xl⟩]) = ((((tags G5).zip (byts T)).take (j + 1)).filter (pickB below s5.num)).map Prod.snd) := Lib.hid (by rw [HPN.out, if_pos hP, byts_append, V.out.2.2.1]; rfl)
            clear hP hlast
            rcases hAB with hA | ⟨hA, hB⟩
            all_goals
              go_wp2_with (at_builtin; refine wpList_append_srow _ rfl (.tmp 90) (.tmp 95) rfl w5.heap.size A3 c3 U [⟨xa, xc, xl⟩] _ m 1 1 rfl rfl V.out.2.1 rfl (Srow.alloc V.out.1 _) (lit_lies wr [.slice xa xl.length xc] _ rfl 35) (by have := V.out.2.2.2.2.size; simp; omega) (by have := V.out.2.1; simp only [List.length_singleton]; omega) ?_; intro A6 c6 w6 r6 b6 g6; have R6 : Hid (Srow w6 w5.heap.size A6 c6 (U ++ [⟨xa, xc, xl⟩])) := Lib.hid r6; have B6 : Hid (Below w5.heap.size w5 w6) := Lib.hid ((V.out.2.2.2.2.alloc V.out.2.2.2.2.size _).trans b6); clear r6 b6 g6)
              go_roundw
              case rel => exact ⟨j + 1, m + 1, c6, A6, U ++ [⟨xa, xc, xl⟩], by omega, by omega, by go_num, rfl, Lib.hid ⟨R6.out, by rw [List.length_append, V.out.2.1]; rfl, HE.out, fun z hz => (List.mem_append.1 hz).elim (V.out.2.2.2.1 z) (fun hz => by rw [List.mem_singleton.1 hz]; exact HSX.out), B6.out⟩⟩
              case measure => simp [intOf]; omega
          · have hA : decide (below ≤ (y : Int)) = false := by
              unfold pickB at hP
              simp only [Bool.or_eq_true, decide_eq_true_eq, not_or] at hP
              simpa using hP.1
            have hB : ((y : Int) == (last : Int)) = false := by
              unfold pickB at hP
              simp only [Bool.or_eq_true, decide_eq_true_eq, not_or] at hP
              rw [hlast]
              simp
              exact_mod_cast hP.2
            have HE : Hid (byts U = ((((tags G5).zip (byts T)).take (j + 1)).filter (pickB below s5.num)).map Prod.snd) := Lib.hid (by rw [HPN.out, if_neg hP, List.append_nil, V.out.2.2.1])
            clear hP hlast
            go_wp2_with fail
            go_roundw
            case rel => exact ⟨j + 1, m, c3, A3, U, by omega, by omega, by go_num, rfl, Lib.hid ⟨V.out.1, V.out.2.1, HE.out, V.out.2.2.2.1, V.out.2.2.2.2⟩⟩
            case measure => simp [intOf]; omega
        · obtain rfl : i = j := by omega
          generalize wr = u1 at V
          have DW : Hid (Below w.heap.size w u1) := Lib.hid (D5.out.trans (V.out.2.2.2.2.mono D5.out.size))
          have LW := Lib.hid (E5.out.kept V.out.2.2.2.2)
          have HU : Hid (byts U = pays (L.map (fun x => x.2.1))) := Lib.hid (by rw [V.out.2.2.1, F.out.2.1, List.take_of_length_le (by rw [List.length_zip, HTL.out, HBL.out]; omega)])
          have HO : Hid (Calls Tryz.prog 10 #[.pointer (some ⟨g, 0, none⟩), .string ⟨#[119]⟩, .int .i64 5] u1 (OpenTo u1 w.heap.size g d6 (lessM ⟨#[119]⟩ below s5 G5 G5.length) ⟨#[119]⟩ 5 L)) := Lib.hid (open_any w.heap.size g d6 (lessM ⟨#[119]⟩ below s5 G5 G5.length) ⟨#[119]⟩ 5 _ L u1 LW.out.ps LW.out.vm pre_w (by decide) (HT.out.on DW.out) F.out.1 F.out.2.2)
          go_upto_region 29 with (go_at_call 10; refine HO.out.mono ?_; rintro e w9 ⟨lb3, T9, A9, c9, k9, d9, rfl, hk, ht, hs, -, hl, hd, hlb⟩; have E9 := Lib.hid (And.intro hk (And.intro ht hs)); have B9 : Hid (Below u1.heap.size u1 w9 ∨ True) := Lib.hid (.inr trivial); have D9 : Hid (Below w.heap.size w w9) := Lib.hid (DW.out.trans (hd.below DW.out.size (fun k hk => (LW.out.ps.owned k hk).1))); have R9 : Hid (Srow w9 w5.heap.size A3 c3 U) := Lib.hid (own_block V.out.1 (fun ad ha => hd.block _ (own_in V.out.1 ad ha).2 (fun ho => by have h1 := (own_in V.out.1 ad ha).1; have h2 := (E5.out.ps.owned _ ho).2; omega))); clear hk ht hs hl hd hlb HO B9)
          have SA : Hid (Calls Tryz.prog 15 #[.slice A9 k9 c9, .slice A3 m c3] w9 fun e w' => e = .returned (.bool true) ∧ Below w9.heap.size w9 w') := Lib.hid ((ssame_any A9 A3 T9 U k9 m c9 c3 w9 E9.out.1 V.out.2.1 (by have h1 := congrArg List.length (E9.out.2.1.trans HU.out.symm); rw [byts_len, byts_len, E9.out.1, V.out.2.1] at h1; omega) E9.out.2.2.row.lies R9.out.lies (rows_bys E9.out.2.2.rows) (fun z hz => ((H.out.kept D9.out).all z (V.out.2.2.2.1 z hz)).bys) (E9.out.2.1.trans HU.out.symm)).mono (fun e w' hq => ⟨hq.1, by obtain ⟨-, kk, rfl⟩ := hq; exact below_drewN (Below.refl _ _) _⟩))
          go_wp2_with (go_at_call 15; refine SA.out.mono ?_; rintro e w10 ⟨rfl, hb⟩; have B10 := Lib.hid hb; clear hb SA)
          go_ret
          exact ⟨rfl, D9.out.trans (B10.out.mono D9.out.size)⟩

end Go.Proofs.YtjppklgegpmfpaaGreatDoor
