/-
  The contracts of the library that this program calls, laid at it by the kit's own program: no walk of mine, one application each. Walks: is it a file's name; what is asked ahead of any file. Walks: what is asked ahead of any file; a change counted; a file found, and for a change. Walks: a file put into the map, and taken out of it. Walks: a file taken out of the map; copies of bytes and of numbers. Walks: the names in their order; a new beginning; how many bytes survive. Walks: a new beginning; how many bytes survive; a new disk.
-/
import Derived.Shelf.LaysM
import Derived.Shelf.Strconv.Clone
import Derived.Ground.Names2Prog
import Derived.Shelf.Slices.Clone
import Derived.Ground.SlbCloneProg
import Derived.Shelf.Bytes.SlClone
import Derived.Ground.SlgmProg
import Derived.Shelf.SortM.Plain
import Derived.Shelf.SortM.SortNone
import Derived.Ground.GgzProg
import Derived.Shelf.SlIter.Nil
import Derived.Shelf.SlGeneric
import Derived.Test.YtmgggddnfeojmaaGreatProg
import Derived.StillTailTactics
import Derived.Lib.BufferMore
import Derived.Test.YtmgggddnfeojmaaGreatJO12
set_option linter.unusedSimpArgs false
set_option linter.unusedVariables false
namespace Go.Proofs
open Go.Shelf
def Tryz.laysM316_ren : Go.Shelf.Ren := ⟨fun | 316 => 95 | n => n, fun | 9 => 9 | 3 => 3 | 4 => 4 | 37 => 42 | 0 => 0 | 127 => 176 | 5 => 5 | n => n, fun | n => n⟩
theorem Tryz.laysM316 : Go.Proofs.LaysM.n316 Tryz.prog Tryz.laysM316_ren := {
  mixed := by kernel_rfl
  f316 := Tryz.func95.trans (congrArg some (by kernel_rfl))
  t0 := Tryz.underlying0
  a0 := Tryz.isAgg0
  z0 := Tryz.sizeOf0
  v0 := Tryz.zeroValue0
  t3 := Tryz.underlying3
  a3 := Tryz.isAgg3
  z3 := Tryz.sizeOf3
  v3 := Tryz.zeroValue3
  t4 := Tryz.underlying4
  a4 := Tryz.isAgg4
  z4 := Tryz.sizeOf4
  v4 := Tryz.zeroValue4
  t9 := Tryz.underlying9
  a9 := Tryz.isAgg9
  z9 := Tryz.sizeOf9
  v9 := Tryz.zeroValue9
  t37 := Tryz.underlying42
  a37 := Tryz.isAgg42
  z37 := Tryz.sizeOf42
  v37 := Tryz.zeroValue42
  t127 := Tryz.underlying176
  a127 := Tryz.isAgg176
  z127 := Tryz.sizeOf176
  v127 := Tryz.zeroValue176
  t5 := Tryz.underlying5
  a5 := Tryz.isAgg5
  z5 := Tryz.sizeOf5
  v5 := Tryz.zeroValue5
  i0 := by kernel_rfl
  i3 := by kernel_rfl
  i4 := by kernel_rfl
  i5 := by kernel_rfl
  i9 := by kernel_rfl
  i37 := by kernel_rfl
  i127 := by kernel_rfl }
open Go.RowKit in
/-- The shelf's contract, laid at this program: Tryz.stringslite_Clone. -/
theorem Tryz.stringslite_Clone (s : ByteArray) (w : World) (hlim : s.size ≤ 281474976710656) :
    Calls Tryz.prog 95 #[.string s] w fun e w' => e = .returned (.string s) ∧ Below w.heap.size w w' := Any.stringslite_Clone Tryz.laysM316 s w hlim
def Tryz.laysSlM6_f88_ren : Go.Shelf.Ren := ⟨fun | 6 => 88 | 8 => 106 | 9 => 105 | 19 => 121 | 20 => 122 | 21 => 112 | 22 => 113 | 23 => 114 | 24 => 115 | 25 => 116 | 26 => 117 | 27 => 118 | 28 => 119 | 29 => 120 | 36 => 124 | 31 => 125 | 32 => 126 | 37 => 127 | 38 => 128 | 39 => 129 | 41 => 132 | n => n, fun | 27 => 89 | 29 => 9 | 3 => 3 | 32 => 54 | 26 => 89 | 0 => 0 | 44 => 166 | 46 => 120 | 4 => 4 | 36 => 180 | 35 => 179 | 41 => 185 | 5 => 5 | 9 => 9 | 53 => 192 | 57 => 196 | 63 => 201 | 64 => 202 | n => n, fun | n => n⟩
theorem Tryz.laysSlM6_f88 : Go.Proofs.SlLaysM.n6 Tryz.prog Tryz.laysSlM6_f88_ren := {
  mixed := by kernel_rfl
  f6 := ⟨Tryz.f88.name, by decide, Tryz.func88.trans (congrArg some (by kernel_rfl))⟩
  f8 := Tryz.func106.trans (congrArg some (by kernel_rfl))
  f9 := ⟨Tryz.f105.name, by decide, Tryz.func105.trans (congrArg some (by kernel_rfl))⟩
  f19 := Tryz.func121.trans (congrArg some (by kernel_rfl))
  f20 := Tryz.func122.trans (congrArg some (by kernel_rfl))
  f21 := ⟨Tryz.f112.name, by decide, Tryz.func112.trans (congrArg some (by kernel_rfl))⟩
  f22 := ⟨Tryz.f113.name, by decide, Tryz.func113.trans (congrArg some (by kernel_rfl))⟩
  f23 := ⟨Tryz.f114.name, by decide, Tryz.func114.trans (congrArg some (by kernel_rfl))⟩
  f24 := ⟨Tryz.f115.name, by decide, Tryz.func115.trans (congrArg some (by kernel_rfl))⟩
  f25 := ⟨Tryz.f116.name, by decide, Tryz.func116.trans (congrArg some (by kernel_rfl))⟩
  f26 := ⟨Tryz.f117.name, by decide, Tryz.func117.trans (congrArg some (by kernel_rfl))⟩
  f27 := ⟨Tryz.f118.name, by decide, Tryz.func118.trans (congrArg some (by kernel_rfl))⟩
  f28 := ⟨Tryz.f119.name, by decide, Tryz.func119.trans (congrArg some (by kernel_rfl))⟩
  f29 := ⟨Tryz.f120.name, by decide, Tryz.func120.trans (congrArg some (by kernel_rfl))⟩
  f31 := Tryz.func125.trans (congrArg some (by kernel_rfl))
  f32 := Tryz.func126.trans (congrArg some (by kernel_rfl))
  f36 := ⟨Tryz.f124.name, by decide, Tryz.func124.trans (congrArg some (by kernel_rfl))⟩
  f37 := ⟨Tryz.f127.name, by decide, Tryz.func127.trans (congrArg some (by kernel_rfl))⟩
  f38 := ⟨Tryz.f128.name, by decide, Tryz.func128.trans (congrArg some (by kernel_rfl))⟩
  f39 := ⟨Tryz.f129.name, by decide, Tryz.func129.trans (congrArg some (by kernel_rfl))⟩
  f41 := ⟨Tryz.f132.name, by decide, Tryz.func132.trans (congrArg some (by kernel_rfl))⟩
  t0 := Tryz.underlying0
  a0 := Tryz.isAgg0
  z0 := Tryz.sizeOf0
  v0 := Tryz.zeroValue0
  t3 := Tryz.underlying3
  a3 := Tryz.isAgg3
  z3 := Tryz.sizeOf3
  v3 := Tryz.zeroValue3
  t4 := Tryz.underlying4
  a4 := Tryz.isAgg4
  z4 := Tryz.sizeOf4
  v4 := Tryz.zeroValue4
  t5 := Tryz.underlying5
  a5 := Tryz.isAgg5
  z5 := Tryz.sizeOf5
  v5 := Tryz.zeroValue5
  t9 := Tryz.underlying9
  a9 := Tryz.isAgg9
  z9 := Tryz.sizeOf9
  v9 := Tryz.zeroValue9
  t26 := Tryz.underlying89
  a26 := Tryz.isAgg89
  z26 := Tryz.sizeOf89
  v26 := Tryz.zeroValue89
  t27 := Tryz.underlying89
  a27 := Tryz.isAgg89
  z27 := Tryz.sizeOf89
  v27 := Tryz.zeroValue89
  t29 := Tryz.underlying9
  a29 := Tryz.isAgg9
  z29 := Tryz.sizeOf9
  v29 := Tryz.zeroValue9
  t32 := Tryz.underlying54
  a32 := Tryz.isAgg54
  z32 := Tryz.sizeOf54
  v32 := Tryz.zeroValue54
  t35 := Tryz.underlying179
  a35 := Tryz.isAgg179
  z35 := Tryz.sizeOf179
  v35 := Tryz.zeroValue179
  t36 := Tryz.underlying180
  a36 := Tryz.isAgg180
  z36 := Tryz.sizeOf180
  v36 := Tryz.zeroValue180
  t41 := Tryz.underlying185
  a41 := Tryz.isAgg185
  z41 := Tryz.sizeOf185
  v41 := Tryz.zeroValue185
  t44 := Tryz.underlying166
  a44 := Tryz.isAgg166
  z44 := Tryz.sizeOf166
  v44 := Tryz.zeroValue166
  t46 := Tryz.underlying120
  a46 := Tryz.isAgg120
  z46 := Tryz.sizeOf120
  v46 := Tryz.zeroValue120
  t53 := Tryz.underlying192
  a53 := Tryz.isAgg192
  z53 := Tryz.sizeOf192
  v53 := Tryz.zeroValue192
  t57 := Tryz.underlying196
  a57 := Tryz.isAgg196
  z57 := Tryz.sizeOf196
  v57 := Tryz.zeroValue196
  t63 := Tryz.underlying201
  a63 := Tryz.isAgg201
  z63 := Tryz.sizeOf201
  v63 := Tryz.zeroValue201
  t64 := Tryz.underlying202
  a64 := Tryz.isAgg202
  z64 := Tryz.sizeOf202
  v64 := Tryz.zeroValue202 }
open Go.Sort Go.RowKit in
theorem Tryz.slices_Sort_string (blk off cap : Nat) (ss : List (List UInt8)) (w : World) (hH : Holds encStr w blk off ss.toArray) (hblk : blk < w.heap.size) (hsz : ss.length < 4611686018427387904) :
    Calls Tryz.prog 88 #[.slice (some ⟨blk, off, none⟩) ss.length cap] w fun e w' =>
      e = .returned (.tuple #[]) ∧ ∃ n os, w' = grow (putRow encStr (Sort.ahead w n) blk off (ss.mergeSort fun x y => decide (x ≤ y)).toArray) os := AnyM.slices_Sort_string Tryz.laysSlM6_f88 blk off cap ss w hH hblk hsz
open Go.RowKit Go.Sort in
/-- The shelf's contract, laid at this program: Tryz.slices_Sort_string_none. -/
theorem Tryz.slices_Sort_string_none (p : Option Addr) (cap : Nat) (w : World) :
    Calls Tryz.prog 88 #[.slice p 0 cap] w fun e w' => e = .returned (.tuple #[]) ∧ w' = w := AnyM.slices_Sort_string_none Tryz.laysSlM6_f88 p cap w
def Tryz.keys66_ren : Go.Shelf.Ren := ⟨fun | 7 => 66 | 10 => 89 | n => n, fun | 23 => 78 | 26 => 9 | 3 => 91 | 28 => 124 | 0 => 0 | 27 => 123 | 33 => 34 | 4 => 4 | n => n, fun | n => n⟩
theorem Tryz.keys66 : Go.Proofs.SlLaysZ.n7 Tryz.prog Tryz.keys66_ren := {
  mixed := by kernel_rfl
  f7 := ⟨Tryz.f66.name, by decide, Tryz.func66.trans (congrArg some (by kernel_rfl))⟩
  f10 := ⟨Tryz.f89.name, by decide, Tryz.func89.trans (congrArg some (by kernel_rfl))⟩
  t0 := Tryz.underlying0
  a0 := Tryz.isAgg0
  z0 := Tryz.sizeOf0
  v0 := Tryz.zeroValue0
  t4 := Tryz.underlying4
  a4 := Tryz.isAgg4
  z4 := Tryz.sizeOf4
  v4 := Tryz.zeroValue4
  t23 := Tryz.underlying78
  a23 := Tryz.isAgg78
  z23 := Tryz.sizeOf78
  v23 := Tryz.zeroValue78
  t26 := Tryz.underlying9
  a26 := Tryz.isAgg9
  z26 := Tryz.sizeOf9
  v26 := Tryz.zeroValue9
  t27 := Tryz.underlying123
  a27 := Tryz.isAgg123
  z27 := Tryz.sizeOf123
  v27 := Tryz.zeroValue123
  t28 := Tryz.underlying124
  a28 := Tryz.isAgg124
  z28 := Tryz.sizeOf124
  v28 := Tryz.zeroValue124
  t33 := Tryz.underlying34
  a33 := Tryz.isAgg34
  z33 := Tryz.sizeOf34
  v33 := Tryz.zeroValue34 }
def Tryz.sorted65_ren : Go.Shelf.Ren := ⟨fun | 6 => 65 | 8 => 87 | 9 => 88 | 11 => 104 | 13 => 106 | 12 => 105 | 23 => 121 | 24 => 122 | 14 => 112 | 15 => 113 | 16 => 114 | 17 => 115 | 18 => 116 | 19 => 117 | 20 => 118 | 21 => 119 | 22 => 120 | 25 => 124 | 26 => 125 | 27 => 126 | 28 => 127 | 29 => 128 | 30 => 129 | 31 => 132 | n => n, fun | 26 => 9 | 28 => 124 | 24 => 89 | 0 => 0 | 3 => 3 | 37 => 54 | 48 => 166 | 50 => 120 | 4 => 4 | 40 => 180 | 39 => 179 | 45 => 185 | 5 => 5 | 9 => 9 | 51 => 192 | 55 => 196 | 57 => 201 | 58 => 202 | 33 => 34 | n => n, fun | n => n⟩
theorem Tryz.sorted65 : Go.Proofs.SlLaysZ.n6 Tryz.prog Tryz.sorted65_ren := {
  mixed := by kernel_rfl
  f6 := ⟨Tryz.f65.name, by decide, Tryz.func65.trans (congrArg some (by kernel_rfl))⟩
  f8 := ⟨Tryz.f87.name, by decide, Tryz.func87.trans (congrArg some (by kernel_rfl))⟩
  f11 := ⟨Tryz.f104.name, by decide, Tryz.func104.trans (congrArg some (by kernel_rfl))⟩
  t0 := Tryz.underlying0
  a0 := Tryz.isAgg0
  z0 := Tryz.sizeOf0
  v0 := Tryz.zeroValue0
  t24 := Tryz.underlying89
  a24 := Tryz.isAgg89
  z24 := Tryz.sizeOf89
  v24 := Tryz.zeroValue89
  t26 := Tryz.underlying9
  a26 := Tryz.isAgg9
  z26 := Tryz.sizeOf9
  v26 := Tryz.zeroValue9
  t28 := Tryz.underlying124
  a28 := Tryz.isAgg124
  z28 := Tryz.sizeOf124
  v28 := Tryz.zeroValue124
  i26 := by kernel_rfl }
def Tryz.sort88_ren : Go.Shelf.Ren := ⟨fun | 6 => 88 | 8 => 106 | 9 => 105 | 19 => 121 | 20 => 122 | 21 => 112 | 22 => 113 | 23 => 114 | 24 => 115 | 25 => 116 | 26 => 117 | 27 => 118 | 28 => 119 | 29 => 120 | 36 => 124 | 31 => 125 | 32 => 126 | 37 => 127 | 38 => 128 | 39 => 129 | 41 => 132 | n => n, fun | 27 => 89 | 29 => 9 | 3 => 3 | 32 => 54 | 26 => 89 | 0 => 0 | 44 => 166 | 46 => 120 | 4 => 4 | 36 => 180 | 35 => 179 | 41 => 185 | 5 => 5 | 9 => 9 | 53 => 192 | 57 => 196 | 63 => 201 | 64 => 202 | n => n, fun | n => n⟩
theorem Tryz.sort88 : Go.Proofs.SlLaysM.n6 Tryz.prog Tryz.sort88_ren := {
  mixed := by kernel_rfl
  f6 := ⟨Tryz.f88.name, by decide, Tryz.func88.trans (congrArg some (by kernel_rfl))⟩
  f8 := Tryz.func106.trans (congrArg some (by kernel_rfl))
  f9 := ⟨Tryz.f105.name, by decide, Tryz.func105.trans (congrArg some (by kernel_rfl))⟩
  f19 := Tryz.func121.trans (congrArg some (by kernel_rfl))
  f20 := Tryz.func122.trans (congrArg some (by kernel_rfl))
  f21 := ⟨Tryz.f112.name, by decide, Tryz.func112.trans (congrArg some (by kernel_rfl))⟩
  f22 := ⟨Tryz.f113.name, by decide, Tryz.func113.trans (congrArg some (by kernel_rfl))⟩
  f23 := ⟨Tryz.f114.name, by decide, Tryz.func114.trans (congrArg some (by kernel_rfl))⟩
  f24 := ⟨Tryz.f115.name, by decide, Tryz.func115.trans (congrArg some (by kernel_rfl))⟩
  f25 := ⟨Tryz.f116.name, by decide, Tryz.func116.trans (congrArg some (by kernel_rfl))⟩
  f26 := ⟨Tryz.f117.name, by decide, Tryz.func117.trans (congrArg some (by kernel_rfl))⟩
  f27 := ⟨Tryz.f118.name, by decide, Tryz.func118.trans (congrArg some (by kernel_rfl))⟩
  f28 := ⟨Tryz.f119.name, by decide, Tryz.func119.trans (congrArg some (by kernel_rfl))⟩
  f29 := ⟨Tryz.f120.name, by decide, Tryz.func120.trans (congrArg some (by kernel_rfl))⟩
  f31 := Tryz.func125.trans (congrArg some (by kernel_rfl))
  f32 := Tryz.func126.trans (congrArg some (by kernel_rfl))
  f36 := ⟨Tryz.f124.name, by decide, Tryz.func124.trans (congrArg some (by kernel_rfl))⟩
  f37 := ⟨Tryz.f127.name, by decide, Tryz.func127.trans (congrArg some (by kernel_rfl))⟩
  f38 := ⟨Tryz.f128.name, by decide, Tryz.func128.trans (congrArg some (by kernel_rfl))⟩
  f39 := ⟨Tryz.f129.name, by decide, Tryz.func129.trans (congrArg some (by kernel_rfl))⟩
  f41 := ⟨Tryz.f132.name, by decide, Tryz.func132.trans (congrArg some (by kernel_rfl))⟩
  t0 := Tryz.underlying0
  a0 := Tryz.isAgg0
  z0 := Tryz.sizeOf0
  v0 := Tryz.zeroValue0
  t3 := Tryz.underlying3
  a3 := Tryz.isAgg3
  z3 := Tryz.sizeOf3
  v3 := Tryz.zeroValue3
  t4 := Tryz.underlying4
  a4 := Tryz.isAgg4
  z4 := Tryz.sizeOf4
  v4 := Tryz.zeroValue4
  t5 := Tryz.underlying5
  a5 := Tryz.isAgg5
  z5 := Tryz.sizeOf5
  v5 := Tryz.zeroValue5
  t9 := Tryz.underlying9
  a9 := Tryz.isAgg9
  z9 := Tryz.sizeOf9
  v9 := Tryz.zeroValue9
  t26 := Tryz.underlying89
  a26 := Tryz.isAgg89
  z26 := Tryz.sizeOf89
  v26 := Tryz.zeroValue89
  t27 := Tryz.underlying89
  a27 := Tryz.isAgg89
  z27 := Tryz.sizeOf89
  v27 := Tryz.zeroValue89
  t29 := Tryz.underlying9
  a29 := Tryz.isAgg9
  z29 := Tryz.sizeOf9
  v29 := Tryz.zeroValue9
  t32 := Tryz.underlying54
  a32 := Tryz.isAgg54
  z32 := Tryz.sizeOf54
  v32 := Tryz.zeroValue54
  t35 := Tryz.underlying179
  a35 := Tryz.isAgg179
  z35 := Tryz.sizeOf179
  v35 := Tryz.zeroValue179
  t36 := Tryz.underlying180
  a36 := Tryz.isAgg180
  z36 := Tryz.sizeOf180
  v36 := Tryz.zeroValue180
  t41 := Tryz.underlying185
  a41 := Tryz.isAgg185
  z41 := Tryz.sizeOf185
  v41 := Tryz.zeroValue185
  t44 := Tryz.underlying166
  a44 := Tryz.isAgg166
  z44 := Tryz.sizeOf166
  v44 := Tryz.zeroValue166
  t46 := Tryz.underlying120
  a46 := Tryz.isAgg120
  z46 := Tryz.sizeOf120
  v46 := Tryz.zeroValue120
  t53 := Tryz.underlying192
  a53 := Tryz.isAgg192
  z53 := Tryz.sizeOf192
  v53 := Tryz.zeroValue192
  t57 := Tryz.underlying196
  a57 := Tryz.isAgg196
  z57 := Tryz.sizeOf196
  v57 := Tryz.zeroValue196
  t63 := Tryz.underlying201
  a63 := Tryz.isAgg201
  z63 := Tryz.sizeOf201
  v63 := Tryz.zeroValue201
  t64 := Tryz.underlying202
  a64 := Tryz.isAgg202
  z64 := Tryz.sizeOf202
  v64 := Tryz.zeroValue202 }
end Go.Proofs
namespace Go.Proofs.YtmgggddnfeojmaaGreat
open Go.RowKit
open Go.Maps
set_option maxHeartbeats 2000000 in
theorem isLetter_any (x : Nat) (w : World) (hx : x < 256) :
    Calls Tryz.prog 75 #[.int .u8 (x : Int)] w fun e w' => e = .returned (.bool (okB x)) ∧ w = w' := by
  obtain ⟨b, hb⟩ : ∃ b, okB x = b := ⟨_, rfl⟩
  rw [hb]
  have HB := Lib.hid hb
  clear hb
  rcases okB_ways x with ⟨h1, h2, h3⟩ | ⟨h1, h2, h4, h3⟩ | ⟨h1, h3⟩ | ⟨h1, h3⟩ | ⟨h1, h2, h3⟩ | ⟨h1, h2, h4, h3⟩ | ⟨h1, h2, h4, h3⟩
  · have HV : Hid (b = true) := Lib.hid (HB.out.symm.trans h3)
    clear h3
    go_enter Tryz.func75, Tryz.ntmps75
    go_wp2_with fail
    go_ret
    rw [HV.out]
    exact ⟨rfl, rfl⟩
  · have HV : Hid (b = true) := Lib.hid (HB.out.symm.trans h3)
    clear h3
    go_enter Tryz.func75, Tryz.ntmps75
    go_wp2_with fail
    go_ret
    rw [HV.out]
    exact ⟨rfl, rfl⟩
  · have HV : Hid (b = true) := Lib.hid (HB.out.symm.trans h3)
    clear h3
    subst h1
    go_enter Tryz.func75, Tryz.ntmps75
    go_wp2_with fail
    go_ret
    rw [HV.out]
    exact ⟨rfl, rfl⟩
  · have HV : Hid (b = true) := Lib.hid (HB.out.symm.trans h3)
    clear h3
    subst h1
    go_enter Tryz.func75, Tryz.ntmps75
    go_wp2_with fail
    go_ret
    rw [HV.out]
    exact ⟨rfl, rfl⟩
  · have HV : Hid (b = false) := Lib.hid (HB.out.symm.trans h3)
    have d1 : (decide ((x : Int) ≤ 122)) = false := by simp; omega
    have d2 : (decide ((x : Int) ≤ 57)) = false := by simp; omega
    have d3 : ((x : Int) == 46) = false := by simp; omega
    have d4 : ((x : Int) == 45) = false := by simp; omega
    clear h3
    go_enter Tryz.func75, Tryz.ntmps75
    go_wp2_with fail
    go_ret
    rw [HV.out]
    exact ⟨rfl, rfl⟩
  · have HV : Hid (b = false) := Lib.hid (HB.out.symm.trans h3)
    have d2 : (decide ((x : Int) ≤ 57)) = false := by simp; omega
    have d3 : ((x : Int) == 46) = false := by simp; omega
    have d4 : ((x : Int) == 45) = false := by simp; omega
    clear h3
    go_enter Tryz.func75, Tryz.ntmps75
    go_wp2_with fail
    go_ret
    rw [HV.out]
    exact ⟨rfl, rfl⟩
  · have HV : Hid (b = false) := Lib.hid (HB.out.symm.trans h3)
    have d3 : ((x : Int) == 46) = false := by simp; omega
    have d4 : ((x : Int) == 45) = false := by simp; omega
    clear h3
    go_enter Tryz.func75, Tryz.ntmps75
    go_wp2_with fail
    go_ret
    rw [HV.out]
    exact ⟨rfl, rfl⟩
set_option maxHeartbeats 2000000 in
theorem isName_any (s : ByteArray) (w : World) (hs : s.size ≤ 281474976710656) :
    Calls Tryz.prog 48 #[.string s] w fun e w' => e = .returned (.bool (okName s)) ∧ w = w' := by
  obtain ⟨b, hb⟩ : ∃ b, okName s = b := ⟨_, rfl⟩
  rw [hb]
  have HB := Lib.hid hb
  clear hb
  by_cases h1 : 1 ≤ s.size
  · have d0 : ((s.size : Int) == 0) = false := by simpa using (by omega : (s.size : Int) ≠ 0)
    by_cases h2 : s.size ≤ 32
    · have d1 : decide (32 < (s.size : Int)) = false := by simp; omega
      go_enter Tryz.func48, Tryz.ntmps48
      go_wp2_with fail
      go_loop [14] (fun t14 => ∃ k : Nat, k ≤ s.size ∧ t14 = .int .i64 k ∧ Hid (∀ (j : Nat) (x : Int), j < k → (nums s)[j]? = some x → okB x = true)) (fun t14 => s.size - (intOf t14).toNat)
      case atStart => exact ⟨0, by omega, rfl, Lib.hid (fun j x hj => by omega)⟩
      case round =>
        obtain ⟨k, hk, rfl, hf⟩ := hrel
        by_cases hlt : k < s.size
        · have HX := Lib.hid (nums_get s k hlt)
          obtain ⟨x, hx⟩ : ∃ x, s[k].toNat = x := ⟨_, rfl⟩
          have hlx : s[k].toNat < 256 := s[k].toNat_lt
          obtain ⟨v, hv⟩ : ∃ v, okB x = v := ⟨_, rfl⟩
          have HC := Lib.hid (isLetter_any s[k].toNat w hlx)
          rw [hx, hv] at HC
          have HXV := Lib.hid (And.intro hx hv)
          clear hlx
          cases v
          · have HV : Hid (b = false) := Lib.hid (by rw [← HB.out]; unfold okName; rw [all_not HX.out (by rw [HXV.out.1]; exact HXV.out.2)]; rfl)
            clear hv
            go_wp2_with (go_at_call 75; refine HC.out.mono ?_; rintro e w1 ⟨rfl, hw⟩; subst hw)
            go_ret
            rw [HV.out]
            exact ⟨rfl, rfl⟩
          · clear hv
            go_wp2_with (go_at_call 75; refine HC.out.mono ?_; rintro e w1 ⟨rfl, hw⟩; subst hw)
            go_round
            case rel => exact ⟨k + 1, by omega, by go_num, Lib.hid (fun j y hj hy => by
              by_cases e : j = k
              · subst e; rw [HX.out] at hy; injection hy with hy; rw [← hy, HXV.out.1]; exact HXV.out.2
              · exact hf.out j y (by omega) hy)⟩
            case measure => simp [intOf]; omega
        · obtain rfl : k = s.size := by omega
          have HV : Hid (b = true) := Lib.hid (by rw [← HB.out]; unfold okName; rw [all_upto (nums_len s) hf.out]; simp [h1, h2])
          go_wp2_with fail
          go_ret
          rw [HV.out]
          exact ⟨rfl, rfl⟩
    · have HV : Hid (b = false) := Lib.hid (by rw [← HB.out]; unfold okName; simp [h2])
      have d1 : decide (32 < (s.size : Int)) = true := by simp; omega
      go_enter Tryz.func48, Tryz.ntmps48
      go_wp2_with fail
      go_ret
      rw [HV.out]
      exact ⟨rfl, rfl⟩
  · have HV : Hid (b = false) := Lib.hid (by rw [← HB.out]; unfold okName; simp [h1])
    have d0 : ((s.size : Int) == 0) = true := by rw [beq_iff_eq]; omega
    go_enter Tryz.func48, Tryz.ntmps48
    go_wp2_with fail
    go_ret
    rw [HV.out]
    exact ⟨rfl, rfl⟩
end Go.Proofs.YtmgggddnfeojmaaGreat
namespace Go.Proofs.YtmgggddnfeojmaaGreat
open Go.RowKit
open Go.Maps
/-- What is asked ahead of any file. -/
def readyE (down : Bool) (names : List ByteArray) : Int := if down then 20 else if names.all okName then 0 else 23
theorem all_step {names : List ByteArray} {k : Nat} {s : ByteArray} (hs : names[k]? = some s) (h : okName s = true) (hb : ∀ (j : Nat) (t : ByteArray), j < k → names[j]? = some t → okName t = true) : ∀ (j : Nat) (t : ByteArray), j < k + 1 → names[j]? = some t → okName t = true := fun j t hj ht => by
  by_cases e : j = k
  · subst e
    rw [hs] at ht
    injection ht with ht
    rw [← ht]
    exact h
  · exact hb j t (by omega) ht
theorem names_all {names : List ByteArray} {n : Nat} (hn : names.length = n) (hb : ∀ (j : Nat) (t : ByteArray), j < n → names[j]? = some t → okName t = true) : names.all okName = true := by
  rw [List.all_eq_true]
  intro x hx
  obtain ⟨j, hj, e⟩ := List.mem_iff_getElem.1 hx
  exact hb j x (by omega) (by rw [List.getElem?_eq_getElem hj, e])
theorem names_not {names : List ByteArray} {k : Nat} {s : ByteArray} (hs : names[k]? = some s) (h : okName s = false) : names.all okName = false := by
  rw [Bool.eq_false_iff]
  intro e
  have := List.all_eq_true.1 e s (List.mem_of_getElem? hs)
  rw [h] at this
  cases this
set_option maxHeartbeats 2000000 in
theorem ready_nil (A : Option Addr) (n c : Nat) (w : World) :
    Calls Tryz.prog 57 #[.pointer none, .slice A n c] w fun e w' => e = .returned (.int .i64 1) ∧ w = w' := by
  go_enter Tryz.func57, Tryz.ntmps57
  go_wp2_with fail
  go_ret
  exact ⟨rfl, rfl⟩
set_option maxHeartbeats 2000000 in
theorem ready_any (g : Nat) (p : Pk) (A : Option Addr) (names : List ByteArray) (n c : Nat) (w : World) (hp : PkAt w g p) (hn : names.length = n) (h : Lies w A (names.map Value.string)) (hl : n ≤ 2) (hs : ∀ s ∈ names, s.size ≤ 281474976710656) :
    Calls Tryz.prog 57 #[.pointer (some ⟨g, 0, none⟩), .slice A n c] w fun e w' => e = .returned (.int .i64 (readyE p.down names)) ∧ w = w' := by
  obtain ⟨r, hr⟩ : ∃ r, readyE p.down names = r := ⟨_, rfl⟩
  rw [hr]
  have HR := Lib.hid hr
  obtain ⟨-, -, -, -, -, c5⟩ := hp.cell
  have HN := Lib.hid hn
  have HS := Lib.hid hs
  have HP := Lib.hid h
  clear hr hp hn hs h
  obtain ⟨b, l, size, room, left, K, keep, kc, down⟩ := p
  simp only at c5 HR
  cases down
  · go_enter Tryz.func57, Tryz.ntmps57
    go_wp2_with fail
    go_loop [15] (fun t15 => ∃ k : Nat, k ≤ n ∧ t15 = .int .i64 k ∧ Hid (∀ (j : Nat) (t : ByteArray), j < k → names[j]? = some t → okName t = true)) (fun t15 => n - (intOf t15).toNat)
    case atStart => exact ⟨0, by omega, rfl, Lib.hid (fun j t hj => by omega)⟩
    case round =>
      obtain ⟨k, hk, rfl, hf⟩ := hrel
      by_cases hlt : k < n
      · have hq := List.getElem?_eq_getElem (l := names) (i := k) (by have := HN.out; omega)
        generalize names[k]'(by have := HN.out; omega) = s at hq
        obtain ⟨ad, hA, hc⟩ := HP.out.resolve_left (fun e => by have := HN.out; have h2 := congrArg List.length e; rw [List.length_map, List.length_nil] at h2; omega)
        subst hA
        have c0 := hc k (.string s) (by rw [List.getElem?_map, hq]; rfl)
        have HQ := Lib.hid hq
        have HC := Lib.hid (isName_any s w (HS.out s (List.mem_of_getElem? hq)))
        clear hc hq
        obtain ⟨v, hv⟩ : ∃ v, okName s = v := ⟨_, rfl⟩
        rw [hv] at HC
        have HV := Lib.hid hv
        clear hv
        cases v
        · have HW : Hid (r = 23) := Lib.hid (by rw [← HR.out]; unfold readyE; rw [names_not HQ.out HV.out]; rfl)
          go_wp2_with (go_at_call 48; refine HC.out.mono ?_; rintro e w1 ⟨rfl, hw⟩; subst hw)
          go_ret
          rw [HW.out]
          exact ⟨rfl, rfl⟩
        · go_wp2_with (go_at_call 48; refine HC.out.mono ?_; rintro e w1 ⟨rfl, hw⟩; subst hw)
          go_round
          case rel => exact ⟨k + 1, by omega, by go_num, Lib.hid (all_step HQ.out HV.out hf.out)⟩
          case measure => simp [intOf]; omega
      · obtain rfl : k = n := by omega
        have HW : Hid (r = 0) := Lib.hid (by rw [← HR.out]; unfold readyE; rw [names_all HN.out hf.out]; rfl)
        go_wp2_with fail
        go_ret
        rw [HW.out]
        exact ⟨rfl, rfl⟩
  · have HW : Hid (r = 20) := Lib.hid (by rw [← HR.out]; rfl)
    go_enter Tryz.func57, Tryz.ntmps57
    go_wp2_with fail
    go_ret
    rw [HW.out]
    exact ⟨rfl, rfl⟩
/-- A change counted, or the crash. -/
def stepP (p : Pk) : Pk × Int := if p.left = 0 then ({ p with down := true }, 20) else if 0 < p.left then ({ p with left := p.left - 1 }, 0) else (p, 0)
/-- The disk's own block has turned. -/
def TurnsP (w : World) (g : Nat) (p : Pk) (r : Int) (e : Ending) (w' : World) : Prop := e = .returned (.int .i64 r) ∧ PkAt w' g p ∧ BelowX w.heap.size g w w'
set_option maxHeartbeats 2000000 in
theorem step_any (g : Nat) (p : Pk) (w : World) (hp : PkAt w g p) (hl : -9223372036854775808 ≤ p.left ∧ p.left ≤ 9223372036854775807) :
    Calls Tryz.prog 58 #[.pointer (some ⟨g, 0, none⟩)] w (TurnsP w g (stepP p).1 (stepP p).2) := by
  obtain ⟨q, hq⟩ : ∃ q, stepP p = q := ⟨_, rfl⟩
  rw [hq]
  have HQ := Lib.hid hq
  obtain ⟨-, -, -, c3, -, c5⟩ := hp.cell
  have f3 := hp.frozen 3
  have f5 := hp.frozen 5
  have HP := Lib.hid hp
  clear hq hp
  obtain ⟨b, l, size, room, left, K, keep, kc, down⟩ := p
  simp only at c3 c5 hl
  obtain ⟨hl0, hl1⟩ := hl
  by_cases h0 : left = 0
  · subst h0
    have HW : Hid (q = (⟨b, l, size, room, 0, K, keep, kc, true⟩, 20)) := Lib.hid (by rw [← HQ.out]; rfl)
    go_enter Tryz.func58, Tryz.ntmps58
    go_wp2_with fail
    go_ret
    rw [HW.out]
    exact ⟨rfl, PkAt.set (p := ⟨b, l, size, room, 0, K, keep, kc, down⟩) HP.out 5 (.bool true) rfl, belowx_set _ _ g 5 (.bool true)⟩
  · have d0 : (left == 0) = false := by simpa using h0
    by_cases h1 : 0 < left
    · have HW : Hid (q = (⟨b, l, size, room, left - 1, K, keep, kc, down⟩, 0)) := Lib.hid (by rw [← HQ.out]; simp [stepP, h0, h1])
      clear h0
      go_enter Tryz.func58, Tryz.ntmps58
      go_wp2_with fail
      go_ret
      rw [HW.out]
      exact ⟨rfl, PkAt.set (p := ⟨b, l, size, room, left, K, keep, kc, down⟩) HP.out 3 (.int .i64 (left - 1)) rfl, belowx_set _ _ g 3 (.int .i64 (left - 1))⟩
    · have HW : Hid (q = (⟨b, l, size, room, left, K, keep, kc, down⟩, 0)) := Lib.hid (by rw [← HQ.out]; simp [stepP, h0, h1])
      have d1 : decide (0 < left) = false := by simpa using h1
      clear h0
      go_enter Tryz.func58, Tryz.ntmps58
      go_wp2_with fail
      go_ret
      rw [HW.out]
      exact ⟨rfl, HP.out, BelowX.refl _ _ _⟩
/-- What hinders it, of one file. -/
def findE (p : Pk) (s : ByteArray) : Int := if readyE p.down [s] ≠ 0 then readyE p.down [s] else if (vfindP s p.l).isNone then 22 else 0
def findV (p : Pk) (s : ByteArray) : Value := if readyE p.down [s] ≠ 0 then .pointer none else ptrOf (vfindP s p.l)
theorem pk_block {w w' : World} {g : Nat} {p : Pk} (h : PkAt w g p) (e : w'.heap[g]? = w.heap[g]?) : PkAt w' g p := by
  unfold PkAt at h ⊢
  rw [e, h]
set_option maxHeartbeats 2000000 in
theorem vfind_any (B g : Nat) (p : Pk) (s : ByteArray) (w : World) (h : PSt w B g p) (hs : s.size ≤ 281474976710656) (hm : s.size ≤ maxLen) :
    Calls Tryz.prog 51 #[.pointer (some ⟨g, 0, none⟩), .string s] w fun e w' => e = .returned (.tuple #[findV p s, .int .i64 (findE p s)]) ∧ Below w.heap.size w w' := by
  have H1 := Lib.hid (h.kept (below_new w (.cells #[.string s] 9)))
  have HR := Lib.hid (ready_any g p (some ⟨w.heap.size, 0, none⟩) [s] 1 1 (w.alloc (.cells #[.string s] 9)) H1.out.at_ rfl (lit_lies w [.string s] _ rfl _) (by omega) (fun t ht => by rw [List.mem_singleton] at ht; subst ht; exact hs))
  have c0 := H1.out.at_.cell.1
  have HL := look_run H1.out.inn.map s hm
  obtain ⟨r, hr⟩ : ∃ r, readyE p.down [s] = r := ⟨_, rfl⟩
  rw [hr] at HR
  obtain ⟨x, hx⟩ : ∃ x, findE p s = x := ⟨_, rfl⟩
  obtain ⟨v, hv⟩ : ∃ v, findV p s = v := ⟨_, rfl⟩
  rw [hx, hv]
  have HX := Lib.hid (And.intro hr (And.intro hx hv))
  have HB := Lib.hid (below_new w (.cells #[.string s] 9))
  clear h hr hx hv
  by_cases h0 : r = 0
  · subst h0
    obtain ⟨o, ho⟩ : ∃ o, vfindP s p.l = o := ⟨_, rfl⟩
    rw [ho] at HL
    cases o with
    | none =>
      have HW : Hid (x = 22 ∧ v = .pointer none) := Lib.hid (by rw [← HX.out.2.1, ← HX.out.2.2]; unfold findE findV; rw [HX.out.1, ho]; exact ⟨rfl, rfl⟩)
      clear ho
      unfold ptrOf at HL
      go_enter Tryz.func51, Tryz.ntmps51
      go_wp2_with (go_at_call 57; refine HR.out.mono ?_; rintro e w1 ⟨rfl, hw⟩; subst hw)
      go_ret2
      rw [HW.out.1, HW.out.2]
      exact ⟨rfl, HB.out⟩
    | some q =>
      have HW : Hid (x = 0 ∧ v = .pointer (some ⟨q.h, 0, none⟩)) := Lib.hid (by rw [← HX.out.2.1, ← HX.out.2.2]; unfold findE findV; rw [HX.out.1, ho]; exact ⟨rfl, rfl⟩)
      clear ho
      unfold ptrOf Pf.at_ at HL
      go_enter Tryz.func51, Tryz.ntmps51
      go_wp2_with (go_at_call 57; refine HR.out.mono ?_; rintro e w1 ⟨rfl, hw⟩; subst hw)
      go_ret2
      rw [HW.out.1, HW.out.2]
      exact ⟨rfl, HB.out⟩
  · have HW : Hid (x = r ∧ v = .pointer none) := Lib.hid (by rw [← HX.out.2.1, ← HX.out.2.2]; unfold findE findV; rw [HX.out.1, if_pos h0, if_pos h0]; exact ⟨rfl, rfl⟩)
    have d0 : (r != 0) = true := by simpa using h0
    clear h0
    go_enter Tryz.func51, Tryz.ntmps51
    go_wp2_with (go_at_call 57; refine HR.out.mono ?_; rintro e w1 ⟨rfl, hw⟩; subst hw)
    go_ret2
    rw [HW.out.1, HW.out.2]
    exact ⟨rfl, HB.out⟩
/-- A file for a change that is then done, or what hinders it. -/
def changeP (p : Pk) (s : ByteArray) : Pk × Value × Int := if findE p s ≠ 0 then (p, .pointer none, findE p s) else if (stepP p).2 ≠ 0 then ((stepP p).1, .pointer none, (stepP p).2) else ((stepP p).1, findV p s, 0)
def TurnsV (w : World) (g : Nat) (r : Pk × Value × Int) (e : Ending) (w' : World) : Prop := e = .returned (.tuple #[r.2.1, .int .i64 r.2.2]) ∧ PkAt w' g r.1 ∧ BelowX w.heap.size g w w'
set_option maxHeartbeats 2000000 in
theorem change_any (B g : Nat) (p : Pk) (s : ByteArray) (w : World) (h : PSt w B g p) (hs : s.size ≤ 281474976710656) (hm : s.size ≤ maxLen) :
    Calls Tryz.prog 64 #[.pointer (some ⟨g, 0, none⟩), .string s] w (TurnsV w g (changeP p s)) := by
  have HF := Lib.hid (vfind_any B g p s w h hs hm)
  have HS := Lib.hid (fun (W : World) (hb : Below w.heap.size w W) => step_any g p W (h.kept hb).at_ h.left)
  have HK := Lib.hid (fun (W : World) (hb : Below w.heap.size w W) => (h.kept hb).at_)
  obtain ⟨r, hr⟩ : ∃ r, changeP p s = r := ⟨_, rfl⟩
  rw [hr]
  obtain ⟨x, hx⟩ : ∃ x, findE p s = x := ⟨_, rfl⟩
  obtain ⟨v, hv⟩ : ∃ v, findV p s = v := ⟨_, rfl⟩
  obtain ⟨y, hy⟩ : ∃ y, stepP p = y := ⟨_, rfl⟩
  rw [hx, hv] at HF
  rw [hy] at HS
  obtain ⟨y1, y2⟩ := y
  simp only at HS
  have HR := Lib.hid (And.intro hr (And.intro hx (And.intro hv hy)))
  clear h hr hx hv hy
  by_cases h0 : x = 0
  · subst h0
    by_cases h1 : y2 = 0
    · subst h1
      have HW : Hid (r = (y1, v, 0)) := Lib.hid (by rw [← HR.out.1]; unfold changeP; rw [HR.out.2.1, HR.out.2.2.2, HR.out.2.2.1]; rfl)
      go_enter Tryz.func64, Tryz.ntmps64
      go_wp2_with (first | (go_at_call 51; refine HF.out.mono ?_; rintro e w1 ⟨rfl, hb⟩; have B1 := Lib.hid hb; clear hb) | (go_at_call 58; refine (HS.out _ B1.out).mono ?_; rintro e w2 ⟨rfl, ha, hb⟩; have B2 := Lib.hid (And.intro ha hb); clear ha hb))
      go_ret2
      rw [HW.out]
      exact ⟨rfl, B2.out.1, (below_x B1.out).trans (B2.out.2.mono B1.out.size)⟩
    · have HW : Hid (r = (y1, .pointer none, y2)) := Lib.hid (by rw [← HR.out.1]; unfold changeP; rw [HR.out.2.1, HR.out.2.2.2, HR.out.2.2.1, if_neg (by simp), if_pos h1])
      have d1 : (y2 != 0) = true := by simpa using h1
      clear h1
      go_enter Tryz.func64, Tryz.ntmps64
      go_wp2_with (first | (go_at_call 51; refine HF.out.mono ?_; rintro e w1 ⟨rfl, hb⟩; have B1 := Lib.hid hb; clear hb) | (go_at_call 58; refine (HS.out _ B1.out).mono ?_; rintro e w2 ⟨rfl, ha, hb⟩; have B2 := Lib.hid (And.intro ha hb); clear ha hb))
      go_ret2
      rw [HW.out]
      exact ⟨rfl, B2.out.1, (below_x B1.out).trans (B2.out.2.mono B1.out.size)⟩
  · have HW : Hid (r = (p, .pointer none, x)) := Lib.hid (by rw [← HR.out.1]; unfold changeP; rw [HR.out.2.1, if_pos h0])
    have d0 : (x != 0) = true := by simpa using h0
    clear h0
    go_enter Tryz.func64, Tryz.ntmps64
    go_wp2_with (go_at_call 51; refine HF.out.mono ?_; rintro e w1 ⟨rfl, hb⟩; have B1 := Lib.hid hb; clear hb)
    go_ret2
    rw [HW.out]
    exact ⟨rfl, HK.out _ B1.out, below_x B1.out⟩
end Go.Proofs.YtmgggddnfeojmaaGreat
namespace Go.Proofs.YtmgggddnfeojmaaGreat
open Go.RowKit
open Go.Maps
theorem Does.wider {S T T' : Nat → Prop} {a b : World} (h : Does S S a b) (hS : ∀ k, S k → T k) (hT : ∀ k, T' k → T k ∨ a.heap.size ≤ k) : Does T T' a b :=
  ⟨h.os, h.tape, h.output, h.size, fun k hk hn => h.block k hk (fun hs => hn (hS k hs)), hT⟩
theorem Does.of_grown {S : Nat → Prop} {a b : World} {r : Nat} (h : a.grownBy b (some r)) (hS : S r) : Does S S a b :=
  ⟨h.os, h.tape, h.output, h.size, fun k hk hn => h.block k hk (fun e => by injection e with e; subst e; exact hn hS), fun _ hk => .inl hk⟩
theorem does_set {S : Nat → Prop} {w : World} {g i : Nat} {v : Value} (hS : S g) : Does S S w (w.setCell ⟨g, i, none⟩ v) :=
  ⟨rfl, rfl, rfl, by simp, fun k _ hn => Below.heap_setCell w ⟨g, i, none⟩ v k (fun e => hn (e ▸ hS)), fun _ hk => .inl hk⟩
/-- VTwo blocks. -/
def VTwo (a b k : Nat) : Prop := k = a ∨ k = b
theorem In7.not_map {w : World} {B : Nat} {p : Pk} (h : In7 w B p) : (∀ ad, p.K = some ad → ad.block ≠ p.b) ∧ ∀ q ∈ p.l, ¬ q.own p.b := by
  obtain ⟨es, clock, hb, -⟩ := h.map
  refine ⟨fun ad ha e => ?_, fun q hq hk => ?_⟩
  · obtain ⟨cur, hc⟩ := own_type h.keep ha
    rw [e, hb] at hc
    cases hc
  · rcases hk with e | ⟨ad, ha, e⟩
    · have hf := (h.file q hq).at_
      unfold FileAt at hf
      rw [← e, hb] at hf
      cases hf
    · obtain ⟨cur, hc⟩ := own_type (h.file q hq).row ha
      rw [← e, hb] at hc
      cases hc
theorem sumP_ins (q : Pf) (l : List Pf) : sumP (insP q l) = sumP l + q.d.l.length := by
  have key : ∀ l : List Pf, sumM ((insP q l).map Pf.rd) = sumM (l.map Pf.rd) + q.d.l.length := by
    intro l
    induction l with
    | nil => simp [insP, sumM, Pf.rd]
    | cons x l ih =>
      unfold insP
      split
      · simp [sumM, Pf.rd]; omega
      · simp only [sumM, List.map_cons, List.sum_cons] at ih ⊢
        omega
  unfold sumP
  rw [key]
  omega
/-- A file lies apart from the disk's own block and from the map. -/
theorem PSt.not_two {w : World} {B C g : Nat} {p : Pk} {x : Pf} (h : PSt w B g p) (hx : FileOk w C x) : ∀ k, x.own k → k ≠ g ∧ k ≠ p.b := fun k hk => by
  have hat := h.at_
  unfold PkAt at hat
  obtain ⟨es, clock, hmb, -⟩ := h.inn.map
  have hf := hx.at_
  unfold FileAt at hf
  rcases hk with e | ⟨ad, ha1, e⟩
  · refine ⟨fun e2 => ?_, fun e2 => ?_⟩
    · rw [← e, e2, hat] at hf
      injection hf with hf
      injection hf with _ hf
      exact absurd hf (by decide)
    · rw [← e, e2, hmb] at hf
      cases hf
  · obtain ⟨cur, hc⟩ := own_type hx.row ha1
    refine ⟨fun e2 => ?_, fun e2 => ?_⟩
    · rw [← e, e2, hat] at hc
      injection hc with hc
      injection hc with _ hc
      exact absurd hc (by decide)
    · rw [← e, e2, hmb] at hc
      cases hc
/-- A file put in. -/
def putP (p : Pk) (q : Pf) : Pk := { p with l := insP q p.l, size := wrap64 (p.size + q.d.l.length) }
/-- The map and the disk's own block have turned: a file more. -/
theorem PSt.put {w w1 : World} {B g : Nat} {p : Pk} {q : Pf} (h : PSt w B g p) (hq : FileOk w B q) (ha : ∀ x ∈ p.l, x.s ≠ q.s ∧ Apart q x)
    (hm : w1.ownsMap Tryz.prog 9 ptrElem p.b (p.l.length + 1) ((Dm p.l).put (kOf q.s) (.held q.at_))) (hd : Does (VTwo g p.b) (VTwo g p.b) w w1) (hk : PkAt w1 g (putP p q)) : PSt w1 B g (putP p q) := by
  have hb := h.inn.not_map
  have hg := h.not_inner
  have hfile : ∀ x, FileOk w B x → FileOk w1 B x := fun x hx => hx.of (fun k hk1 => hd.block k (hx.owned k hk1).2 (fun e => e.elim (h.not_two hx k hk1).1 (h.not_two hx k hk1).2))
  refine ⟨hk, h.low, ⟨?_, h.inn.mlow, ?_, ?_, ?_, ?_, h.inn.ki⟩, ?_, h.left, h.room⟩
  · rw [put_Dm (fun x hx => (ha x hx).1)] at hm
    exact owns_fit hm (by simp [putP])
  · intro x hx
    rcases mem_insP.1 hx with rfl | hx
    · exact hfile x hq
    · exact hfile x (h.inn.file x hx)
  · intro x hx y hy hne
    rcases mem_insP.1 hx with ex | mx <;> rcases mem_insP.1 hy with ey | my
    · exact absurd (by rw [ex, ey]) hne
    · rw [ex]
      exact (ha y my).2
    · rw [ey]
      exact (ha x mx).2.symm
    · exact h.inn.apart x mx y my hne
  · exact h.inn.srt.ins (fun x hx => (ha x hx).1)
  · exact own_block h.inn.keep (fun ad hA => hd.block _ (own_in h.inn.keep ad hA).2 (fun e => by
      rcases e with e | e
      · exact hg (e ▸ .inr (.inl ⟨ad, hA, rfl⟩))
      · exact hb.1 ad hA e))
  · show wrap64 (p.size + q.d.l.length) = wrap64 (sumP (insP q p.l))
    rw [h.size, sumP_ins]
    unfold wrap64
    omega
theorem PSt.put_mid {w w2 w3 : World} {B g : Nat} {p : Pk} {q : Pf} (h : PSt w B g p) (hq : FileOk w B q) (h2 : Below w.heap.size w w2) (h3 : w2.grownBy w3 (some p.b)) :
    PkAt w3 g p ∧ FileAt w3 q.h q.d q.y ∧ Does (VTwo g p.b) (VTwo g p.b) w w3 := by
  have hD : Does (VTwo g p.b) (VTwo g p.b) w w3 := (Does.of_below h2 (fun _ hk => .inl hk)).trans (Does.of_grown h3 (.inr rfl))
  refine ⟨?_, ?_, hD⟩
  · refine pk_block h.at_ ?_
    rw [h3.block g (by have := h.at_.lt; have := h2.size; omega) (fun e => by injection e with e; exact h.not_inner (e ▸ .inl rfl)), h2.block g h.at_.lt]
  · exact (hq.of (fun k hk => hD.block k (hq.owned k hk).2 (fun e => e.elim (h.not_two hq k hk).1 (h.not_two hq k hk).2))).at_
theorem PSt.put_end {w w3 W : World} {B g : Nat} {p : Pk} {q : Pf} (h : PSt w B g p) (hq : FileOk w B q) (ha : ∀ x ∈ p.l, x.s ≠ q.s ∧ Apart q x) (hm : w3.ownsMap Tryz.prog 9 ptrElem p.b (p.l.length + 1) ((Dm p.l).put (kOf q.s) (.held q.at_)))
    (hk : PkAt w3 g p) (hd : Does (VTwo g p.b) (VTwo g p.b) w w3) (hW : Below w3.heap.size w3 W) : PSt (W.setCell ⟨g, 1, none⟩ (.int .i64 (wrap64 (p.size + q.d.l.length)))) B g (putP p q) ∧ Does (VTwo g p.b) (VTwo g p.b) w (W.setCell ⟨g, 1, none⟩ (.int .i64 (wrap64 (p.size + q.d.l.length)))) := by
  have hD : Does (VTwo g p.b) (VTwo g p.b) w (W.setCell ⟨g, 1, none⟩ (.int .i64 (wrap64 (p.size + q.d.l.length)))) := (hd.trans (Does.of_below hW (fun _ hk => .inl hk))).trans (does_set (.inl rfl))
  have hne : p.b ≠ g := fun e => h.not_inner (e ▸ .inl rfl)
  have hkW : PkAt W g p := pk_block hk (hW.block g hk.lt)
  refine ⟨h.put hq ha ?_ hD (hkW.set 1 _ rfl), hD⟩
  rw [put_Dm (fun x hx => (ha x hx).1)] at hm ⊢
  refine owns_at hm ?_
  rw [Below.heap_setCell W ⟨g, 1, none⟩ _ p.b hne, hW.block p.b hm.lt]
set_option maxHeartbeats 2000000 in
theorem strClone_any (s : ByteArray) (w : World) (hs : s.size ≤ 281474976710656) :
    Calls Tryz.prog 76 #[.string s] w fun e w' => e = .returned (.string s) ∧ Below w.heap.size w w' := by
  have HC := Lib.hid (Tryz.stringslite_Clone s w hs)
  go_enter Tryz.func76, Tryz.ntmps76
  go_wp2_with (go_at_call 95; refine HC.out.mono ?_; rintro e w1 ⟨rfl, hb⟩; have B1 := Lib.hid hb; clear hb)
  go_ret
  exact ⟨rfl, B1.out⟩
theorem put_run {w : World} {b n : Nat} {l : List Pf} (h : w.ownsMap Tryz.prog 9 ptrElem b n (Dm l)) (hn : n < maxLen) (s : ByteArray) (hs : s.size ≤ maxLen) (a : Addr) :
    ∃ w', (Instr.mapUpdate 78 (.map (some b)) (.string s) (.pointer (some a))).run Tryz.prog w = .ok () w' ∧ w'.ownsMap Tryz.prog 9 ptrElem b (n + 1) ((Dm l).put (kOf s) (.held a)) ∧ w.grownBy w' (some b) :=
  h.update strT Tryz.underlying78 hn (kOf_key s hs) (ps := []) rfl
set_option maxRecDepth 100000 in
set_option maxHeartbeats 4000000 in
theorem put_any (B g : Nat) (p : Pk) (q : Pf) (w : World) (h : PSt w B g p) (hq : FileOk w B q) (ha : ∀ x ∈ p.l, x.s ≠ q.s ∧ Apart q x) (hn : p.l.length < maxLen) (hs : q.s.size ≤ 281474976710656) (hm : q.s.size ≤ maxLen) :
    Calls Tryz.prog 49 #[.pointer (some ⟨g, 0, none⟩), .string q.s, .pointer (some ⟨q.h, 0, none⟩)] w fun e w' => e = .returned (.tuple #[]) ∧ PSt w' B g (putP p q) ∧ Does (VTwo g p.b) (VTwo g p.b) w w' := by
  have HC := Lib.hid (fun W => strClone_any q.s W hs)
  have H := Lib.hid (And.intro h (And.intro hq ha))
  have HK := Lib.hid (fun (W : World) (hb : Below w.heap.size w W) => And.intro (h.kept hb).at_.cell.1 (put_run (h.kept hb).inn.map hn q.s hm ⟨q.h, 0, none⟩))
  have c0 := h.at_.cell.1
  clear h hq ha
  obtain ⟨qs, qh, ⟨qa, qc, ql⟩, qy⟩ := q
  simp only at HC HK ⊢
  have B0 : Hid (Below w.heap.size w w) := Lib.hid (Below.refl _ _)
  have B1 : Hid (Below w.heap.size w w.drew) := Lib.hid (Below.refl _ _).drew
  go_enter Tryz.func49, Tryz.ntmps49
  go_upto_region 1 with fail
  go_region_law (first
    | (go_simp; go_at_call 76; refine (HC.out _).mono ?_; rintro e w2 ⟨rfl, hb⟩; obtain ⟨y0, w3, hrun, ho3, hg3⟩ := HK.out _ (by first | exact B0.out.trans hb | exact B1.out.trans hb); have C2 : Hid (Below w.heap.size w w2) := Lib.hid (by first | exact B0.out.trans hb | exact B1.out.trans hb); have C3 := Lib.hid (And.intro ho3 hg3); clear hb ho3 hg3))
  all_goals
    have M := Lib.hid (H.out.1.put_mid H.out.2.1 C2.out C3.out.2)
    have a1 := M.out.1.cell.2.1
    have fz := M.out.1.frozen 1
    have a2 := M.out.2.1.cell.1
    unfold Sl.val at a2
    simp only at a2
    have E1 := Lib.hid (H.out.1.put_end (W := w3.drew) H.out.2.1 H.out.2.2 C3.out.1 M.out.1 M.out.2.2 (Below.refl _ _).drew)
    clear hrun c0
    go_upto_region 1 with fail
    go_still_tail 12, (by kernel_rfl)
    change wpList _ _ _ _ _ w3.drew
    go_wp2_with fail
    go_end0
    exact ⟨rfl, E1.out.1, E1.out.2⟩
end Go.Proofs.YtmgggddnfeojmaaGreat
namespace Go.Proofs.YtmgggddnfeojmaaGreat
open Go.RowKit
open Go.Maps
set_option maxRecDepth 100000 in
theorem vclone_any (A : Option Addr) (L : List Int) (n c : Nat) (w : World) (hn : L.length = n) (h : Bys w A L) (hl : n ≤ 140737488355328) :
    Calls Tryz.prog 42 #[.slice A n c] w (Longer w w.heap.size L) := by
  subst hn
  cases A with
  | none =>
    have hL : L = [] := by
      rcases h with h | ⟨_, h, _⟩
      · exact h
      · cases h
    subst hL
    clear h hl
    rw [List.length_nil]
    have hnil := fun W => Go.Lib.run_eql_slice_nil_nil (P := Tryz.prog) W 0 c Tryz.underlying42
    go_enter Tryz.func42, Tryz.ntmps42
    go_wp2_with fail
    go_ret
    exact ⟨none, 0, rfl, Row.nil _ _, Below.refl _ _⟩
  | some ad =>
    have HB := Lib.hid (h.alloc (.cells #[] 5))
    have HL := Lib.hid hl
    have M0 := Lib.hid (row_made w w.heap.size [] #[] rfl (by simp) (Nat.le_refl _))
    have B0 := Lib.hid (below_new w (.cells #[] 5))
    obtain ⟨n, hn⟩ : ∃ n, L.length = n := ⟨_, rfl⟩
    have HN := Lib.hid hn
    rw [hn]
    clear h hl hn
    have hnil := fun W => Go.Lib.run_eql_slice_some_nil (P := Tryz.prog) W ad n c Tryz.underlying42
    go_enter Tryz.func42, Tryz.ntmps42
    go_wp2_with (at_builtin; refine wpList_append_row _ rfl (.tmp 5) (.tmp 6) rfl w.heap.size _ 0 [] L _ 0 n c rfl rfl rfl HN.out M0.out HB.out (by simp) (by have := HL.out; have := HN.out; simp only [List.length_nil]; omega) ?_; intro A1 c1 w1 r1 b1; have R1 := Lib.hid r1; have B1 := Lib.hid b1; clear r1 b1)
    go_ret
    exact ⟨A1, c1, vret_slice (by have := HN.out; first | omega | (simp; omega)), R1.out, B0.out.trans B1.out⟩
/-- A row of numbers, appended to an empty one. -/
theorem ivals_len (L : List Int) : (ivals L).length = L.length := by simp [ivals]
theorem ivals_one {L : List Int} : ∀ u ∈ ivals L, u.oneCell' = true := fun u hu => by
  obtain ⟨x, -, rfl⟩ := List.mem_map.1 hu
  rfl
theorem info3 : (Tryz.prog.info? 3).map (fun i => (i.zero, i.size, i.bytes)) = some (some (.int .i64 0), 1, 8) := by kernel_rfl
theorem Irow.nil (w : World) (B : Nat) : Irow w B none 0 [] := World.ownsRow_nil w B _ _
theorem irow_made (w : World) : Irow (w.alloc (.cells #[] 3)) w.heap.size (some ⟨w.heap.size, 0, none⟩) 0 [] :=
  World.ownsRow_lit w #[] 0 (Nat.le_refl _) (Nat.zero_le _) rfl
theorem wpList_append_irow (w : World) {ops : Array Oper} {rest : List Oper} {o : Oper} {a : Act} {Q : Exit → Act → World → Prop} (hgd : o.guard = none) (s x : Operand)
    (ho : o.op = .call { callee := .builtin .append, args := #[s, x], argTypes := #[26, 26] })
    (B : Nat) (A : Option Addr) (c : Nat) (M : List Int) (C : Option Addr) (m cm : Nat) (hs : a.eval s = .slice A 0 c) (hx : a.eval x = .slice C m cm) (em : M.length = m) (h : Irow w B A c []) (hm : Ints w C M) (hB : B ≤ w.heap.size) (hr : m * 8 ≤ 140737488355328)
    (k : ∀ A' c' w', Irow w' B A' c' M → Below B w w' → wpList Tryz.prog ops Q rest (a.put o.dst (.slice A' m c')) w') : wpList Tryz.prog ops Q (o :: rest) a w := by
  subst em
  obtain ⟨i, hi, hz0, hz1, hz2⟩ := info_parts info3
  refine wpList_plain hgd fun K hK => ?_
  obtain ⟨A', c', w', r, h2, h3⟩ := run_append_lies w 26 o.type 3 i (.int .i64 0) 1 8 Tryz.underlying26 hi hz0 hz1 hz2 rfl (by decide) B A 0 c [] h C M.length cm (ivals M) (by simp [ivals_len]) hm ivals_one (by unfold maxLen; omega) (by omega) hB
  rw [Nat.zero_add] at r h2
  have k' := k A' c' w' (by unfold Irow; simpa using h2) h3
  unfold Oper.wp execOp
  simp only [ho, resolve, invoke, builtin, Sem.run_bind, Sem.run_pure, Result.andThen_ok, List.map_toArray, List.map_cons, List.map_nil, hs, hx, r]
  exact hK _ _ k'
set_option maxRecDepth 100000 in
theorem cloneI_any (A : Option Addr) (L : List Int) (n c : Nat) (w : World) (hn : L.length = n) (h : Ints w A L) (hl : n * 8 ≤ 140737488355328) :
    Calls Tryz.prog 54 #[.slice A n c] w fun e w' => ∃ A' c', e = .returned (.slice A' n c') ∧ Irow w' w.heap.size A' c' L ∧ Below w.heap.size w w' := by
  subst hn
  cases A with
  | none =>
    have hL : L = [] := by
      rcases h with h | ⟨_, h, _⟩
      · simpa using h
      · cases h
    subst hL
    clear h hl
    rw [List.length_nil]
    have hnil := fun W => Go.Lib.run_eql_slice_nil_nil (P := Tryz.prog) W 0 c Tryz.underlying26
    go_enter Tryz.func54, Tryz.ntmps54
    go_wp2_with fail
    go_ret
    exact ⟨none, 0, rfl, Irow.nil _ _, Below.refl _ _⟩
  | some ad =>
    have HB : Hid (Ints (w.alloc (.cells #[] 3)) (some ad) L) := Lib.hid (Lies.kept h (below_new w _))
    have HL := Lib.hid hl
    have M0 := Lib.hid (irow_made w)
    have B0 := Lib.hid (below_new w (.cells #[] 3))
    obtain ⟨n, hn⟩ : ∃ n, L.length = n := ⟨_, rfl⟩
    have HN := Lib.hid hn
    rw [hn]
    clear h hl hn
    have hnil := fun W => Go.Lib.run_eql_slice_some_nil (P := Tryz.prog) W ad n c Tryz.underlying26
    go_enter Tryz.func54, Tryz.ntmps54
    go_wp2_with (at_builtin; refine wpList_append_irow _ rfl (.tmp 5) (.tmp 6) rfl w.heap.size _ 0 L _ n c rfl rfl HN.out M0.out HB.out (by simp) (by have := HL.out; have := HN.out; omega) ?_; intro A1 c1 w1 r1 b1; have R1 := Lib.hid r1; have B1 := Lib.hid b1; clear r1 b1)
    go_ret
    exact ⟨A1, c1, rfl, R1.out, B0.out.trans B1.out⟩
end Go.Proofs.YtmgggddnfeojmaaGreat
namespace Go.Proofs.YtmgggddnfeojmaaGreat
open Go.RowKit
open Go.Maps Go.Sort Go.Shelf
/-- A row of texts of the call's own, or nil. -/
def Trow (w : World) (B : Nat) (A : Option Addr) (c : Nat) (T : List ByteArray) : Prop := w.ownsRow B 9 1 (.slice A T.length c) T.length (T.map Value.string)
theorem Trow.lies {w : World} {B : Nat} {A : Option Addr} {c : Nat} {T : List ByteArray} (h : Trow w B A c T) : Lies w A (T.map Value.string) := by
  rcases h.2 with ⟨_, h⟩ | ⟨g, cap, cur, e, _⟩
  · exact .inl (by rw [List.eq_nil_of_length_eq_zero h]; rfl)
  · injection e with e1 e2 e3
    subst e1
    exact .inr ⟨_, rfl, fun j u hu => World.ownsRow.cells h (g := g) rfl j u hu⟩
/-- The library's sort, at the fence that asks nothing. -/
theorem sorts_any (m : Nat) : AnyZ.SortsIn Tryz.prog Tryz.sorted65_ren Fence.wide m :=
  ⟨fun blk off cap ss W hH hblk hsz => callsIn_wide.2 (AnyM.slices_Sort_string Tryz.sort88 blk off cap ss W hH hblk hsz),
   fun p cap W => callsIn_wide.2 (AnyM.slices_Sort_string_none Tryz.sort88 p cap W)⟩
/-- The iterator over a map's keys. -/
theorem keys_any (mb : Option Nat) (W : World) : CallsIn Fence.wide 5 Tryz.prog 66 #[.map mb] W fun e w' => e = .returned (.func (.func 89) #[] #[.pointer (some ⟨W.heap.size, 0, none⟩)]) ∧ w' = W.alloc (.cells #[.map mb] 78) :=
  AnyZ.keys_in Tryz.keys66 Fence.wide 5 trivial rfl mb W
set_option maxHeartbeats 1000000 in
/-- The keys, sorted. -/
theorem sorted_any {H : Type} (b nn : Nat) (D0 : DataW H) (R : Value → Option (DataW H × List MemPlace)) (w : World) (hown : w.ownsMap Tryz.prog 9 R b nn D0) (hmax : Maps.size D0 ≤ maxLen) (hbytes : Maps.size D0 * 16 ≤ 140737488355328) :
    CallsIn Fence.wide 5 Tryz.prog 65 #[.func (.func 89) #[] #[.pointer (some ⟨w.heap.size, 0, none⟩)]] (w.alloc (.cells #[.map (some b)] 78)) fun e w' => ∃ (v : Value) (ss : List (List UInt8)), e = .returned v ∧ ss.Perm (strKeys D0) ∧
      w'.ownsRow (w.alloc (.cells #[.map (some b)] 78)).heap.size 9 1 v ss.length ((ss.mergeSort (fun x y => decide (x ≤ y))).map encStr) ∧ Below (w.alloc (.cells #[.map (some b)] 78)).heap.size (w.alloc (.cells #[.map (some b)] 78)) w' := by
  have hbl := hown.lt
  have hseq : SeqGives Fence.wide 2 Tryz.prog 89 #[.pointer (some ⟨w.heap.size, 0, none⟩)] encStr (fun ss => ss.Perm (strKeys D0)) (Maps.size D0) (w.alloc (.cells #[.map (some b)] 78)) :=
    AnyZ.keys_gives (ρ := Tryz.keys66_ren) { Tryz.keys66 with } Fence.wide _ trivial rfl (by omega) w.heap.size b nn D0 _ (by simp) (by simp) (by
      obtain ⟨es, clock, hb, Ft, hs, hD⟩ := hown
      exact ⟨es, clock, (Below.heap_alloc _ _ b hbl).trans hb, Ft, hs, hD⟩)
  refine (AnyZ.sorted_in Tryz.sorted65 Fence.wide 5 trivial trivial trivial trivial rfl (by omega) (sorts_any _) (enters_of Tryz.func88 (by kernel_rfl) rfl) 89 #[.pointer (some ⟨w.heap.size, 0, none⟩)] trivial (enters_of Tryz.func89 (by kernel_rfl) rfl) _ _ hmax hbytes _ hseq).mono ?_
  rintro e w' ⟨v, ss, h1, h2, h3, -, h5⟩
  exact ⟨v, ss, h1, h2, h3, h5⟩
theorem size_Dm (l : List Pf) : Maps.size (Dm l) = l.length := by
  unfold Dm ents Maps.size
  simp
/-- It answers texts in new memory. -/
def Texts7 (w : World) (T : List ByteArray) (e : Ending) (w' : World) : Prop := ∃ A c, e = .returned (.slice A T.length c) ∧ Trow w' w.heap.size A c T ∧ Below w.heap.size w w'
set_option maxHeartbeats 2000000 in
theorem names_any (B g : Nat) (p : Pk) (w : World) (h : PSt w B g p) (hl : p.l.length * 16 ≤ 140737488355328) :
    Calls Tryz.prog 41 #[.pointer (some ⟨g, 0, none⟩)] w (Texts7 w (p.l.map Pf.s)) := by
  have c0 := h.at_.cell.1
  have HM := Lib.hid (sorted_any p.b p.l.length (Dm p.l) ptrElem w h.inn.map (by rw [size_Dm]; unfold maxLen; omega) (by rw [size_Dm]; exact hl))
  have HS := Lib.hid h.inn.srt
  clear h
  refine (callsIn_wide (n := 6)).1 ?_
  have hfK : Fence.wide.fn 66 := trivial
  have hfS : Fence.wide.fn 65 := trivial
  refine callsIn_of_wp Tryz.func41 rfl trivial ?_ rfl
  simp only [Tryz.ntmps41, List.size_toArray, List.length_cons, List.length_nil, Nat.reduceAdd, Nat.reduceSub, Array.replicate_succ, Array.replicate_zero, List.push_toArray, List.append_toArray, List.nil_append, List.cons_append]
  gi_wp2_with (first
    | (gi_at_call 66; refine (keys_any _ _).mono ?_; rintro e w' ⟨rfl, rfl⟩)
    | (gi_at_call 65; refine HM.out.mono ?_; rintro e w' ⟨v, ss, rfl, hS, hrow, hb⟩; have E := Lib.hid (And.intro hS (And.intro hrow hb)); clear hS hrow hb))
  go_ret
  obtain ⟨hS, hrow, hb⟩ := E.out
  have e1 := sorted_names HS.out hS
  have e2 : (nameL p.l).map encStr = (p.l.map Pf.s).map Value.string := by
    unfold nameL
    rw [List.map_map, List.map_map]
    exact List.map_congr_left fun q _ => by simp [encStr]
  have e3 : ss.length = (p.l.map Pf.s).length := by
    rw [hS.length_eq, strKeys_Dm]
    simp [nameL]
  rw [e1, e2, e3] at hrow
  have hb' := ((Below.refl _ w).alloc (Nat.le_refl _) _).trans (hb.mono (by simp))
  have hrow' := own_mono (C := w.heap.size) hrow (by simp)
  rcases hrow'.2 with ⟨hn, hz⟩ | ⟨g', cap, cur, e', -⟩
  · subst hn
    have hz' : p.l.map Pf.s = [] := List.eq_nil_of_length_eq_zero hz
    rw [hz']
    exact ⟨none, 0, rfl, World.ownsRow_nil _ _ _ _, hb'⟩
  · subst e'
    exact ⟨some ⟨g', 0, none⟩, cap, rfl, hrow', hb'⟩
end Go.Proofs.YtmgggddnfeojmaaGreat
namespace Go.Proofs.YtmgggddnfeojmaaGreat
open Go.RowKit
open Go.Maps
theorem BelowX.set {B g i : Nat} {a b : World} {v : Value} (h : BelowX B g a b) : BelowX B g a (b.setCell ⟨g, i, none⟩ v) :=
  ⟨h.os, h.tape, h.output, by simpa using h.size, fun k hk hn => (Below.heap_setCell b ⟨g, i, none⟩ v k hn).trans (h.block k hk hn)⟩
/-- A plan that is taken. -/
def beginP (p : Pk) (ops room : Int) (A : Option Addr) (c : Nat) (keep : List Int) : Pk := { p with room := room, left := ops, K := A, keep := keep, kc := c, down := false }
theorem lit_cell (w : World) (cs : Array Value) (t : TypeId) (j : Nat) : (w.alloc (.cells cs t)).cell? ⟨w.heap.size, j, none⟩ = cs[j]? := by
  have h := heap_alloc_new w (.cells cs t)
  unfold World.cell?
  simp only
  rw [h]
  simp
theorem BelowX.drew {B g : Nat} {a b : World} (h : BelowX B g a b) : BelowX B g a b.drew := ⟨h.os, h.tape, h.output, h.size, h.block⟩
theorem Irow.of_x {w1 W : World} {B g : Nat} {p : Pk} {A : Option Addr} {c : Nat} {L : List Int} (h : Irow w1 B A c L) (hp : PkAt w1 g p) (hb : BelowX w1.heap.size g w1 W) : Irow W B A c L :=
  own_block h (fun ad ha => hb.block ad.block (own_in h ad ha).2 (fun e => by
    obtain ⟨cur, hc⟩ := own_type h ha
    unfold PkAt at hp
    rw [e, hp] at hc
    injection hc with hc
    injection hc with _ hc
    exact absurd hc (by decide)))
/-- The disk's own block has turned, and a new row of numbers is kept. -/
theorem PSt.begun {w w1 W : World} {B g : Nat} {p : Pk} {ops room : Int} {A : Option Addr} {c : Nat} {keep : List Int} (h : PSt w B g p) (hb : Below w.heap.size w w1) (hx : BelowX w1.heap.size g w1 W) (hr : Irow w1 w.heap.size A c keep) (hk : PkAt W g (beginP p ops room A c keep))
    (hi : ∀ x ∈ keep, -9223372036854775808 ≤ x ∧ x ≤ 9223372036854775807) (hl : -9223372036854775808 ≤ ops ∧ ops ≤ 9223372036854775807) (hm : -9223372036854775808 ≤ room ∧ room ≤ 9223372036854775807) :
    PSt W B g (beginP p ops room A c keep) ∧ Does (p.own g) ((beginP p ops room A c keep).own g) w W := by
  have hBw : B ≤ w.heap.size := by have := h.low; have := h.at_.lt; omega
  have hbl : ∀ k, k < w.heap.size → k ≠ g → W.heap[k]? = w.heap[k]? := fun k hk1 hn => (hx.block k (by have := hb.size; omega) hn).trans (hb.block k hk1)
  have hi7 : In7 W B p := h.inn.of (fun k hk1 => hbl k (h.inn.owned k hk1).2 (fun e => h.not_inner (e ▸ hk1)))
  have hrow : Irow W w.heap.size A c keep := hr.of_x (pk_block h.at_ (hb.block g h.at_.lt)) hx
  refine ⟨⟨hk, h.low, ⟨hi7.map, hi7.mlow, hi7.file, hi7.apart, hi7.srt, own_mono hrow hBw, hi⟩, h.size, hl, hm⟩, ?_⟩
  refine ⟨hx.os.trans hb.os, hx.tape.trans hb.tape, hx.output.trans hb.output, Nat.le_trans hb.size hx.size, fun k hk1 hn => hbl k hk1 (fun e => hn (.inl e)), fun k hk1 => ?_⟩
  rcases hk1 with e | e | ⟨ad, ha, e⟩ | ⟨q, hq, e⟩
  · exact .inl (.inl e)
  · exact .inl (.inr (.inl e))
  · exact .inr (e ▸ (own_in hrow ad ha).1)
  · exact .inl (.inr (.inr (.inr ⟨q, hq, e⟩)))
set_option maxRecDepth 100000 in
set_option maxHeartbeats 4000000 in
theorem begin_any (B g : Nat) (p : Pk) (ops room : Int) (A : Option Addr) (keep : List Int) (n c : Nat) (w : World) (h : PSt w B g p) (hn : keep.length = n) (hk : Ints w A keep) (hl : n * 8 ≤ 140737488355328)
    (hi : ∀ x ∈ keep, -9223372036854775808 ≤ x ∧ x ≤ 9223372036854775807) (ho : -9223372036854775808 ≤ ops ∧ ops ≤ 9223372036854775807) (hm : -9223372036854775808 ≤ room ∧ room ≤ 9223372036854775807) :
    Calls Tryz.prog 32 #[.pointer (some ⟨g, 0, none⟩), .agg #[.int .i64 ops, .int .i64 room, .slice A n c]] w fun e w' => e = .returned (.tuple #[]) ∧ ∃ A' c', PSt w' B g (beginP p ops room A' c' keep) ∧ Does (p.own g) ((beginP p ops room A' c' keep).own g) w w' := by
  have H := Lib.hid h
  have HI := Lib.hid (And.intro hi (And.intro ho hm))
  obtain ⟨w1, hw1⟩ : ∃ w1, w.alloc (.cells #[.int .i64 ops, .int .i64 room, .slice A n c] 28) = w1 := ⟨_, rfl⟩
  have B1 : Hid (Below w.heap.size w w1) := Lib.hid (hw1 ▸ below_new _ _)
  have HN := Lib.hid hn
  have HC := Lib.hid (fun (W : World) (hb : Below w.heap.size w W) => cloneI_any A keep n c W hn (Lies.kept hk hb) hl)
  have H2 := Lib.hid (H.out.kept B1.out)
  have h0 : w1.cell? ⟨w.heap.size, 0, none⟩ = some (.int .i64 ops) ∧ w1.cell? ⟨w.heap.size, 1, none⟩ = some (.int .i64 room) ∧ w1.cell? ⟨w.heap.size, 2, none⟩ = some (.slice A n c) := by
    rw [← hw1]
    exact ⟨lit_cell w _ _ 0, lit_cell w _ _ 1, lit_cell w _ _ 2⟩
  have hs1 : w1.heap.size = w.heap.size + 1 := by rw [← hw1]; simp
  have HS := Lib.hid hs1
  have HK := Lib.hid (fun (W : World) (hb : BelowX w1.heap.size g w1 W) => (show W.cell? ⟨w.heap.size, 0, none⟩ = some (.int .i64 ops) ∧ W.cell? ⟨w.heap.size, 1, none⟩ = some (.int .i64 room) ∧ W.cell? ⟨w.heap.size, 2, none⟩ = some (.slice A n c) from by
    have hgl := H.out.at_.lt
    have e : W.heap[w.heap.size]? = w1.heap[w.heap.size]? := hb.block _ (by omega) (by omega)
    exact ⟨(World.cell?_of_block e).trans h0.1, (World.cell?_of_block e).trans h0.2.1, (World.cell?_of_block e).trans h0.2.2⟩))
  obtain ⟨z0, z1, z2⟩ := h0
  clear h hn hk hi ho hm hs1
  have hw1' := Lib.hid hw1
  have f2 := H2.out.at_.frozen 2
  have f3 := H2.out.at_.frozen 3
  have f4 := H2.out.at_.frozen 4
  go_enter Tryz.func32, Tryz.ntmps32
  go_upto_region 1 with fail
  have HP : Hid (∀ W, Below w1.heap.size w1 W → PkAt W g p) := Lib.hid (fun W hb => (H2.out.kept hb).at_)
  go_region_held3 (fun W => W.cell? ⟨w.heap.size, 0, none⟩ = some (.int .i64 ops) ∧ W.cell? ⟨w.heap.size, 1, none⟩ = some (.int .i64 room) ∧ W.cell? ⟨w.heap.size, 2, none⟩ = some (.slice A n c)) (first | exact HK.out _ (by repeat (first | exact BelowX.refl _ _ _ | exact X2.out | refine BelowX.drew ?_ | refine BelowX.set ?_)) | go_keep) (first
    | (go_at_call 54; refine (HC.out _ (B1.out.trans ((by repeat (first | exact Below.refl _ _ | refine Below.drew ?_) : Below w1.heap.size w1 _).mono B1.out.size))).mono ?_; rintro e w2 ⟨A', c', rfl, hr, hb⟩; have X0 : Hid (Below w1.heap.size w1 w2) := Lib.hid ((by repeat (first | exact Below.refl _ _ | refine Below.drew ?_) : Below w1.heap.size w1 _).trans hb); have R2 := Lib.hid hr; have X2 := Lib.hid (below_x (g := g) X0.out); obtain ⟨-, -, k2, k3, k4, k5⟩ := (HP.out _ X0.out).cell; have y2 := (HP.out _ X0.out).frozen 2; have y3 := (HP.out _ X0.out).frozen 3; have y4 := (HP.out _ X0.out).frozen 4; have y5 := (HP.out _ X0.out).frozen 5; clear hr hb))
  all_goals
    go_wp2_with fail
    go_end0
    have hn := HN.out
    subst hn
    have k0 := HP.out _ X0.out
    have hb2 : Below w.heap.size w w2 := B1.out.trans (X0.out.mono B1.out.size)
    have hk5 := PkAt.set (p' := beginP p ops room A' c' keep) (PkAt.set (p' := { p with room := room, left := ops, K := A', keep := keep, kc := c' }) (PkAt.set (p' := { p with room := room, left := ops }) (PkAt.set (p' := { p with room := room }) k0 2 (.int .i64 room) rfl) 3 (.int .i64 ops) rfl) 4 (.slice A' keep.length c') rfl) 5 (.bool false) rfl
    exact ⟨rfl, A', c', H.out.begun hb2 ((((BelowX.refl _ _ _).set).set).set).set (own_mono (C := w.heap.size) R2.out B1.out.size) hk5 HI.out.1 HI.out.2.1 HI.out.2.2⟩
end Go.Proofs.YtmgggddnfeojmaaGreat
