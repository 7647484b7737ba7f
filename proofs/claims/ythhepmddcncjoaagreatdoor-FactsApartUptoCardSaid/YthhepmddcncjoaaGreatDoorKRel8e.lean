/- soritesref08.Minus, Same. Library functions that the program calls, by the contracts of the shelf, laid at this translation. text.magnitude, text.number, text.ParseNum and text.Num answer what plain functions of the bytes say, in every world that holds the listed variables. text.number and text.ParseNum answer what numL says of the bytes, in every world that holds the listed variables. text.Num answers a number's text. -/
import Derived.Test.YthhepmddcncjoaaGreatDoorKConv
import Derived.Shelf.Strings.BuilderK
import Derived.Shelf.Strings.Builder2
import Derived.Shelf.Small.Strs
import Derived.Shelf.Small.Wraps
import Derived.Shelf.Strconv.Itoa4
import Derived.Shelf.LaysM
import Derived.Shelf.Strings.Count
import Derived.Shelf.Strings.Cut
import Derived.Shelf.Strings.Split
import Derived.Shelf.Strings.Search3
import Derived.Test.YthhepmddcncjoaaGreatDoorProg
import Derived.Test.YthhepmddcncjoaaGreatDoorChecked
import Derived.Deep.QuietTactic
import Derived.BigQuiet
import Derived.WalkSmall
import Derived.Lib.AppendIntMem
import Derived.WalkKit
import Derived.Lib.Hide
import Derived.Lib.ItoaMem
set_option linter.unusedSimpArgs false
set_option linter.unusedVariables false
namespace Go.Proofs.YthhepmddcncjoaaGreatDoor
open Go.RowKit

theorem minus_le (a b : List Rw) : (minusL rwC a b).length ≤ a.length := List.length_filter_le _ _

set_option maxRecDepth 100000 in
set_option maxHeartbeats 4000000 in
theorem rsame_c (a b : List Rw) (v u : Value) (w : World) (h1 : RwsS w w.heap.size a v) (h2 : RwsS w w.heap.size b u) :
    Calls Tryz.prog 34 #[v, u] w fun e w' => e = .returned (.bool (sameWs a b)) ∧ Below w.heap.size w w' := by
  obtain ⟨o1, cap1, rfl, hc1, hm1, S1⟩ := SlOf.open h1
  obtain ⟨o2, cap2, rfl, hc2, hm2, S2⟩ := SlOf.open h2
  clear h1 h2
  obtain ⟨bl, hbl⟩ : ∃ x, ((a.length : Int) != (b.length : Int)) = x := ⟨_, rfl⟩
  cases bl with
  | true =>
    have Hz : Hid (sameWs a b = false) := Lib.hid (allS_len (by intro h; rw [h] at hbl; simp at hbl))
    go_enter Tryz.func34, Tryz.ntmps34
    go_wp2
    go_ret
    exact ⟨by rw [Hz.out]; rfl, Below.refl _ _⟩
  | false =>
  have hlen : a.length = b.length := by have : (a.length : Int) = b.length := by simpa using hbl
                                        omega
  have HLEN := Lib.hid hlen
  clear hlen
  go_enter Tryz.func34, Tryz.ntmps34
  go_wp2
  go_loopw [5] (fun i wr => ∃ k : Nat, k ≤ a.length ∧ i = .int .i64 k ∧ sameWs a b = allS sameW (a.drop k) (b.drop k) ∧ Below w.heap.size w wr) (fun i _ => a.length - (intOf i).toNat)
  case atStart => exact ⟨0, Nat.zero_le _, rfl, rfl, Below.refl _ _⟩
  case round =>
    obtain ⟨k, hk, rfl, hr, hB⟩ := hrel
    have Hr := Lib.hid hr
    clear hr
    by_cases hlt : k < a.length
    · have hlt' : (k : Int) < (a.length : Int) := by omega
      have hlt2 : (k : Int) < (b.length : Int) := by have := HLEN.out; omega
      have hk0 : (0 : Int) ≤ (k : Int) := by omega
      obtain ⟨x, hx⟩ : ∃ x, a[k]? = some x := ⟨a[k], List.getElem?_eq_getElem hlt⟩
      obtain ⟨y, hy⟩ : ∃ y, b[k]? = some y := ⟨b[k], List.getElem?_eq_getElem (by have := HLEN.out; omega)⟩
      obtain ⟨p, p3, q3, rfl, hp, Hx, c0, _⟩ := rw_at S1 hB hx
      obtain ⟨q, p4, q4, rfl, hq, Hy, d0, _⟩ := rw_at S2 hB hy
      have hBs := hB.size
      have hpl : (p.add k).block < wr.heap.size := by rw [addBlock]; omega
      have hql : (q.add k).block < wr.heap.size := by rw [addBlock]; omega
      have Hst := Lib.hid (Hr.out.trans (allS_drop (f := sameW) hx hy))
      clear hx hy
      obtain ⟨bw, hbw⟩ : ∃ z, ((x.length : Int) != (y.length : Int)) = z := ⟨_, rfl⟩
      cases bw with
      | true =>
        have Hz : Hid (sameWs a b = false) := Lib.hid (by
          have : sameW x y = false := allS_len (by intro h; rw [h] at hbw; simp at hbw)
          rw [Hst.out, this]; rfl)
        go_wp2
        go_quiet (fail)
        go_wp2
        go_ret
        exact ⟨by rw [Hz.out]; rfl, below_drewN hB _⟩
      | false =>
        have hxy : x.length = y.length := by have : (x.length : Int) = y.length := by simpa using hbw
                                             omega
        have HXY := Lib.hid hxy
        clear hxy
        have HS0 : Hid (sameW x y = allS sameV (x.drop 0) (y.drop 0)) := Lib.hid rfl
        obtain ⟨ox, cx, ex, hcx, hmx, SX⟩ := SlOf.open Hx.out
        cases ex
        obtain ⟨oy, cy, ey, hcy, hmy, SY⟩ := SlOf.open Hy.out
        cases ey
        obtain ⟨W1, rfl⟩ : ∃ W1, W1 = wr := ⟨_, rfl⟩
        go_wp2
        go_quiet (fail)
        go_wp2
        go_loopw [6] (fun i wx => ∃ j : Nat, j ≤ x.length ∧ i = .int .i64 j ∧ sameW x y = allS sameV (x.drop j) (y.drop j) ∧ Below W1.heap.size W1 wx) (fun i _ => x.length - (intOf i).toNat)
        case atStart => exact ⟨0, Nat.zero_le _, rfl, HS0.out, below_drewN (Below.refl _ _) _⟩
        case round =>
          obtain ⟨j, hj, rfl, hs, hB2⟩ := hrel
          have Hs := Lib.hid hs
          clear hs
          have hB2s := hB2.size
          have cc0 := (hB2.cell hpl).trans c0
          have dd0 := (hB2.cell hql).trans d0
          have hpl2 := Nat.lt_of_lt_of_le hpl hB2s
          have hql2 := Nat.lt_of_lt_of_le hql hB2s
          by_cases hjt : j < x.length
          · have hjt' : (j : Int) < (x.length : Int) := by omega
            have hjt2 : (j : Int) < (y.length : Int) := by have := HXY.out; omega
            have hj0 : (0 : Int) ≤ (j : Int) := by omega
            obtain ⟨xv, hxv⟩ : ∃ z, x[j]? = some z := ⟨x[j], List.getElem?_eq_getElem hjt⟩
            obtain ⟨yv, hyv⟩ : ∃ z, y[j]? = some z := ⟨y[j], List.getElem?_eq_getElem (by have := HXY.out; omega)⟩
            obtain ⟨px, rfl, hpx, _, _, x0, x1, x2⟩ := vl_at SX hB2 hxv
            obtain ⟨py, rfl, hpy, _, _, y0, y1, y2⟩ := vl_at SY hB2 hyv
            have hpxl : (px.add (j * 3)).block < W1.heap.size := by rw [addBlock]; omega
            have hpyl : (py.add (j * 3)).block < W1.heap.size := by rw [addBlock]; omega
            have hpx2 := Nat.lt_of_lt_of_le hpxl hB2s
            have hpy2 := Nat.lt_of_lt_of_le hpyl hB2s
            have Hst2 := Lib.hid (Hs.out.trans (allS_drop (f := sameV) hxv hyv))
            clear hxv hyv
            by_cases hv : sameV xv yv = true
            · have Hs2 := Lib.hid (Hst2.out.trans (by rw [hv, Bool.true_and]))
              obtain rfl := (sameV_iff _ _).1 hv
              clear hv
              go_wp2
              go_quiet (fail)
              go_wp2
              go_roundw
              case rel => exact ⟨j + 1, hjt, by go_num, Hs2.out, below_drewN hB2 _⟩
              case measure => simp [intOf]; omega
            · have Hz : Hid (sameWs a b = false) := Lib.hid (by
                have h1 : sameV xv yv = false := by simpa using hv
                rw [Hst.out, Hst2.out, h1]; rfl)
              have hne : ¬ (xv.sym = yv.sym ∧ xv.n = yv.n ∧ xv.s.toList = yv.s.toList) := fun h => hv (by unfold sameV; rw [h.1, h.2.1, h.2.2]; simp)
              clear hv
              obtain ⟨sx, nx, tx⟩ := xv
              obtain ⟨sy, ny, ty⟩ := yv
              simp only at x0 x1 x2 y0 y1 y2 hne
              clear Hst2
              by_cases hsy : sx = sy
              · subst hsy
                by_cases hn : nx = ny
                · subst hn
                  have ht : (tx.toList == ty.toList) = false := by
                    rw [beq_eq_false_iff_ne]
                    intro h
                    exact hne ⟨rfl, rfl, h⟩
                  clear hne
                  go_wp2
                  go_quiet (fail)
                  go_wp2
                  go_ret
                  exact ⟨by rw [Hz.out]; rfl, below_drewN (hB.trans (hB2.mono hBs)) _⟩
                · have hn' : (nx == ny) = false := by simpa using hn
                  clear hne
                  go_wp2
                  go_quiet (fail)
                  go_wp2
                  go_ret
                  exact ⟨by rw [Hz.out]; rfl, below_drewN (hB.trans (hB2.mono hBs)) _⟩
              · clear hne
                cases sx <;> cases sy
                · exact absurd rfl hsy
                · go_wp2
                  go_quiet (fail)
                  go_wp2
                  go_ret
                  exact ⟨by rw [Hz.out]; rfl, below_drewN (hB.trans (hB2.mono hBs)) _⟩
                · go_wp2
                  go_quiet (fail)
                  go_wp2
                  go_ret
                  exact ⟨by rw [Hz.out]; rfl, below_drewN (hB.trans (hB2.mono hBs)) _⟩
                · exact absurd rfl hsy
          · have hjt' : ¬ (j : Int) < (x.length : Int) := by omega
            have Hz2 := Lib.hid (Hs.out.trans (allS_end (f := sameV) (l := x) (m := y) (k := j) (by omega) (by have := HXY.out; omega)))
            have Hz3 := Lib.hid (Hst.out.trans (by rw [Hz2.out, Bool.true_and]))
            go_wp2
            go_roundw
            case rel => exact ⟨k + 1, hlt, by go_num, Hz3.out, hB.trans (hB2.mono hBs)⟩
            case measure => simp [intOf]; omega
    · have hlt' : ¬ (k : Int) < (a.length : Int) := by omega
      have Hz2 := Lib.hid (Hr.out.trans (allS_end (f := sameW) (l := a) (m := b) (k := k) (by omega) (by have := HLEN.out; omega)))
      go_wp2
      go_ret
      exact ⟨by rw [Hz2.out]; rfl, hB⟩
end Go.Proofs.YthhepmddcncjoaaGreatDoor
namespace Go.Proofs
open Go.Shelf
def Tryz.lays169_ren : Go.Shelf.Ren := ⟨fun | 169 => 37 | n => n, fun | 0 => 0 | 3 => 3 | 5 => 5 | 9 => 9 | 37 => 77 | 70 => 76 | 72 => 79 | 127 => 130 | n => n, fun | n => n⟩
theorem Tryz.lays169 : Go.Proofs.Lays.n169 Tryz.prog Tryz.lays169_ren := {
  mixed := by kernel_rfl
  f169 := Tryz.func37.trans (congrArg some (by kernel_rfl))
  t0 := Tryz.underlying0
  a0 := Tryz.isAgg0
  z0 := Tryz.sizeOf0
  v0 := Tryz.zeroValue0
  t3 := Tryz.underlying3
  a3 := Tryz.isAgg3
  z3 := Tryz.sizeOf3
  v3 := Tryz.zeroValue3
  t9 := Tryz.underlying9
  a9 := Tryz.isAgg9
  z9 := Tryz.sizeOf9
  v9 := Tryz.zeroValue9
  t37 := Tryz.underlying77
  a37 := Tryz.isAgg77
  z37 := Tryz.sizeOf77
  v37 := Tryz.zeroValue77
  t70 := Tryz.underlying76
  a70 := Tryz.isAgg76
  z70 := Tryz.sizeOf76
  v70 := Tryz.zeroValue76
  t72 := Tryz.underlying79
  a72 := Tryz.isAgg79
  z72 := Tryz.sizeOf79
  v72 := Tryz.zeroValue79
  t127 := Tryz.underlying130
  a127 := Tryz.isAgg130
  z127 := Tryz.sizeOf130
  v127 := Tryz.zeroValue130 }
theorem Tryz.Builder_Extra_lays169 : Builder.Extra Tryz.prog Tryz.lays169_ren := {
  sizeBuilder := by kernel_rfl
  liesBuilder := by kernel_rfl
  t5 := Tryz.underlying5
  a5 := Tryz.isAgg5
  z5 := Tryz.sizeOf5
  v5 := Tryz.zeroValue5
  infoByte := by kernel_rfl
  cellsByte := by kernel_rfl
  sizeByte := by kernel_rfl
  neB5 := by decide }
open Go.RowKit in
theorem Tryz.Builder_String_any_k (B b : Nat) (l : List UInt8) (w : World) (h : Lib.IsBuilderF 79 5 B b (Lib.byteCells l) w) (hBw : B ≤ w.heap.size) :
    Calls Tryz.prog 37 #[.pointer (some ⟨b, 0, none⟩)] w fun e w' => e = .returned (.string ⟨l.toArray⟩) ∧ (Lib.IsBuilderF 79 5 B b (Lib.byteCells l) w' ∧ Below B w w' ∧ Lib.OthersKept 5 (some b) w w') := Any.Builder_String_any_k Tryz.lays169 Tryz.Builder_Extra_lays169 B b l w h hBw
def Tryz.lays165_ren : Go.Shelf.Ren := ⟨fun | 165 => 136 | 240 => 102 | 241 => 161 | 276 => 135 | 277 => 176 | n => n, fun | 0 => 0 | 3 => 3 | 4 => 4 | 5 => 5 | 9 => 9 | 20 => 20 | 37 => 77 | 70 => 76 | 72 => 79 | 164 => 104 | n => n, fun | n => n⟩
theorem Tryz.lays165 : Go.Proofs.Lays.n165 Tryz.prog Tryz.lays165_ren := {
  mixed := by kernel_rfl
  f165 := Tryz.func136.trans (congrArg some (by kernel_rfl))
  f240 := Tryz.func102.trans (congrArg some (by kernel_rfl))
  f241 := Tryz.func161.trans (congrArg some (by kernel_rfl))
  f276 := Tryz.func135.trans (congrArg some (by kernel_rfl))
  f277 := Tryz.func176.trans (congrArg some (by kernel_rfl))
  t0 := Tryz.underlying0
  a0 := Tryz.isAgg0
  z0 := Tryz.sizeOf0
  v0 := Tryz.zeroValue0
  t3 := Tryz.underlying3
  a3 := Tryz.isAgg3
  z3 := Tryz.sizeOf3
  v3 := Tryz.zeroValue3
  t4 := Tryz.underlying4
  a4 := Tryz.isAgg4
  z4 := Tryz.sizeOf4
  v4 := Tryz.zeroValue4
  t9 := Tryz.underlying9
  a9 := Tryz.isAgg9
  z9 := Tryz.sizeOf9
  v9 := Tryz.zeroValue9
  t20 := Tryz.underlying20
  a20 := Tryz.isAgg20
  z20 := Tryz.sizeOf20
  v20 := Tryz.zeroValue20
  t37 := Tryz.underlying77
  a37 := Tryz.isAgg77
  z37 := Tryz.sizeOf77
  v37 := Tryz.zeroValue77
  t70 := Tryz.underlying76
  a70 := Tryz.isAgg76
  z70 := Tryz.sizeOf76
  v70 := Tryz.zeroValue76
  t72 := Tryz.underlying79
  a72 := Tryz.isAgg79
  z72 := Tryz.sizeOf79
  v72 := Tryz.zeroValue79
  t164 := Tryz.underlying104
  a164 := Tryz.isAgg104
  z164 := Tryz.sizeOf104
  v164 := Tryz.zeroValue104 }
theorem Tryz.Builder_Extra_lays165 : Builder.Extra Tryz.prog Tryz.lays165_ren := {
  sizeBuilder := by kernel_rfl
  liesBuilder := by kernel_rfl
  t5 := Tryz.underlying5
  a5 := Tryz.isAgg5
  z5 := Tryz.sizeOf5
  v5 := Tryz.zeroValue5
  infoByte := by kernel_rfl
  cellsByte := by kernel_rfl
  sizeByte := by kernel_rfl
  neB5 := by decide }
open Go.RowKit in
theorem Tryz.Builder_Grow_fresh (B b n : Nat) (w : World) (hB : B ≤ b) (hbk : w.heap[b]? = some (.cells #[.pointer none, .slice none 0 0] 79 (0, 0))) (hBw : B ≤ w.heap.size) (hn : n ≤ 281474976710656) :
    Calls Tryz.prog 136 #[.pointer (some ⟨b, 0, none⟩), .int .i64 n] w fun e w' => e = .returned (.tuple #[]) ∧ (Lib.BuilderAt 79 5 B b (.pointer (some ⟨b, 0, none⟩)) [] w' ∧ Below B w w') := Any.Builder_Grow_fresh Tryz.lays165 Tryz.Builder_Extra_lays165 B b n w hB hbk hBw hn
def Tryz.lays137_ren : Go.Shelf.Ren := ⟨fun | 137 => 194 | 217 => 168 | 266 => 184 | n => n, fun | 3 => 3 | 5 => 5 | 9 => 9 | n => n, fun | n => n⟩
theorem Tryz.lays137 : Go.Proofs.Lays.n137 Tryz.prog Tryz.lays137_ren := {
  mixed := by kernel_rfl
  f137 := Tryz.func194.trans (congrArg some (by kernel_rfl))
  f217 := Tryz.func168.trans (congrArg some (by kernel_rfl))
  f266 := Tryz.func184.trans (congrArg some (by kernel_rfl))
  t3 := Tryz.underlying3
  a3 := Tryz.isAgg3
  z3 := Tryz.sizeOf3
  v3 := Tryz.zeroValue3
  t5 := Tryz.underlying5
  a5 := Tryz.isAgg5
  z5 := Tryz.sizeOf5
  v5 := Tryz.zeroValue5
  t9 := Tryz.underlying9
  a9 := Tryz.isAgg9
  z9 := Tryz.sizeOf9
  v9 := Tryz.zeroValue9 }
open Go.RowKit in
theorem Tryz.strings_IndexByte (s : ByteArray) (c : Int) (w : World) :
    Calls Tryz.prog 194 #[.string s, .int .u8 c] w fun e w' => e = .returned (.int .i64 (Lib.indexByte s.data.toList c.toNat.toUInt8)) ∧ w' = w := Any.strings_IndexByte Tryz.lays137 s c w
def Tryz.lays103_ren : Go.Shelf.Ren := ⟨fun | 103 => 150 | 206 => 187 | 210 => 173 | n => n, fun | 3 => 3 | 4 => 4 | 9 => 9 | 24 => 141 | n => n, fun | n => n⟩
theorem Tryz.lays103 : Go.Proofs.Lays.n103 Tryz.prog Tryz.lays103_ren := {
  mixed := by kernel_rfl
  f103 := Tryz.func150.trans (congrArg some (by kernel_rfl))
  f206 := Tryz.func187.trans (congrArg some (by kernel_rfl))
  f210 := Tryz.func173.trans (congrArg some (by kernel_rfl))
  t3 := Tryz.underlying3
  a3 := Tryz.isAgg3
  z3 := Tryz.sizeOf3
  v3 := Tryz.zeroValue3
  t4 := Tryz.underlying4
  a4 := Tryz.isAgg4
  z4 := Tryz.sizeOf4
  v4 := Tryz.zeroValue4
  t9 := Tryz.underlying9
  a9 := Tryz.isAgg9
  z9 := Tryz.sizeOf9
  v9 := Tryz.zeroValue9
  t24 := Tryz.underlying141
  a24 := Tryz.isAgg141
  z24 := Tryz.sizeOf141
  v24 := Tryz.zeroValue141 }
open Go.RowKit in
theorem Tryz.strings_CutPrefix (s p : ByteArray) (w : World) :
    Calls Tryz.prog 150 #[.string s, .string p] w fun e w' => e = .returned (.tuple #[.string ⟨(Lib.trimPrefix s.data.toList p.data.toList).toArray⟩, .bool (Lib.hasPrefix s.data.toList p.data.toList)]) ∧ w' = w := Any.strings_CutPrefix Tryz.lays103 s p w
def Tryz.lays104_ren : Go.Shelf.Ren := ⟨fun | 104 => 80 | 207 => 148 | 211 => 111 | n => n, fun | 3 => 3 | 4 => 4 | 9 => 9 | 24 => 141 | n => n, fun | n => n⟩
theorem Tryz.lays104 : Go.Proofs.Lays.n104 Tryz.prog Tryz.lays104_ren := {
  mixed := by kernel_rfl
  f104 := Tryz.func80.trans (congrArg some (by kernel_rfl))
  f207 := Tryz.func148.trans (congrArg some (by kernel_rfl))
  f211 := Tryz.func111.trans (congrArg some (by kernel_rfl))
  t3 := Tryz.underlying3
  a3 := Tryz.isAgg3
  z3 := Tryz.sizeOf3
  v3 := Tryz.zeroValue3
  t4 := Tryz.underlying4
  a4 := Tryz.isAgg4
  z4 := Tryz.sizeOf4
  v4 := Tryz.zeroValue4
  t9 := Tryz.underlying9
  a9 := Tryz.isAgg9
  z9 := Tryz.sizeOf9
  v9 := Tryz.zeroValue9
  t24 := Tryz.underlying141
  a24 := Tryz.isAgg141
  z24 := Tryz.sizeOf141
  v24 := Tryz.zeroValue141 }
open Go.RowKit in
theorem Tryz.strings_CutSuffix (s p : ByteArray) (w : World) (hs : s.size ≤ 9223372036854775807) :
    Calls Tryz.prog 80 #[.string s, .string p] w fun e w' => e = .returned (.tuple #[.string ⟨(Lib.trimSuffix s.data.toList p.data.toList).toArray⟩, .bool (Lib.hasSuffix s.data.toList p.data.toList)]) ∧ w' = w := Any.strings_CutSuffix Tryz.lays104 s p w hs
def Tryz.laysM173_ren : Go.Shelf.Ren := ⟨fun | 129 => 190 | 173 => 139 | 246 => 164 | 283 => 177 | 284 => 178 | 285 => 179 | 286 => 180 | 317 => 189 | 318 => 191 | 319 => 192 | 320 => 193 | 337 => 195 | 338 => 196 | n => n, fun | 0 => 0 | 2 => 2 | 3 => 3 | 4 => 4 | 5 => 5 | 9 => 9 | 20 => 20 | 37 => 77 | 46 => 173 | 51 => 242 | 53 => 134 | 171 => 235 | 173 => 238 | 212 => 246 | 213 => 247 | 232 => 254 | 233 => 255 | n => n, fun | 17 => 4 | 18 => 7 | 19 => 8 | n => n⟩
theorem Tryz.laysM173 : Go.Proofs.LaysM.n173 Tryz.prog Tryz.laysM173_ren := {
  mixed := by kernel_rfl
  f129 := Tryz.func190.trans (congrArg some (by kernel_rfl))
  f173 := Tryz.func139.trans (congrArg some (by kernel_rfl))
  f246 := Tryz.func164.trans (congrArg some (by kernel_rfl))
  f283 := Tryz.func177.trans (congrArg some (by kernel_rfl))
  f284 := Tryz.func178.trans (congrArg some (by kernel_rfl))
  f285 := Tryz.func179.trans (congrArg some (by kernel_rfl))
  f286 := Tryz.func180.trans (congrArg some (by kernel_rfl))
  f317 := Tryz.func189.trans (congrArg some (by kernel_rfl))
  f318 := Tryz.func191.trans (congrArg some (by kernel_rfl))
  f319 := Tryz.func192.trans (congrArg some (by kernel_rfl))
  f320 := Tryz.func193.trans (congrArg some (by kernel_rfl))
  f337 := Tryz.func195.trans (congrArg some (by kernel_rfl))
  f338 := Tryz.func196.trans (congrArg some (by kernel_rfl))
  t0 := Tryz.underlying0
  a0 := Tryz.isAgg0
  z0 := Tryz.sizeOf0
  v0 := Tryz.zeroValue0
  t2 := Tryz.underlying2
  a2 := Tryz.isAgg2
  z2 := Tryz.sizeOf2
  v2 := Tryz.zeroValue2
  t3 := Tryz.underlying3
  a3 := Tryz.isAgg3
  z3 := Tryz.sizeOf3
  v3 := Tryz.zeroValue3
  t4 := Tryz.underlying4
  a4 := Tryz.isAgg4
  z4 := Tryz.sizeOf4
  v4 := Tryz.zeroValue4
  t5 := Tryz.underlying5
  a5 := Tryz.isAgg5
  z5 := Tryz.sizeOf5
  v5 := Tryz.zeroValue5
  t9 := Tryz.underlying9
  a9 := Tryz.isAgg9
  z9 := Tryz.sizeOf9
  v9 := Tryz.zeroValue9
  t20 := Tryz.underlying20
  a20 := Tryz.isAgg20
  z20 := Tryz.sizeOf20
  v20 := Tryz.zeroValue20
  t37 := Tryz.underlying77
  a37 := Tryz.isAgg77
  z37 := Tryz.sizeOf77
  v37 := Tryz.zeroValue77
  t46 := Tryz.underlying173
  a46 := Tryz.isAgg173
  z46 := Tryz.sizeOf173
  v46 := Tryz.zeroValue173
  t51 := Tryz.underlying242
  a51 := Tryz.isAgg242
  z51 := Tryz.sizeOf242
  v51 := Tryz.zeroValue242
  t53 := Tryz.underlying134
  a53 := Tryz.isAgg134
  z53 := Tryz.sizeOf134
  v53 := Tryz.zeroValue134
  t171 := Tryz.underlying235
  a171 := Tryz.isAgg235
  z171 := Tryz.sizeOf235
  v171 := Tryz.zeroValue235
  t173 := Tryz.underlying238
  a173 := Tryz.isAgg238
  z173 := Tryz.sizeOf238
  v173 := Tryz.zeroValue238
  t212 := Tryz.underlying246
  a212 := Tryz.isAgg246
  z212 := Tryz.sizeOf246
  v212 := Tryz.zeroValue246
  t213 := Tryz.underlying247
  a213 := Tryz.isAgg247
  z213 := Tryz.sizeOf247
  t232 := Tryz.underlying254
  a232 := Tryz.isAgg254
  z232 := Tryz.sizeOf254
  v232 := Tryz.zeroValue254
  t233 := Tryz.underlying255
  a233 := Tryz.isAgg255
  z233 := Tryz.sizeOf255
  v233 := Tryz.zeroValue255
  g17 := by kernel_rfl
  g18 := by kernel_rfl
  g19 := by kernel_rfl
  i0 := by kernel_rfl
  i2 := by kernel_rfl
  i3 := by kernel_rfl
  i4 := by kernel_rfl
  i5 := by kernel_rfl
  i9 := by kernel_rfl
  i20 := by kernel_rfl
  i37 := by kernel_rfl
  i46 := by kernel_rfl
  i51 := by kernel_rfl
  i53 := by kernel_rfl
  i171 := by kernel_rfl
  i173 := by kernel_rfl
  i212 := by kernel_rfl
  i232 := by kernel_rfl
  i233 := by kernel_rfl
  m17 := by kernel_rfl
  m18 := by kernel_rfl
  m19 := by kernel_rfl }
open Go.RowKit Go.Sort Go.Lib in
theorem Tryz.strconv_FormatInt_10 (n : Int) (h0 : -9223372036854775808 ≤ n) (h1 : n ≤ 9223372036854775807) (w : World) (htab : Lib.TabIs Tryz.prog w "internal/strconv.uint64pow10" .u64 Lib.pow10Tab) :
    Calls Tryz.prog 139 #[.int .i64 n, .int .i64 10] w fun e w' => e = .returned (.string ⟨(Lib.itoa n).toArray⟩) ∧ ∃ k os, w' = grow (w.drewN k) os := Any.strconv_FormatInt_10 Tryz.laysM173 n h0 h1 w htab
def Tryz.lays167_ren : Go.Shelf.Ren := ⟨fun | 167 => 121 | 240 => 102 | 276 => 135 | n => n, fun | 0 => 0 | 4 => 4 | 5 => 5 | 9 => 9 | 20 => 20 | 37 => 77 | 70 => 76 | 72 => 79 | 75 => 63 | 80 => 81 | 164 => 104 | n => n, fun | n => n⟩
theorem Tryz.lays167 : Go.Proofs.Lays.n167 Tryz.prog Tryz.lays167_ren := {
  mixed := by kernel_rfl
  f167 := Tryz.func121.trans (congrArg some (by kernel_rfl))
  f240 := Tryz.func102.trans (congrArg some (by kernel_rfl))
  f276 := Tryz.func135.trans (congrArg some (by kernel_rfl))
  t0 := Tryz.underlying0
  a0 := Tryz.isAgg0
  z0 := Tryz.sizeOf0
  v0 := Tryz.zeroValue0
  t4 := Tryz.underlying4
  a4 := Tryz.isAgg4
  z4 := Tryz.sizeOf4
  v4 := Tryz.zeroValue4
  t5 := Tryz.underlying5
  a5 := Tryz.isAgg5
  z5 := Tryz.sizeOf5
  v5 := Tryz.zeroValue5
  t9 := Tryz.underlying9
  a9 := Tryz.isAgg9
  z9 := Tryz.sizeOf9
  v9 := Tryz.zeroValue9
  t20 := Tryz.underlying20
  a20 := Tryz.isAgg20
  z20 := Tryz.sizeOf20
  v20 := Tryz.zeroValue20
  t37 := Tryz.underlying77
  a37 := Tryz.isAgg77
  z37 := Tryz.sizeOf77
  v37 := Tryz.zeroValue77
  t70 := Tryz.underlying76
  a70 := Tryz.isAgg76
  z70 := Tryz.sizeOf76
  v70 := Tryz.zeroValue76
  t72 := Tryz.underlying79
  a72 := Tryz.isAgg79
  z72 := Tryz.sizeOf79
  v72 := Tryz.zeroValue79
  t75 := Tryz.underlying63
  a75 := Tryz.isAgg63
  z75 := Tryz.sizeOf63
  v75 := Tryz.zeroValue63
  t164 := Tryz.underlying104
  a164 := Tryz.isAgg104
  z164 := Tryz.sizeOf104
  v164 := Tryz.zeroValue104 }
theorem Tryz.Builder_Extra_lays167 : Builder.Extra Tryz.prog Tryz.lays167_ren := {
  sizeBuilder := by kernel_rfl
  liesBuilder := by kernel_rfl
  t5 := Tryz.underlying5
  a5 := Tryz.isAgg5
  z5 := Tryz.sizeOf5
  v5 := Tryz.zeroValue5
  infoByte := by kernel_rfl
  cellsByte := by kernel_rfl
  sizeByte := by kernel_rfl
  neB5 := by decide }
open Go.RowKit in
theorem Tryz.Builder_WriteByte_k (B b : Nat) (bs : List Value) (c : Int) (w : World) (h : Lib.IsBuilderF 79 5 B b bs w) (hlen : bs.length + 1 ≤ 140737488355328) (hBw : B ≤ w.heap.size) :
    Calls Tryz.prog 121 #[.pointer (some ⟨b, 0, none⟩), .int .u8 c] w fun e w' => e = .returned .nilIface ∧ (Lib.BuilderAtF 79 5 B b (.pointer (some ⟨b, 0, none⟩)) (bs ++ [.int .u8 c]) w' ∧ Below B w w' ∧ Lib.OthersKept 5 (some b) w w') := Any.Builder_WriteByte_k Tryz.lays167 Tryz.Builder_Extra_lays167 B b bs c w h hlen hBw
def Tryz.lays166_ren : Go.Shelf.Ren := ⟨fun | 166 => 67 | 240 => 102 | 276 => 135 | n => n, fun | 0 => 0 | 3 => 3 | 4 => 4 | 5 => 5 | 9 => 9 | 20 => 20 | 37 => 77 | 70 => 76 | 72 => 79 | 75 => 63 | 80 => 81 | 164 => 104 | n => n, fun | n => n⟩
theorem Tryz.lays166 : Go.Proofs.Lays.n166 Tryz.prog Tryz.lays166_ren := {
  mixed := by kernel_rfl
  f166 := Tryz.func67.trans (congrArg some (by kernel_rfl))
  f240 := Tryz.func102.trans (congrArg some (by kernel_rfl))
  f276 := Tryz.func135.trans (congrArg some (by kernel_rfl))
  t0 := Tryz.underlying0
  a0 := Tryz.isAgg0
  z0 := Tryz.sizeOf0
  v0 := Tryz.zeroValue0
  t3 := Tryz.underlying3
  a3 := Tryz.isAgg3
  z3 := Tryz.sizeOf3
  v3 := Tryz.zeroValue3
  t4 := Tryz.underlying4
  a4 := Tryz.isAgg4
  z4 := Tryz.sizeOf4
  v4 := Tryz.zeroValue4
  t9 := Tryz.underlying9
  a9 := Tryz.isAgg9
  z9 := Tryz.sizeOf9
  v9 := Tryz.zeroValue9
  t20 := Tryz.underlying20
  a20 := Tryz.isAgg20
  z20 := Tryz.sizeOf20
  v20 := Tryz.zeroValue20
  t37 := Tryz.underlying77
  a37 := Tryz.isAgg77
  z37 := Tryz.sizeOf77
  v37 := Tryz.zeroValue77
  t70 := Tryz.underlying76
  a70 := Tryz.isAgg76
  z70 := Tryz.sizeOf76
  v70 := Tryz.zeroValue76
  t72 := Tryz.underlying79
  a72 := Tryz.isAgg79
  z72 := Tryz.sizeOf79
  v72 := Tryz.zeroValue79
  t75 := Tryz.underlying63
  a75 := Tryz.isAgg63
  z75 := Tryz.sizeOf63
  v75 := Tryz.zeroValue63
  t164 := Tryz.underlying104
  a164 := Tryz.isAgg104
  z164 := Tryz.sizeOf104
  v164 := Tryz.zeroValue104 }
theorem Tryz.Builder_Extra_lays166 : Builder.Extra Tryz.prog Tryz.lays166_ren := {
  sizeBuilder := by kernel_rfl
  liesBuilder := by kernel_rfl
  t5 := Tryz.underlying5
  a5 := Tryz.isAgg5
  z5 := Tryz.sizeOf5
  v5 := Tryz.zeroValue5
  infoByte := by kernel_rfl
  cellsByte := by kernel_rfl
  sizeByte := by kernel_rfl
  neB5 := by decide }
open Go.RowKit in
theorem Tryz.Builder_WriteString_k (B b : Nat) (bs : List Value) (s : ByteArray) (w : World) (h : Lib.IsBuilderF 79 5 B b bs w) (hlen : bs.length + s.size ≤ 140737488355328) (hBw : B ≤ w.heap.size) :
    Calls Tryz.prog 67 #[.pointer (some ⟨b, 0, none⟩), .string s] w fun e w' => e = .returned (.tuple #[.int .i64 s.size, .nilIface]) ∧ (Lib.BuilderAtF 79 5 B b (.pointer (some ⟨b, 0, none⟩)) (bs ++ Lib.strCells s) w' ∧ Below B w w' ∧ Lib.OthersKept 5 (some b) w w') := Any.Builder_WriteString_k Tryz.lays166 Tryz.Builder_Extra_lays166 B b bs s w h hlen hBw
def Tryz.lays138_ren : Go.Shelf.Ren := ⟨fun | 138 => 83 | 143 => 110 | 195 => 115 | 217 => 168 | 218 => 116 | 219 => 147 | 224 => 170 | 225 => 169 | 266 => 184 | 267 => 171 | 314 => 185 | n => n, fun | 0 => 0 | 3 => 3 | 4 => 4 | 5 => 5 | 9 => 9 | 46 => 173 | 51 => 242 | 146 => 243 | n => n, fun | 1 => 3 | n => n⟩
theorem Tryz.lays138 : Go.Proofs.Lays.n138 Tryz.prog Tryz.lays138_ren := {
  mixed := by kernel_rfl
  f138 := Tryz.func83.trans (congrArg some (by kernel_rfl))
  f143 := Tryz.func110.trans (congrArg some (by kernel_rfl))
  f195 := Tryz.func115.trans (congrArg some (by kernel_rfl))
  f217 := Tryz.func168.trans (congrArg some (by kernel_rfl))
  f218 := Tryz.func116.trans (congrArg some (by kernel_rfl))
  f219 := Tryz.func147.trans (congrArg some (by kernel_rfl))
  f224 := Tryz.func170.trans (congrArg some (by kernel_rfl))
  f225 := Tryz.func169.trans (congrArg some (by kernel_rfl))
  f266 := Tryz.func184.trans (congrArg some (by kernel_rfl))
  f267 := Tryz.func171.trans (congrArg some (by kernel_rfl))
  f314 := Tryz.func185.trans (congrArg some (by kernel_rfl))
  t0 := Tryz.underlying0
  a0 := Tryz.isAgg0
  z0 := Tryz.sizeOf0
  v0 := Tryz.zeroValue0
  t3 := Tryz.underlying3
  a3 := Tryz.isAgg3
  z3 := Tryz.sizeOf3
  v3 := Tryz.zeroValue3
  t4 := Tryz.underlying4
  a4 := Tryz.isAgg4
  z4 := Tryz.sizeOf4
  v4 := Tryz.zeroValue4
  t5 := Tryz.underlying5
  a5 := Tryz.isAgg5
  z5 := Tryz.sizeOf5
  v5 := Tryz.zeroValue5
  t9 := Tryz.underlying9
  a9 := Tryz.isAgg9
  z9 := Tryz.sizeOf9
  v9 := Tryz.zeroValue9
  t46 := Tryz.underlying173
  a46 := Tryz.isAgg173
  z46 := Tryz.sizeOf173
  v46 := Tryz.zeroValue173
  t51 := Tryz.underlying242
  a51 := Tryz.isAgg242
  z51 := Tryz.sizeOf242
  v51 := Tryz.zeroValue242
  t146 := Tryz.underlying243
  a146 := Tryz.isAgg243
  z146 := Tryz.sizeOf243
  v146 := Tryz.zeroValue243
  g1 := by kernel_rfl }
open Go.RowKit Go.Lib in
theorem Tryz.strings_Count_one (s : ByteArray) (c : UInt8) (w : World) :
    Calls Tryz.prog 83 #[.string s, .string ⟨#[c]⟩] w fun e w' => e = .returned (.int .i64 (Lib.countByte s.data.toList c)) ∧ w' = w := Any.strings_Count_one Tryz.lays138 s c w
def Tryz.lays145_ren : Go.Shelf.Ren := ⟨fun | 145 => 81 | 217 => 168 | 219 => 147 | 220 => 112 | 224 => 170 | 225 => 169 | 266 => 184 | 267 => 171 | 314 => 185 | n => n, fun | 3 => 3 | 4 => 4 | 5 => 5 | 9 => 9 | 46 => 173 | 51 => 242 | 59 => 143 | 146 => 243 | n => n, fun | 1 => 3 | n => n⟩
theorem Tryz.lays145 : Go.Proofs.Lays.n145 Tryz.prog Tryz.lays145_ren := {
  mixed := by kernel_rfl
  f145 := Tryz.func81.trans (congrArg some (by kernel_rfl))
  f217 := Tryz.func168.trans (congrArg some (by kernel_rfl))
  f219 := Tryz.func147.trans (congrArg some (by kernel_rfl))
  f220 := Tryz.func112.trans (congrArg some (by kernel_rfl))
  f224 := Tryz.func170.trans (congrArg some (by kernel_rfl))
  f225 := Tryz.func169.trans (congrArg some (by kernel_rfl))
  f266 := Tryz.func184.trans (congrArg some (by kernel_rfl))
  f267 := Tryz.func171.trans (congrArg some (by kernel_rfl))
  f314 := Tryz.func185.trans (congrArg some (by kernel_rfl))
  t3 := Tryz.underlying3
  a3 := Tryz.isAgg3
  z3 := Tryz.sizeOf3
  v3 := Tryz.zeroValue3
  t4 := Tryz.underlying4
  a4 := Tryz.isAgg4
  z4 := Tryz.sizeOf4
  v4 := Tryz.zeroValue4
  t5 := Tryz.underlying5
  a5 := Tryz.isAgg5
  z5 := Tryz.sizeOf5
  v5 := Tryz.zeroValue5
  t9 := Tryz.underlying9
  a9 := Tryz.isAgg9
  z9 := Tryz.sizeOf9
  v9 := Tryz.zeroValue9
  t46 := Tryz.underlying173
  a46 := Tryz.isAgg173
  z46 := Tryz.sizeOf173
  v46 := Tryz.zeroValue173
  t51 := Tryz.underlying242
  a51 := Tryz.isAgg242
  z51 := Tryz.sizeOf242
  v51 := Tryz.zeroValue242
  t59 := Tryz.underlying143
  a59 := Tryz.isAgg143
  z59 := Tryz.sizeOf143
  v59 := Tryz.zeroValue143
  t146 := Tryz.underlying243
  a146 := Tryz.isAgg243
  z146 := Tryz.sizeOf243
  v146 := Tryz.zeroValue243
  g1 := by kernel_rfl }
open Go.RowKit Go.Lib in
theorem Tryz.strings_Cut (s sep : ByteArray) (m : Int) (w : World) (hs : s.size < 4294967281) (hm : w.cell? ⟨3, 0, none⟩ = some (.int .i64 m)) :
    Calls Tryz.prog 81 #[.string s, .string sep] w fun e w' => e = .returned (.tuple #[.string ⟨(Lib.cut s.data.toList sep.data.toList).1.toArray⟩, .string ⟨(Lib.cut s.data.toList sep.data.toList).2.1.toArray⟩, .bool (Lib.cut s.data.toList sep.data.toList).2.2]) ∧ ∃ n, w' = w.drewN n := Any.strings_Cut Tryz.lays145 s sep m w hs hm
def Tryz.lays146_ren : Go.Shelf.Ren := ⟨fun | 138 => 83 | 143 => 110 | 146 => 84 | 195 => 115 | 197 => 172 | 217 => 168 | 218 => 116 | 219 => 147 | 221 => 117 | 224 => 170 | 225 => 169 | 260 => 186 | 266 => 184 | 267 => 171 | 268 => 149 | 314 => 185 | n => n, fun | 0 => 0 | 3 => 3 | 4 => 4 | 5 => 5 | 9 => 9 | 21 => 21 | 31 => 35 | 46 => 173 | 51 => 242 | 105 => 231 | 119 => 249 | 138 => 251 | 139 => 252 | 146 => 243 | n => n, fun | 1 => 3 | 3 => 5 | 4 => 6 | n => n⟩
theorem Tryz.lays146 : Go.Proofs.Lays.n146 Tryz.prog Tryz.lays146_ren := {
  mixed := by kernel_rfl
  f138 := Tryz.func83.trans (congrArg some (by kernel_rfl))
  f143 := Tryz.func110.trans (congrArg some (by kernel_rfl))
  f146 := Tryz.func84.trans (congrArg some (by kernel_rfl))
  f195 := Tryz.func115.trans (congrArg some (by kernel_rfl))
  f197 := Tryz.func172.trans (congrArg some (by kernel_rfl))
  f217 := Tryz.func168.trans (congrArg some (by kernel_rfl))
  f218 := Tryz.func116.trans (congrArg some (by kernel_rfl))
  f219 := Tryz.func147.trans (congrArg some (by kernel_rfl))
  f221 := Tryz.func117.trans (congrArg some (by kernel_rfl))
  f224 := Tryz.func170.trans (congrArg some (by kernel_rfl))
  f225 := Tryz.func169.trans (congrArg some (by kernel_rfl))
  f260 := Tryz.func186.trans (congrArg some (by kernel_rfl))
  f266 := Tryz.func184.trans (congrArg some (by kernel_rfl))
  f267 := Tryz.func171.trans (congrArg some (by kernel_rfl))
  f268 := Tryz.func149.trans (congrArg some (by kernel_rfl))
  f314 := Tryz.func185.trans (congrArg some (by kernel_rfl))
  t0 := Tryz.underlying0
  a0 := Tryz.isAgg0
  z0 := Tryz.sizeOf0
  v0 := Tryz.zeroValue0
  t3 := Tryz.underlying3
  a3 := Tryz.isAgg3
  z3 := Tryz.sizeOf3
  v3 := Tryz.zeroValue3
  t4 := Tryz.underlying4
  a4 := Tryz.isAgg4
  z4 := Tryz.sizeOf4
  v4 := Tryz.zeroValue4
  t5 := Tryz.underlying5
  a5 := Tryz.isAgg5
  z5 := Tryz.sizeOf5
  v5 := Tryz.zeroValue5
  t9 := Tryz.underlying9
  a9 := Tryz.isAgg9
  z9 := Tryz.sizeOf9
  v9 := Tryz.zeroValue9
  t21 := Tryz.underlying21
  a21 := Tryz.isAgg21
  z21 := Tryz.sizeOf21
  v21 := Tryz.zeroValue21
  t31 := Tryz.underlying35
  a31 := Tryz.isAgg35
  z31 := Tryz.sizeOf35
  v31 := Tryz.zeroValue35
  t46 := Tryz.underlying173
  a46 := Tryz.isAgg173
  z46 := Tryz.sizeOf173
  v46 := Tryz.zeroValue173
  t51 := Tryz.underlying242
  a51 := Tryz.isAgg242
  z51 := Tryz.sizeOf242
  v51 := Tryz.zeroValue242
  t105 := Tryz.underlying231
  a105 := Tryz.isAgg231
  z105 := Tryz.sizeOf231
  v105 := Tryz.zeroValue231
  t119 := Tryz.underlying249
  a119 := Tryz.isAgg249
  z119 := Tryz.sizeOf249
  t138 := Tryz.underlying251
  a138 := Tryz.isAgg251
  z138 := Tryz.sizeOf251
  v138 := Tryz.zeroValue251
  t139 := Tryz.underlying252
  a139 := Tryz.isAgg252
  z139 := Tryz.sizeOf252
  v139 := Tryz.zeroValue252
  t146 := Tryz.underlying243
  a146 := Tryz.isAgg243
  z146 := Tryz.sizeOf243
  v146 := Tryz.zeroValue243
  g1 := by kernel_rfl
  g3 := by kernel_rfl
  g4 := by kernel_rfl }
open Go.RowKit Go.Lib in
theorem Tryz.strings_Split (s sep : ByteArray) (m : Int) (w : World) (hs : s.size < 4294967281) (hm : w.cell? ⟨3, 0, none⟩ = some (.int .i64 m)) (h1 : 1 ≤ sep.size) :
    Calls Tryz.prog 84 #[.string s, .string sep] w fun e w' =>
      e = .returned (.slice (some ⟨w.heap.size, 0, none⟩) (Lib.countB s sep + 1) (Lib.countB s sep + 1)) ∧ w' = w.alloc (.cells ((Lib.splitB sep 0 (Lib.countB s sep) s).map Value.string).toArray 9) := Any.strings_Split Tryz.lays146 (by kernel_rfl) s sep m w hs hm h1
def Tryz.lays143_ren : Go.Shelf.Ren := ⟨fun | 143 => 110 | 217 => 168 | 219 => 147 | 224 => 170 | 225 => 169 | 266 => 184 | 267 => 171 | 314 => 185 | n => n, fun | 3 => 3 | 4 => 4 | 5 => 5 | 9 => 9 | 46 => 173 | 51 => 242 | 146 => 243 | n => n, fun | 1 => 3 | n => n⟩
theorem Tryz.lays143 : Go.Proofs.Lays.n143 Tryz.prog Tryz.lays143_ren := {
  mixed := by kernel_rfl
  f143 := Tryz.func110.trans (congrArg some (by kernel_rfl))
  f217 := Tryz.func168.trans (congrArg some (by kernel_rfl))
  f219 := Tryz.func147.trans (congrArg some (by kernel_rfl))
  f224 := Tryz.func170.trans (congrArg some (by kernel_rfl))
  f225 := Tryz.func169.trans (congrArg some (by kernel_rfl))
  f266 := Tryz.func184.trans (congrArg some (by kernel_rfl))
  f267 := Tryz.func171.trans (congrArg some (by kernel_rfl))
  f314 := Tryz.func185.trans (congrArg some (by kernel_rfl))
  t3 := Tryz.underlying3
  a3 := Tryz.isAgg3
  z3 := Tryz.sizeOf3
  v3 := Tryz.zeroValue3
  t4 := Tryz.underlying4
  a4 := Tryz.isAgg4
  z4 := Tryz.sizeOf4
  v4 := Tryz.zeroValue4
  t5 := Tryz.underlying5
  a5 := Tryz.isAgg5
  z5 := Tryz.sizeOf5
  v5 := Tryz.zeroValue5
  t9 := Tryz.underlying9
  a9 := Tryz.isAgg9
  z9 := Tryz.sizeOf9
  v9 := Tryz.zeroValue9
  t46 := Tryz.underlying173
  a46 := Tryz.isAgg173
  z46 := Tryz.sizeOf173
  v46 := Tryz.zeroValue173
  t51 := Tryz.underlying242
  a51 := Tryz.isAgg242
  z51 := Tryz.sizeOf242
  v51 := Tryz.zeroValue242
  t146 := Tryz.underlying243
  a146 := Tryz.isAgg243
  z146 := Tryz.sizeOf243
  v146 := Tryz.zeroValue243
  g1 := by kernel_rfl }
open Go.RowKit Go.Lib in
theorem Tryz.strings_Index_one (s : ByteArray) (c : UInt8) (w : World) :
    Calls Tryz.prog 110 #[.string s, .string ⟨#[c]⟩] w fun e w' => e = .returned (.int .i64 (Lib.indexByte s.data.toList c)) ∧ w' = w := Any.strings_Index_one Tryz.lays143 s c w
end Go.Proofs
namespace Go.Proofs.YthhepmddcncjoaaGreatDoor
open Go.RowKit

/-- The listed sentinel, as it stands. -/
structure Env (a : Addr) (w : World) : Prop where
  err : w.cell? ⟨2, 0, none⟩ = some (.iface 256 (.pointer (some a)))
  size : 3 ≤ w.heap.size
theorem Env.belowB {a : Addr} {w w' : World} {B : Nat} (hB : 3 ≤ B) (h : Env a w) (hb : Below B w w') : Env a w' :=
  ⟨(hb.cell (p := ⟨2, 0, none⟩) (by show 2 < _; omega)).trans h.err, Nat.le_trans h.size hb.size⟩
theorem Env.below {a : Addr} {w w' : World} (h : Env a w) (hb : Below w.heap.size w w') : Env a w' := h.belowB h.size hb

theorem chain3 {w w1 w2 w3 : World} (b1 : Below w.heap.size w w1) (b2 : Below w1.heap.size w1 w2) (b3 : Below w2.heap.size w2 w3) : Below w.heap.size w w3 :=
  b1.trans ((b2.mono b1.size).trans (b3.mono (Nat.le_trans b1.size b2.size)))
theorem chain2 {w w1 w2 : World} (b1 : Below w.heap.size w w1) (b2 : Below w1.heap.size w1 w2) : Below w.heap.size w w2 :=
  b1.trans (b2.mono b1.size)

def mag (g : Nat) : Nat → List UInt8 → Option Nat
  | sz, [] => some sz
  | sz, c :: l => if 48 ≤ c.toNat ∧ c.toNat ≤ 57 then (if (g - (c.toNat - 48)) / 10 < sz then none else mag g (sz * 10 + (c.toNat - 48)) l) else none
def magL (g : Nat) (l : List UInt8) : Option Nat := if l = [] ∨ (l.head? = some 48 ∧ l ≠ [48]) then none else mag g 0 l
def magV (a : Addr) : Option Nat → Value
  | some m => .tuple #[.int .u64 (m : Int), .nilIface]
  | none => .tuple #[.int .u64 0, .iface 256 (.pointer (some a))]

theorem mag_bad (g sz : Nat) (c : UInt8) (l : List UInt8) (h : ¬ (48 ≤ c.toNat ∧ c.toNat ≤ 57)) : mag g sz (c :: l) = none := by
  rw [mag, if_neg h]
theorem mag_big (g sz : Nat) (c : UInt8) (l : List UInt8) (h : 48 ≤ c.toNat ∧ c.toNat ≤ 57) (h2 : (g - (c.toNat - 48)) / 10 < sz) : mag g sz (c :: l) = none := by
  rw [mag, if_pos h, if_pos h2]
theorem mag_go (g sz : Nat) (c : UInt8) (l : List UInt8) (h : 48 ≤ c.toNat ∧ c.toNat ≤ 57) (h2 : ¬ (g - (c.toNat - 48)) / 10 < sz) : mag g sz (c :: l) = mag g (sz * 10 + (c.toNat - 48)) l := by
  rw [mag, if_pos h, if_neg h2]

theorem digB_iff {r : Int} : digB r = true ↔ (48 ≤ r ∧ r ≤ 57) := by unfold digB; simp

set_option maxHeartbeats 1000000 in
theorem magnitude_none (s : ByteArray) (g : Nat) (a : Addr) (w : World) (hs : s.size ≤ maxLen) (E : Env a w) (h : s.toList = [] ∨ (s.toList.head? = some 48 ∧ s.toList ≠ [48])) :
    Calls Tryz.prog 151 #[.string s, .int .u64 (g : Int)] w fun e w' => e = .returned (magV a none) ∧ Below w.heap.size w w' := by
  unfold maxLen at hs
  have herr := E.err
  clear E
  rcases h with h | ⟨h, h2⟩
  · have e0 : s.toList.isEmpty = true := by simp [h]
    clear h
    go_enter Tryz.func151, Tryz.ntmps151
    go_wp2
    go_quiet (fail)
    go_wp2
    go_ret2
    exact ⟨rfl, below_drewN (Below.refl _ _) _⟩
  · have e0 : s.toList.isEmpty = false := by cases hh : s.toList with | nil => rw [hh] at h; cases h | cons => rfl
    have e1 : (s.toList == [48]) = false := by simp [h2]
    have hpos : 0 < s.size := by
      rw [Lib.toList_data] at h
      cases hh : s.data.toList with
      | nil => rw [hh] at h; cases h
      | cons x l =>
        have : s.data.toList.length = s.size := by simp
        rw [hh] at this; simp at this; omega
    have e2 : (((s[0]'hpos).toNat : Int) == 48) = true := by
      have hd := drop_cons s 0 hpos
      simp only [List.drop_zero] at hd
      rw [Lib.toList_data, hd] at h
      simp at h
      rw [h]; rfl
    clear h h2
    go_enter Tryz.func151, Tryz.ntmps151
    go_wp2
    go_quiet (fail)
    go_wp2
    go_ret2
    exact ⟨rfl, below_drewN (Below.refl _ _) _⟩

theorem int_u64 {a b : Int} (h : a = b) : Value.int .u64 a = Value.int .u64 b := by rw [h]
theorem iter_cell (w : World) (s : ByteArray) (pos : Nat) {v : Value} (h : w.cell? ⟨2, 0, none⟩ = some v) (hz : 2 < w.heap.size) : (w.iter s pos).cell? ⟨2, 0, none⟩ = some v :=
  (((Below.refl _ w).alloc (Nat.le_refl _) _).cell (p := ⟨2, 0, none⟩) hz).trans h

set_option maxHeartbeats 2000000 in
theorem magnitude_go (s : ByteArray) (g : Nat) (hg9 : 9 ≤ g) (hg : g ≤ 9223372036854775808) (a : Addr) (w : World) (hs : s.size ≤ maxLen) (E : Env a w) (h : s.toList ≠ [] ∧ (s.toList.head? = some 48 → s.toList = [48])) :
    Calls Tryz.prog 151 #[.string s, .int .u64 (g : Int)] w fun e w' => e = .returned (magV a (mag g 0 s.data.toList)) ∧ Below w.heap.size w w' := by
  unfold maxLen at hs
  have hz : 2 < w.heap.size := by have := E.size; omega
  have hcell := fun pos => iter_cell w s pos E.err hz
  obtain ⟨h, h2⟩ := h
  have e0 : s.toList.isEmpty = false := by simp [h]
  have hpos : 0 < s.size := by
    rw [Lib.toList_data] at h
    have hl : s.data.toList.length = s.size := by simp
    cases hh : s.data.toList with
    | nil => exact absurd hh h
    | cons x l => rw [hh] at hl; simp at hl; omega
  have e12 : (s.toList == [48]) = true ∨ (((s[0]'hpos).toNat : Int) == 48) = false := by
    by_cases hc : s.toList = [48]
    · left; simp [hc]
    · right
      rw [beq_eq_false_iff_ne]
      intro e
      apply hc
      apply h2
      have hd := drop_cons s 0 hpos
      simp only [List.drop_zero] at hd
      rw [Lib.toList_data, hd]
      simp only [List.head?_cons]
      have : s[0].toNat = 48 := by omega
      exact congrArg some (UInt8.toNat_inj.1 this)
  have e3 : ((((s[0]'hpos).toNat : Int) == 48) = true ∧ (s.toList == [48]) = true) ∨ (((s[0]'hpos).toNat : Int) == 48) = false := by
    rcases e12 with e | e
    · cases h0 : (((s[0]'hpos).toNat : Int) == 48)
      · exact .inr rfl
      · exact .inl ⟨rfl, e⟩
    · exact .inr e
  clear h h2 E e12
  have hl0 : s.data.toList.drop 0 = s.data.toList := List.drop_zero
  rcases e3 with ⟨e2, e1⟩ | e2
  all_goals
    go_enter Tryz.func151, Tryz.ntmps151
    go_wp2
    go_loopw [6] (fun sz wr => ∃ pos m : Nat, pos ≤ s.size ∧ wr = w.iter s pos ∧ sz = .int .u64 (m : Int) ∧ m ≤ g ∧ mag g m (s.data.toList.drop pos) = mag g 0 s.data.toList) (fun _ wr => s.size - wr.iterPos w.heap.size)
    case atStart => exact ⟨0, 0, Nat.zero_le _, rfl, rfl, Nat.zero_le _, by rw [hl0]⟩
    case round =>
      obtain ⟨pos, m, hp, rfl, rfl, hm, hok⟩ := hrel
      have Hok := Lib.hid hok
      clear hok
      have hcl := hcell (pos + 1)
      by_cases hlt : pos < s.size
      · have Hc := Lib.hid (drop_cons s pos hlt)
        by_cases hD : digB ((s[pos]'hlt).toNat : Int) = true
        · have hd := digB_iff.1 hD
          have ha : (s[pos]'hlt).toNat < 128 := by omega
          have hnx := fun ty => run_next_ascii (P := Tryz.prog) w s pos ty hlt ha
          by_cases hbig : (g - ((s[pos]'hlt).toNat - 48)) / 10 < m
          · have Hf := Lib.hid (mag_big g m (s[pos]'hlt) (s.data.toList.drop (pos + 1)) ⟨by omega, by omega⟩ hbig)
            have hbig' : ((g : Int) - (((s[pos]'hlt).toNat : Int) - 48)) / 10 < (m : Int) := by omega
            clear hbig
            go_wp2_with (first | (go_at_call 142; refine (isDigit_any _ _).mono ?_; rintro e w' ⟨rfl, rfl⟩))
            go_quiet (fail)
            go_wp2
            go_ret2
            exact ⟨by rw [← Hok.out, Hc.out, Hf.out]; rfl, below_drewN ((Below.refl _ _).alloc (Nat.le_refl _) _) _⟩
          · have Hf := Lib.hid (mag_go g m (s[pos]'hlt) (s.data.toList.drop (pos + 1)) ⟨by omega, by omega⟩ hbig)
            have hbig' : ¬ ((g : Int) - (((s[pos]'hlt).toNat : Int) - 48)) / 10 < (m : Int) := by omega
            have hb2 : (m : Int) * 10 + (((s[pos]'hlt).toNat : Int) - 48) ≤ (g : Int) := by omega
            have hb3 : m * 10 + ((s[pos]'hlt).toNat - 48) ≤ g := by omega
            have hb4 : (m : Int) * 10 ≤ (g : Int) := by omega
            clear hbig
            go_wp2_with (first | (go_at_call 142; refine (isDigit_any _ _).mono ?_; rintro e w' ⟨rfl, rfl⟩))
            go_roundw
            case rel => exact ⟨pos + 1, m * 10 + ((s[pos]'hlt).toNat - 48), hlt, rfl, int_u64 (by omega), hb3, by rw [← Hok.out, Hc.out, Hf.out]⟩
            case measure => simp; omega
        · have hD' : digB ((s[pos]'hlt).toNat : Int) = false := by simpa using hD
          have hnd : ¬ (48 ≤ (s[pos]'hlt).toNat ∧ (s[pos]'hlt).toNat ≤ 57) := fun hh => hD (digB_iff.2 ⟨by omega, by omega⟩)
          have Hf := Lib.hid (mag_bad g m (s[pos]'hlt) (s.data.toList.drop (pos + 1)) hnd)
          clear hD hnd
          by_cases ha : (s[pos]'hlt).toNat < 128
          · have hnx := fun ty => run_next_ascii (P := Tryz.prog) w s pos ty hlt ha
            go_wp2_with (first | (go_at_call 142; refine (isDigit_any _ _).mono ?_; rintro e w' ⟨rfl, rfl⟩))
            go_quiet (fail)
            go_wp2
            go_ret2
            exact ⟨by rw [← Hok.out, Hc.out, Hf.out]; rfl, below_drewN ((Below.refl _ _).alloc (Nat.le_refl _) _) _⟩
          · have hnx := fun ty => run_next_any (P := Tryz.prog) w s pos ty hlt
            have hh := (decode_high s pos hlt (by omega)).1
            have hD2 : digB ((Utf8.decode s pos).1 : Int) = false := digB_high (by omega)
            have hcl2 := hcell (pos + (Utf8.decode s pos).2)
            go_wp2_with (first | (go_at_call 142; refine (isDigit_any _ _).mono ?_; rintro e w' ⟨rfl, rfl⟩))
            go_quiet (fail)
            go_wp2
            go_ret2
            exact ⟨by rw [← Hok.out, Hc.out, Hf.out]; rfl, below_drewN ((Below.refl _ _).alloc (Nat.le_refl _) _) _⟩
      · have hnx := fun ty => run_next_end (P := Tryz.prog) w s pos ty hlt
        obtain rfl : pos = s.size := by omega
        go_wp2
        go_ret2
        exact ⟨by rw [← Hok.out, List.drop_of_length_le (by simp)]; rfl, (Below.refl _ _).alloc (Nat.le_refl _) _⟩

theorem magnitude_c (s : ByteArray) (g : Nat) (hg9 : 9 ≤ g) (hg : g ≤ 9223372036854775808) (z : Int) (hz : z = (g : Int)) (a : Addr) (w : World) (hs : s.size ≤ maxLen) (E : Env a w) :
    Calls Tryz.prog 151 #[.string s, .int .u64 z] w fun e w' => e = .returned (magV a (magL g s.data.toList)) ∧ Below w.heap.size w w' := by
  subst hz
  have hl : s.toList = s.data.toList := Lib.toList_data s
  unfold magL
  by_cases h : s.data.toList = [] ∨ (s.data.toList.head? = some 48 ∧ s.data.toList ≠ [48])
  · rw [if_pos h]
    exact magnitude_none s g a w hs E (by rw [hl]; exact h)
  · rw [if_neg h]
    refine magnitude_go s g hg9 hg a w hs E ?_
    rw [hl]
    refine ⟨fun h0 => h (.inl h0), fun h1 => ?_⟩
    by_cases h2 : s.data.toList = [48]
    · exact h2
    · exact absurd (.inr ⟨h1, h2⟩) h
end Go.Proofs.YthhepmddcncjoaaGreatDoor
namespace Go.Proofs.YthhepmddcncjoaaGreatDoor
open Go.RowKit

def negO : Option Nat → Option Int
  | none => none
  | some m => if m = 0 then none else some (-(m : Int))
def posO : Option Nat → Option Int
  | none => none
  | some m => some (m : Int)
def numL (l : List UInt8) : Option Int :=
  if Lib.hasPrefix l [45] then negO (magL 9223372036854775808 (l.drop 1)) else posO (magL 9223372036854775807 l)
def numV (a : Addr) : Option Int → Value
  | some n => .tuple #[.int .i64 n, .nilIface]
  | none => .tuple #[.int .i64 0, .iface 256 (.pointer (some a))]
def parseV : Option Int → Value
  | some n => .tuple #[.int .i64 n, .int .i64 0]
  | none => .tuple #[.int .i64 0, .int .i64 10]

theorem mag_le (g : Nat) : ∀ (l : List UInt8) (sz m : Nat), sz ≤ g → 9 ≤ g → mag g sz l = some m → m ≤ g
  | [], sz, m, h, _, e => by simp only [mag, Option.some.injEq] at e; omega
  | c :: l, sz, m, h, h9, e => by
    by_cases hc : 48 ≤ c.toNat ∧ c.toNat ≤ 57
    · by_cases hb : (g - (c.toNat - 48)) / 10 < sz
      · rw [mag_big g sz c l hc hb] at e; cases e
      · rw [mag_go g sz c l hc hb] at e
        exact mag_le g l _ m (by omega) h9 e
    · rw [mag_bad g sz c l hc] at e; cases e
theorem magL_le (g : Nat) (l : List UInt8) (m : Nat) (h9 : 9 ≤ g) (e : magL g l = some m) : m ≤ g := by
  unfold magL at e
  split at e
  · cases e
  · exact mag_le g l 0 m (Nat.zero_le _) h9 e

theorem trim_of (l : List UInt8) : Lib.trimPrefix l [45] = if Lib.hasPrefix l [45] then l.drop 1 else l := rfl

theorem magnitude_l (l : List UInt8) (r : Option Nat) (g : Nat) (hg9 : 9 ≤ g) (hg : g ≤ 9223372036854775808) (hr : magL g l = r) (z : Int) (hz : z = (g : Int)) (a : Addr) (w : World) (hs : l.length ≤ maxLen) (E : Env a w) :
    Calls Tryz.prog 151 #[.string ⟨l.toArray⟩, .int .u64 z] w fun e w' => e = .returned (magV a r) ∧ Below w.heap.size w w' := by
  subst hr
  exact magnitude_c ⟨l.toArray⟩ g hg9 hg z hz a w hs E

theorem wrap_neg (m : Nat) (h1 : 1 ≤ m) (h2 : m ≤ 9223372036854775808) : wrap64 (-wrap64 (m : Int)) = -(m : Int) := by
  unfold wrap64
  omega

set_option maxHeartbeats 1000000 in
theorem number_neg (l : List UInt8) (r : Option Nat) (s : ByteArray) (a : Addr) (w : World) (hl : l.length ≤ maxLen) (E : Env a w) (hp : Lib.hasPrefix s.data.toList [45] = true) (ht : Lib.trimPrefix s.data.toList [45] = l) (hr : magL 9223372036854775808 l = r) :
    Calls Tryz.prog 118 #[.string s] w fun e w' => e = .returned (numV a (negO r)) ∧ Below w.heap.size w w' := by
  have HE := Lib.hid E
  have Hr := Lib.hid hr
  have hle : ∀ m, r = some m → m ≤ 9223372036854775808 := fun m hm => magL_le _ l m (by omega) (hr.trans hm)
  have herr := E.err
  have hz : 2 < w.heap.size := by have := E.size; omega
  clear hr E
  have Hl := Lib.hid hl
  clear hl
  have hc : Calls Tryz.prog 150 #[.string s, .string ⟨#[45]⟩] w fun e w' => e = .returned (.tuple #[.string ⟨l.toArray⟩, .bool true]) ∧ w' = w := by
    refine (Tryz.strings_CutPrefix s ⟨#[45]⟩ w).mono ?_
    rintro e w' ⟨rfl, rfl⟩
    refine ⟨?_, rfl⟩
    rw [show (⟨#[45]⟩ : ByteArray).data.toList = [45] from rfl, ht, hp]
  have Hc := Lib.hid hc
  clear hc ht hp
  cases r with
  | none =>
    clear hle
    go_enter Tryz.func118, Tryz.ntmps118
    go_wp2_with fail
    refine Hc.out.mono ?_
    rintro e w' ⟨rfl, rfl⟩
    go_wp2_with fail
    refine (magnitude_l l none 9223372036854775808 (by omega) (by omega) Hr.out _ (by omega) a _ Hl.out HE.out).mono ?_
    rintro e w1 ⟨rfl, hb⟩
    simp only [magV]
    go_wp2
    go_ret2
    exact ⟨rfl, hb⟩
  | some m =>
    have hm := hle m rfl
    clear hle
    by_cases h0 : m = 0
    · subst h0
      go_enter Tryz.func118, Tryz.ntmps118
      go_wp2_with fail
      refine Hc.out.mono ?_
      rintro e w' ⟨rfl, rfl⟩
      go_wp2_with fail
      refine (magnitude_l l (some 0) 9223372036854775808 (by omega) (by omega) Hr.out _ (by omega) a _ Hl.out HE.out).mono ?_
      rintro e w1 ⟨rfl, hb⟩
      simp only [magV]
      have herr1 := (hb.cell (p := ⟨2, 0, none⟩) hz).trans herr
      go_wp2
      go_quiet (fail)
      go_wp2
      go_ret2
      exact ⟨rfl, below_drewN hb _⟩
    · have h0' : ((m : Int) == 0) = false := by simp; omega
      go_enter Tryz.func118, Tryz.ntmps118
      go_wp2_with fail
      refine Hc.out.mono ?_
      rintro e w' ⟨rfl, rfl⟩
      go_wp2_with fail
      refine (magnitude_l l (some m) 9223372036854775808 (by omega) (by omega) Hr.out _ (by omega) a _ Hl.out HE.out).mono ?_
      rintro e w1 ⟨rfl, hb⟩
      simp only [magV]
      go_wp2
      go_ret2
      refine ⟨?_, hb⟩
      show Ending.returned (.tuple #[.int .i64 (wrap64 (-wrap64 (m : Int))), .nilIface]) = _
      rw [wrap_neg m (by omega) hm, show negO (some m) = some (-(m : Int)) by simp [negO, h0]]
      rfl

set_option maxHeartbeats 1000000 in
theorem number_pos (l : List UInt8) (r : Option Nat) (s : ByteArray) (a : Addr) (w : World) (hl : l.length ≤ maxLen) (E : Env a w) (hp : Lib.hasPrefix s.data.toList [45] = false) (ht : Lib.trimPrefix s.data.toList [45] = l) (hr : magL 9223372036854775807 l = r) :
    Calls Tryz.prog 118 #[.string s] w fun e w' => e = .returned (numV a (posO r)) ∧ Below w.heap.size w w' := by
  have HE := Lib.hid E
  have Hr := Lib.hid hr
  have hle : ∀ m, r = some m → m ≤ 9223372036854775807 := fun m hm => magL_le _ l m (by omega) (hr.trans hm)
  clear hr E
  have Hl := Lib.hid hl
  clear hl
  have hc : Calls Tryz.prog 150 #[.string s, .string ⟨#[45]⟩] w fun e w' => e = .returned (.tuple #[.string ⟨l.toArray⟩, .bool false]) ∧ w' = w := by
    refine (Tryz.strings_CutPrefix s ⟨#[45]⟩ w).mono ?_
    rintro e w' ⟨rfl, rfl⟩
    refine ⟨?_, rfl⟩
    rw [show (⟨#[45]⟩ : ByteArray).data.toList = [45] from rfl, ht, hp]
  have Hc := Lib.hid hc
  clear hc ht hp
  cases r with
  | none =>
    clear hle
    go_enter Tryz.func118, Tryz.ntmps118
    go_wp2_with fail
    refine Hc.out.mono ?_
    rintro e w' ⟨rfl, rfl⟩
    go_wp2_with fail
    refine (magnitude_l l none 9223372036854775807 (by omega) (by omega) Hr.out _ (by omega) a _ Hl.out HE.out).mono ?_
    rintro e w1 ⟨rfl, hb⟩
    simp only [magV]
    go_wp2
    go_ret2
    exact ⟨rfl, hb⟩
  | some m =>
    have hm := hle m rfl
    clear hle
    go_enter Tryz.func118, Tryz.ntmps118
    go_wp2_with fail
    refine Hc.out.mono ?_
    rintro e w' ⟨rfl, rfl⟩
    go_wp2_with fail
    refine (magnitude_l l (some m) 9223372036854775807 (by omega) (by omega) Hr.out _ (by omega) a _ Hl.out HE.out).mono ?_
    rintro e w1 ⟨rfl, hb⟩
    simp only [magV]
    go_wp2
    go_ret2
    exact ⟨rfl, hb⟩

theorem number_c (s : ByteArray) (a : Addr) (w : World) (hs : s.size ≤ maxLen) (E : Env a w) :
    Calls Tryz.prog 118 #[.string s] w fun e w' => e = .returned (numV a (numL s.data.toList)) ∧ Below w.heap.size w w' := by
  have htl := Lib.trimPrefix_le s.data.toList [45]
  have hsz : (Lib.trimPrefix s.data.toList [45]).length ≤ maxLen := by
    have : s.data.toList.length = s.size := by simp
    omega
  cases hp : Lib.hasPrefix s.data.toList [45] with
  | true =>
    have ht : Lib.trimPrefix s.data.toList [45] = s.data.toList.drop 1 := by rw [trim_of, if_pos hp]
    have e : numL s.data.toList = negO (magL 9223372036854775808 (s.data.toList.drop 1)) := by unfold numL; rw [if_pos hp]
    rw [e]
    exact number_neg _ _ s a w (ht ▸ hsz) E hp ht rfl
  | false =>
    have ht : Lib.trimPrefix s.data.toList [45] = s.data.toList := by rw [trim_of, if_neg (by simp [hp])]
    have e : numL s.data.toList = posO (magL 9223372036854775807 s.data.toList) := by unfold numL; rw [if_neg (by simp [hp])]
    rw [e]
    exact number_pos _ _ s a w (ht ▸ hsz) E hp ht rfl

set_option maxHeartbeats 1000000 in
theorem parse_c (s : ByteArray) (a : Addr) (w : World) (hs : s.size ≤ maxLen) (E : Env a w) :
    Calls Tryz.prog 85 #[.string s] w fun e w' => e = .returned (parseV (numL s.data.toList)) ∧ Below w.heap.size w w' := by
  have herr := E.err
  have hz : 2 < w.heap.size := by have := E.size; omega
  have HE := Lib.hid E
  have Hs := Lib.hid hs
  clear E hs
  obtain ⟨r, hr⟩ : ∃ r, numL s.data.toList = r := ⟨_, rfl⟩
  have hc := number_c s a w Hs.out HE.out
  rw [hr] at hc ⊢
  have Hc := Lib.hid hc
  clear hc hr HE
  cases r with
  | none =>
    go_enter Tryz.func85, Tryz.ntmps85
    go_wp2_with fail
    refine Hc.out.mono ?_
    rintro e w1 ⟨rfl, hb⟩
    simp only [numV]
    have herr1 := (hb.cell (p := ⟨2, 0, none⟩) hz).trans herr
    go_wp2_with fail
    refine (is_same a _).mono ?_
    rintro e w' ⟨rfl, rfl⟩
    go_wp2
    go_ret2
    exact ⟨rfl, hb⟩
  | some n =>
    go_enter Tryz.func85, Tryz.ntmps85
    go_wp2_with fail
    refine Hc.out.mono ?_
    rintro e w1 ⟨rfl, hb⟩
    simp only [numV]
    have herr1 := (hb.cell (p := ⟨2, 0, none⟩) hz).trans herr
    go_wp2_with fail
    refine (is_nil a _).mono ?_
    rintro e w' ⟨rfl, rfl⟩
    go_wp2
    go_ret2
    exact ⟨rfl, hb⟩
end Go.Proofs.YthhepmddcncjoaaGreatDoor
namespace Go.Proofs.YthhepmddcncjoaaGreatDoor
open Go.RowKit

theorem num_c (n : Int) (h0 : -9223372036854775808 ≤ n) (h1 : n ≤ 9223372036854775807) (w : World) (htab0 : Lib.TabIs Tryz.prog w "internal/strconv.uint64pow10" .u64 Lib.pow10Tab) :
    Calls Tryz.prog 104 #[.int .i64 n] w fun e w' => e = .returned (.string ⟨(Lib.itoa n).toArray⟩) ∧ Below w.heap.size w w' := by
  have htab := Lib.hid htab0
  clear htab0
  go_enter Tryz.func104, Tryz.ntmps104
  go_wp2_with fail
  refine (Tryz.strconv_FormatInt_10 n h0 h1 _ htab.out).mono ?_
  rintro e w' ⟨rfl, k, os, rfl⟩
  go_wp2
  go_ret
  exact ⟨rfl, Lib.below_grow _ _ (Nat.le_refl _) _ _⟩
end Go.Proofs.YthhepmddcncjoaaGreatDoor
