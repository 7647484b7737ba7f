/- dsafe.part.invents. dsafe.reckonedOf. dsafe.varsOf: the names of a list of terms, each once. dsafe, plain: each part once; a rule without parts; an atom more. dsafe.outerOf. -/
import Derived.Test.YtfcfehflocglpaaDoorKZb
import Derived.Test.YtfcfehflocglpaaDoorKLaid
import Derived.Test.YtfcfehflocglpaaDoorKYtp
import Derived.Test.YtfcfehflocglpaaDoorKZn
namespace Go.Proofs.YtfcfehflocglpaaDoor
open Go.RowKit

theorem row4 {W : World} {b : Nat} {T : TypeId} {c0 c1 c2 c3 : Value} (h : W.heap[b]? = some (.cells #[c0, c1, c2, c3] T (0, 0))) :
    W.cell? ⟨b, 0, none⟩ = some c0 ∧ W.cell? ⟨b, 1, none⟩ = some c1 ∧ W.cell? ⟨b, 2, none⟩ = some c2 ∧ W.cell? ⟨b, 3, none⟩ = some c3 :=
  ⟨row_cells h 0, row_cells h 1, row_cells h 2, row_cells h 3⟩
theorem three_b (w : World) (a b c : Obj) : Below w.heap.size w (((w.alloc a).alloc b).alloc c).drew :=
  ((((Below.refl _ _).alloc (Nat.le_refl _) a).alloc (by simp) b).alloc (by simp; omega) c).drew
theorem three_1 (w : World) (a b c : Obj) : (((w.alloc a).alloc b).alloc c).drew.heap[w.heap.size + 1]? = some b := by
  have := World.alloc_heap_new (w.alloc a) b
  rw [World.size_alloc] at this
  exact row_more this c
theorem three_2 (w : World) (a b c : Obj) : (((w.alloc a).alloc b).alloc c).drew.heap[w.heap.size + 1 + 1]? = some c := by
  have := World.alloc_heap_new ((w.alloc a).alloc b) c
  rw [World.size_alloc, World.size_alloc] at this
  exact this
set_option maxRecDepth 100000 in
set_option maxHeartbeats 16000000 in
theorem invents_c (p : Pt) (cs : List Value) (M n c : Nat) (B : Bd) (w : World) (hp : PtC w w.heap.size p cs) (hM : MapI Tryd.prog w 9 3 M n B c) :
    Calls Tryd.prog 80 #[.agg cs.toArray, .map (some M)] w fun e w' => e = .returned (.bool (inventsZ B p)) ∧ Below w.heap.size w w' := by
  have hMl := hM.lt
  obtain ⟨o0, k0, o1, k1, o2, k2, o3, k3, o4, k4, o5, k5, o6, k6, o7, k7, rfl, hl, h1, h2, h3, h4, h5⟩ := hp.look
  obtain ⟨q0, q1, q2, q3, q4, q5, qe, _, _, hx, hy⟩ := hl.look
  cases qe
  have HLX := Lib.hid (fun (W : World) (hb : Below w.heap.size w W) => lacks_c p.lit.x _ W.heap.size M n c B W ((hx.under hb).more hb.size) (hM.below hb hMl))
  have HLY := Lib.hid (fun (W : World) (hb : Below w.heap.size w W) => lacks_c p.lit.y _ W.heap.size M n c B W ((hy.under hb).more hb.size) (hM.below hb hMl))
  have HRX := Lib.hid (fun (W : World) (hb : Below w.heap.size w W) => isRck_c p.lit.x _ W.heap.size W ((hx.under hb).more hb.size))
  have HRY := Lib.hid (fun (W : World) (hb : Below w.heap.size w W) => isRck_c p.lit.y _ W.heap.size W ((hy.under hb).more hb.size))
  have HLT := Lib.hid (fun (W : World) (hb : Below w.heap.size w W) => isAgg_c p.lit _ W.heap.size W ((hl.below hb).more hb.size))
  clear hp hM hl hx hy h1 h2 h3 h4 h5
  unfold inventsZ
  by_cases ho : p.lit.op = 3
  · have t3 : (p.lit.op == 3) = true := by rw [ho]; rfl
    rw [if_pos ho]
    obtain ⟨blx, hlx⟩ : ∃ b, lacksZ B p.lit.x = b := ⟨_, rfl⟩
    obtain ⟨bly, hly⟩ : ∃ b, lacksZ B p.lit.y = b := ⟨_, rfl⟩
    obtain ⟨brx, hrx⟩ : ∃ b, rckT p.lit.x = b := ⟨_, rfl⟩
    obtain ⟨bry, hry⟩ : ∃ b, rckT p.lit.y = b := ⟨_, rfl⟩
    rw [hlx] at HLX ⊢
    rw [hly] at HLY ⊢
    rw [hrx] at HRX ⊢
    rw [hry] at HRY ⊢
    clear ho hlx hly hrx hry HLT
    go_enter Tryd.func80, Tryd.ntmps80
    go_wp2_with fail
    go_region
    · have B0 := Lib.hid (three_b w (.cells #[.int .i64 (p.place : Int), .int .i64 p.lit.op, .string p.lit.a.rel, .slice o0 p.lit.a.l.length k0, .int .i64 p.lit.x.op, .string p.lit.x.s, .int .i64 p.lit.x.n, .slice o1 p.lit.x.l.length k1, .int .i64 p.lit.y.op, .string p.lit.y.s, .int .i64 p.lit.y.n, .slice o2 p.lit.y.l.length k2, .slice o3 p.x.length k3, .slice o4 p.y.length k4, .slice o5 p.a.length k5, .slice o6 p.rk.length k6, .slice o7 p.ou.length k7] 122) (.cells #[.int .i64 p.lit.x.op, .string p.lit.x.s, .int .i64 p.lit.x.n, .slice o1 p.lit.x.l.length k1] 43) (.cells #[.int .i64 p.lit.y.op, .string p.lit.y.s, .int .i64 p.lit.y.n, .slice o2 p.lit.y.l.length k2] 43))
      have RX0 := Lib.hid (three_1 w (.cells #[.int .i64 (p.place : Int), .int .i64 p.lit.op, .string p.lit.a.rel, .slice o0 p.lit.a.l.length k0, .int .i64 p.lit.x.op, .string p.lit.x.s, .int .i64 p.lit.x.n, .slice o1 p.lit.x.l.length k1, .int .i64 p.lit.y.op, .string p.lit.y.s, .int .i64 p.lit.y.n, .slice o2 p.lit.y.l.length k2, .slice o3 p.x.length k3, .slice o4 p.y.length k4, .slice o5 p.a.length k5, .slice o6 p.rk.length k6, .slice o7 p.ou.length k7] 122) (.cells #[.int .i64 p.lit.x.op, .string p.lit.x.s, .int .i64 p.lit.x.n, .slice o1 p.lit.x.l.length k1] 43) (.cells #[.int .i64 p.lit.y.op, .string p.lit.y.s, .int .i64 p.lit.y.n, .slice o2 p.lit.y.l.length k2] 43))
      have RY0 := Lib.hid (three_2 w (.cells #[.int .i64 (p.place : Int), .int .i64 p.lit.op, .string p.lit.a.rel, .slice o0 p.lit.a.l.length k0, .int .i64 p.lit.x.op, .string p.lit.x.s, .int .i64 p.lit.x.n, .slice o1 p.lit.x.l.length k1, .int .i64 p.lit.y.op, .string p.lit.y.s, .int .i64 p.lit.y.n, .slice o2 p.lit.y.l.length k2, .slice o3 p.x.length k3, .slice o4 p.y.length k4, .slice o5 p.a.length k5, .slice o6 p.rk.length k6, .slice o7 p.ou.length k7] 122) (.cells #[.int .i64 p.lit.x.op, .string p.lit.x.s, .int .i64 p.lit.x.n, .slice o1 p.lit.x.l.length k1] 43) (.cells #[.int .i64 p.lit.y.op, .string p.lit.y.s, .int .i64 p.lit.y.n, .slice o2 p.lit.y.l.length k2] 43))
      go_wp2_with fail
      refine (HLX.out _ B0.out).mono ?_
      rintro e1 w1 ⟨rfl, b1⟩
      have RX1 := Lib.hid ((b1.block _ (heap_lt RX0.out)).trans RX0.out)
      have RY1 := Lib.hid ((b1.block _ (heap_lt RY0.out)).trans RY0.out)
      have B1 := Lib.hid (B0.out.trans (b1.mono B0.out.size))
      obtain ⟨x0, x1, x2, x3⟩ := row4 RX1.out
      obtain ⟨y0, y1, y2, y3⟩ := row4 RY1.out
      have lx1 := heap_lt RX1.out
      have ly1 := heap_lt RY1.out
      clear b1
      cases blx with
      | true =>
        go_wp2_with fail
        refine (HRY.out _ B1.out).mono ?_
        rintro e2 w2 ⟨rfl, b2⟩
        have RX2 := Lib.hid ((b2.block _ (heap_lt RX1.out)).trans RX1.out)
        have RY2 := Lib.hid ((b2.block _ (heap_lt RY1.out)).trans RY1.out)
        have B2 := Lib.hid (B1.out.trans (b2.mono B1.out.size))
        obtain ⟨x0, x1, x2, x3⟩ := row4 RX2.out
        obtain ⟨y0, y1, y2, y3⟩ := row4 RY2.out
        have lx2 := heap_lt RX2.out
        have ly2 := heap_lt RY2.out
        clear b2
        cases bry with
        | true =>
          go_wp2
          go_ret
          exact ⟨rfl, B2.out⟩
        | false =>
          go_wp2_with fail
          refine (HLY.out _ B2.out).mono ?_
          rintro e3 w3 ⟨rfl, b3⟩
          have RX3 := Lib.hid ((b3.block _ (heap_lt RX2.out)).trans RX2.out)
          have RY3 := Lib.hid ((b3.block _ (heap_lt RY2.out)).trans RY2.out)
          have B3 := Lib.hid (B2.out.trans (b3.mono B2.out.size))
          obtain ⟨x0, x1, x2, x3⟩ := row4 RX3.out
          obtain ⟨y0, y1, y2, y3⟩ := row4 RY3.out
          have lx3 := heap_lt RX3.out
          have ly3 := heap_lt RY3.out
          clear b3
          cases bly with
          | true =>
            go_wp2_with fail
            refine (HRX.out _ B3.out).mono ?_
            rintro e4 w4 ⟨rfl, b4⟩
            have RX4 := Lib.hid ((b4.block _ (heap_lt RX3.out)).trans RX3.out)
            have RY4 := Lib.hid ((b4.block _ (heap_lt RY3.out)).trans RY3.out)
            have B4 := Lib.hid (B3.out.trans (b4.mono B3.out.size))
            obtain ⟨x0, x1, x2, x3⟩ := row4 RX4.out
            obtain ⟨y0, y1, y2, y3⟩ := row4 RY4.out
            have lx4 := heap_lt RX4.out
            have ly4 := heap_lt RY4.out
            clear b4
            cases brx with
            | true =>
              go_wp2
              go_ret
              exact ⟨rfl, B4.out⟩
            | false =>
              go_wp2
              go_ret
              exact ⟨rfl, B4.out⟩
          | false =>
            go_wp2
            go_ret
            exact ⟨rfl, B3.out⟩
      | false =>
        go_wp2_with fail
        refine (HLY.out _ B1.out).mono ?_
        rintro e2 w2 ⟨rfl, b2⟩
        have RX2 := Lib.hid ((b2.block _ (heap_lt RX1.out)).trans RX1.out)
        have RY2 := Lib.hid ((b2.block _ (heap_lt RY1.out)).trans RY1.out)
        have B2 := Lib.hid (B1.out.trans (b2.mono B1.out.size))
        obtain ⟨x0, x1, x2, x3⟩ := row4 RX2.out
        obtain ⟨y0, y1, y2, y3⟩ := row4 RY2.out
        have lx2 := heap_lt RX2.out
        have ly2 := heap_lt RY2.out
        clear b2
        cases bly with
        | true =>
          go_wp2_with fail
          refine (HRX.out _ B2.out).mono ?_
          rintro e3 w3 ⟨rfl, b3⟩
          have RX3 := Lib.hid ((b3.block _ (heap_lt RX2.out)).trans RX2.out)
          have RY3 := Lib.hid ((b3.block _ (heap_lt RY2.out)).trans RY2.out)
          have B3 := Lib.hid (B2.out.trans (b3.mono B2.out.size))
          obtain ⟨x0, x1, x2, x3⟩ := row4 RX3.out
          obtain ⟨y0, y1, y2, y3⟩ := row4 RY3.out
          have lx3 := heap_lt RX3.out
          have ly3 := heap_lt RY3.out
          clear b3
          cases brx with
          | true =>
            go_wp2
            go_ret
            exact ⟨rfl, B3.out⟩
          | false =>
            go_wp2
            go_ret
            exact ⟨rfl, B3.out⟩
        | false =>
          go_wp2
          go_ret
          exact ⟨rfl, B2.out⟩
    · have B0 := Lib.hid (three_b w (.cells #[.int .i64 (p.place : Int), .int .i64 p.lit.op, .string p.lit.a.rel, .slice o0 p.lit.a.l.length k0, .int .i64 p.lit.x.op, .string p.lit.x.s, .int .i64 p.lit.x.n, .slice o1 p.lit.x.l.length k1, .int .i64 p.lit.y.op, .string p.lit.y.s, .int .i64 p.lit.y.n, .slice o2 p.lit.y.l.length k2, .slice o3 p.x.length k3, .slice o4 p.y.length k4, .slice o5 p.a.length k5, .slice o6 p.rk.length k6, .slice o7 p.ou.length k7] 122) (.cells #[.int .i64 p.lit.y.op, .string p.lit.y.s, .int .i64 p.lit.y.n, .slice o2 p.lit.y.l.length k2] 43) (.cells #[.int .i64 p.lit.x.op, .string p.lit.x.s, .int .i64 p.lit.x.n, .slice o1 p.lit.x.l.length k1] 43))
      have RY0 := Lib.hid (three_1 w (.cells #[.int .i64 (p.place : Int), .int .i64 p.lit.op, .string p.lit.a.rel, .slice o0 p.lit.a.l.length k0, .int .i64 p.lit.x.op, .string p.lit.x.s, .int .i64 p.lit.x.n, .slice o1 p.lit.x.l.length k1, .int .i64 p.lit.y.op, .string p.lit.y.s, .int .i64 p.lit.y.n, .slice o2 p.lit.y.l.length k2, .slice o3 p.x.length k3, .slice o4 p.y.length k4, .slice o5 p.a.length k5, .slice o6 p.rk.length k6, .slice o7 p.ou.length k7] 122) (.cells #[.int .i64 p.lit.y.op, .string p.lit.y.s, .int .i64 p.lit.y.n, .slice o2 p.lit.y.l.length k2] 43) (.cells #[.int .i64 p.lit.x.op, .string p.lit.x.s, .int .i64 p.lit.x.n, .slice o1 p.lit.x.l.length k1] 43))
      have RX0 := Lib.hid (three_2 w (.cells #[.int .i64 (p.place : Int), .int .i64 p.lit.op, .string p.lit.a.rel, .slice o0 p.lit.a.l.length k0, .int .i64 p.lit.x.op, .string p.lit.x.s, .int .i64 p.lit.x.n, .slice o1 p.lit.x.l.length k1, .int .i64 p.lit.y.op, .string p.lit.y.s, .int .i64 p.lit.y.n, .slice o2 p.lit.y.l.length k2, .slice o3 p.x.length k3, .slice o4 p.y.length k4, .slice o5 p.a.length k5, .slice o6 p.rk.length k6, .slice o7 p.ou.length k7] 122) (.cells #[.int .i64 p.lit.y.op, .string p.lit.y.s, .int .i64 p.lit.y.n, .slice o2 p.lit.y.l.length k2] 43) (.cells #[.int .i64 p.lit.x.op, .string p.lit.x.s, .int .i64 p.lit.x.n, .slice o1 p.lit.x.l.length k1] 43))
      go_wp2_with fail
      refine (HLX.out _ B0.out).mono ?_
      rintro e1 w1 ⟨rfl, b1⟩
      have RX1 := Lib.hid ((b1.block _ (heap_lt RX0.out)).trans RX0.out)
      have RY1 := Lib.hid ((b1.block _ (heap_lt RY0.out)).trans RY0.out)
      have B1 := Lib.hid (B0.out.trans (b1.mono B0.out.size))
      obtain ⟨x0, x1, x2, x3⟩ := row4 RX1.out
      obtain ⟨y0, y1, y2, y3⟩ := row4 RY1.out
      have lx1 := heap_lt RX1.out
      have ly1 := heap_lt RY1.out
      clear b1
      cases blx with
      | true =>
        go_wp2_with fail
        refine (HRY.out _ B1.out).mono ?_
        rintro e2 w2 ⟨rfl, b2⟩
        have RX2 := Lib.hid ((b2.block _ (heap_lt RX1.out)).trans RX1.out)
        have RY2 := Lib.hid ((b2.block _ (heap_lt RY1.out)).trans RY1.out)
        have B2 := Lib.hid (B1.out.trans (b2.mono B1.out.size))
        obtain ⟨x0, x1, x2, x3⟩ := row4 RX2.out
        obtain ⟨y0, y1, y2, y3⟩ := row4 RY2.out
        have lx2 := heap_lt RX2.out
        have ly2 := heap_lt RY2.out
        clear b2
        cases bry with
        | true =>
          go_wp2
          go_ret
          exact ⟨rfl, B2.out⟩
        | false =>
          go_wp2_with fail
          refine (HLY.out _ B2.out).mono ?_
          rintro e3 w3 ⟨rfl, b3⟩
          have RX3 := Lib.hid ((b3.block _ (heap_lt RX2.out)).trans RX2.out)
          have RY3 := Lib.hid ((b3.block _ (heap_lt RY2.out)).trans RY2.out)
          have B3 := Lib.hid (B2.out.trans (b3.mono B2.out.size))
          obtain ⟨x0, x1, x2, x3⟩ := row4 RX3.out
          obtain ⟨y0, y1, y2, y3⟩ := row4 RY3.out
          have lx3 := heap_lt RX3.out
          have ly3 := heap_lt RY3.out
          clear b3
          cases bly with
          | true =>
            go_wp2_with fail
            refine (HRX.out _ B3.out).mono ?_
            rintro e4 w4 ⟨rfl, b4⟩
            have RX4 := Lib.hid ((b4.block _ (heap_lt RX3.out)).trans RX3.out)
            have RY4 := Lib.hid ((b4.block _ (heap_lt RY3.out)).trans RY3.out)
            have B4 := Lib.hid (B3.out.trans (b4.mono B3.out.size))
            obtain ⟨x0, x1, x2, x3⟩ := row4 RX4.out
            obtain ⟨y0, y1, y2, y3⟩ := row4 RY4.out
            have lx4 := heap_lt RX4.out
            have ly4 := heap_lt RY4.out
            clear b4
            cases brx with
            | true =>
              go_wp2
              go_ret
              exact ⟨rfl, B4.out⟩
            | false =>
              go_wp2
              go_ret
              exact ⟨rfl, B4.out⟩
          | false =>
            go_wp2
            go_ret
            exact ⟨rfl, B3.out⟩
      | false =>
        go_wp2_with fail
        refine (HLY.out _ B1.out).mono ?_
        rintro e2 w2 ⟨rfl, b2⟩
        have RX2 := Lib.hid ((b2.block _ (heap_lt RX1.out)).trans RX1.out)
        have RY2 := Lib.hid ((b2.block _ (heap_lt RY1.out)).trans RY1.out)
        have B2 := Lib.hid (B1.out.trans (b2.mono B1.out.size))
        obtain ⟨x0, x1, x2, x3⟩ := row4 RX2.out
        obtain ⟨y0, y1, y2, y3⟩ := row4 RY2.out
        have lx2 := heap_lt RX2.out
        have ly2 := heap_lt RY2.out
        clear b2
        cases bly with
        | true =>
          go_wp2_with fail
          refine (HRX.out _ B2.out).mono ?_
          rintro e3 w3 ⟨rfl, b3⟩
          have RX3 := Lib.hid ((b3.block _ (heap_lt RX2.out)).trans RX2.out)
          have RY3 := Lib.hid ((b3.block _ (heap_lt RY2.out)).trans RY2.out)
          have B3 := Lib.hid (B2.out.trans (b3.mono B2.out.size))
          obtain ⟨x0, x1, x2, x3⟩ := row4 RX3.out
          obtain ⟨y0, y1, y2, y3⟩ := row4 RY3.out
          have lx3 := heap_lt RX3.out
          have ly3 := heap_lt RY3.out
          clear b3
          cases brx with
          | true =>
            go_wp2
            go_ret
            exact ⟨rfl, B3.out⟩
          | false =>
            go_wp2
            go_ret
            exact ⟨rfl, B3.out⟩
        | false =>
          go_wp2
          go_ret
          exact ⟨rfl, B2.out⟩
  · have t3 : (p.lit.op == 3) = false := by simp [ho]
    rw [if_neg ho]
    clear ho HLX HLY HRX HRY
    go_enter Tryd.func80, Tryd.ntmps80
    go_wp2_with fail
    go_region
    all_goals
      go_wp2_with fail
      refine (HLT.out _ (three_b w _ _ _)).mono ?_
      rintro e1 w1 ⟨rfl, b1⟩
      have B1 := Lib.hid ((three_b w _ _ _).trans (b1.mono (three_b w _ _ _).size))
      clear b1
      go_wp2
      go_ret
      exact ⟨rfl, B1.out⟩
end Go.Proofs.YtfcfehflocglpaaDoor
namespace Go.Proofs.YtfcfehflocglpaaDoor
open Go.RowKit

theorem info_tm : (Tryd.prog.info? 43).map (fun i => (i.zero, i.size, i.bytes)) = some (some (.agg #[.int .i64 0, .string ⟨#[]⟩, .int .i64 0, .slice none 0 0]), 4, 56) := by kernel_rfl
theorem filt_take {l : List Tm} {k : Nat} {t : Tm} (h : l[k]? = some t) : (l.take (k + 1)).filter rckT = (l.take k).filter rckT ++ (if rckT t = true then [t] else []) := by
  rw [List.take_add_one, h, List.filter_append]
  congr 1
  by_cases ht : rckT t = true
  · rw [if_pos ht]; simp [ht]
  · rw [if_neg ht]; simp [ht]
set_option maxRecDepth 100000 in
set_option maxHeartbeats 8000000 in
theorem rckOf_c (l : List Tm) (v : Value) (w : World) (h : TmS w w.heap.size l v) (hn : l.length ≤ 1000000) :
    Calls Tryd.prog 109 #[v] w fun e w' => ∃ u, e = .returned u ∧ TmS w' w'.heap.size (l.filter rckT) u ∧ Below w.heap.size w w' := by
  obtain ⟨o1, k1, rfl, _, _, S1⟩ := SlOf.open h
  obtain ⟨i0, hi, hz0, hz1, hz2⟩ := info_parts info_tm
  have HN := Lib.hid hn
  clear h hn
  go_enter Tryd.func109, Tryd.ntmps109
  go_wp2
  go_loopw [3, 8] (fun lv i wr => ∃ (k : Nat) (acc : List Tm) (xs : List Value), k ≤ l.length ∧ i = .int .i64 k ∧ (l.take k).filter rckT = acc ∧ wr.ownsRow w.heap.size 43 4 lv acc.length xs ∧ Laid 4 (TmC w w.heap.size) acc xs ∧ Below w.heap.size w wr) (fun _ i _ => l.length - (intOf i).toNat)
  case atStart => exact ⟨0, [], [], Nat.zero_le _, rfl, rfl, World.ownsRow_nil _ _ _ _, Laid.nil, Below.refl _ _⟩
  case round =>
    obtain ⟨k, acc, xs, hk, rfl, hacc, hO, hL, hB⟩ := hrel
    have Hacc := Lib.hid hacc
    have HO := Lib.hid hO
    have HL := Lib.hid hL
    have HB := Lib.hid hB
    have hsz := hB.size
    clear hacc hO hL
    by_cases hlt : k < l.length
    · have hlt' : (k : Int) < (l.length : Int) := by omega
      obtain ⟨t, ht⟩ : ∃ t, l[k]? = some t := ⟨l[k], List.getElem?_eq_getElem hlt⟩
      obtain ⟨cs, hcs⟩ : ∃ cs, TmC w w.heap.size t cs := by
        obtain ⟨a, cs, _, _, _, h1, _⟩ := S1.out k t ht
        exact ⟨cs, h1⟩
      obtain ⟨a, p3, q3, rfl, ha, Hc, c0, c1, c2, c3⟩ := tm_at S1 hB ht
      have hal : (a.add (k * 4)).block < wr.heap.size := by rw [addBlock]; omega
      have hraw : Hid (TmC w w.heap.size t [.int .i64 t.op, .string t.s, .int .i64 t.n, .slice p3 t.l.length q3]) := by
        obtain ⟨a', cs', e', _, _, h1, h2⟩ := S1.out k t ht
        cases e'
        obtain ⟨p', q', rfl, _⟩ := h1.look
        have := (h2.below ha hB).four.2.2.2
        rw [c3] at this
        cases this
        exact Lib.hid h1
      have HC := Lib.hid (fun x : Obj => isRck_c t _ (wr.alloc x).heap.size (wr.alloc x) ((Hc.out.under ((Below.refl _ _).alloc (Nat.le_refl _) x)).more (by simp)))
      have Hst := Lib.hid (filt_take ht)
      have hle : acc.length ≤ k := by
        rw [← Hacc.out]
        exact Nat.le_trans (List.length_filter_le _ _) (by rw [List.length_take]; omega)
      have HR0 := Lib.hid (World.alloc_heap_new wr (.cells #[.int .i64 t.op, .string t.s, .int .i64 t.n, .slice p3 t.l.length q3] 43))
      have HB0 := Lib.hid (HB.out.alloc hsz (.cells #[.int .i64 t.op, .string t.s, .int .i64 t.n, .slice p3 t.l.length q3] 43))
      have HO0 := Lib.hid (HO.out.alloc (.cells #[.int .i64 t.op, .string t.s, .int .i64 t.n, .slice p3 t.l.length q3] 43))
      clear ht hB hcs
      go_wp2_with fail
      refine (HC.out _).mono ?_
      rintro e1 w1 ⟨rfl, b1⟩
      have HR1 := Lib.hid ((b1.block wr.heap.size (by simp)).trans HR0.out)
      have HB1 := Lib.hid (HB0.out.trans (b1.mono (by simp; omega)))
      have HO1 := Lib.hid (own_below HO0.out b1)
      have hz1' : wr.heap.size < w1.heap.size := heap_lt HR1.out
      obtain ⟨y0, y1, y2, y3⟩ := row4 HR1.out
      clear b1 HC c0 c1 c2 c3
      cases hb : rckT t with
      | false =>
        have Hst2 : Hid ((l.take (k + 1)).filter rckT = acc) := Lib.hid (by rw [Hst.out, Hacc.out, hb]; simp)
        clear hb
        go_wp2
        go_roundw
        case rel => exact ⟨k + 1, acc, xs, hlt, by go_num, Hst2.out, HO1.out, HL.out, HB1.out⟩
        case measure => simp [intOf]; omega
      | true =>
        have Hst2 : Hid ((l.take (k + 1)).filter rckT = acc ++ [t]) := Lib.hid (by rw [Hst.out, Hacc.out, hb]; simp)
        have HL2 := Lib.hid (HL.out.snoc rfl hraw.out)
        have HS1 : Hid (acc.length + 1 ≤ maxLen) := Lib.hid (by have := HN.out; unfold maxLen; omega)
        have HS2 : Hid ((acc.length + 1) * 56 ≤ 140737488355328) := Lib.hid (by have := HN.out; omega)
        clear hb
        go_wp2_with (at_builtin; refine wpList_append_own _ rfl (.tmp 14) (.tmp 16) 22 rfl w.heap.size 43 i0 _ 4 56 Tryd.underlying22 hi hz0 hz1 hz2 rfl (by decide) _ acc.length _ rfl (HO1.out.alloc _) _ 1 1 [.int .i64 t.op, .string t.s, .int .i64 t.n, .slice p3 t.l.length q3] rfl rfl (World.news_of_block (World.alloc_heap_new _ _)) (by simp [Value.oneCell']) HS1.out HS2.out (by simp; omega) ?_; intro v' w6 hown' hgrow _; have HG := Lib.hid (grown_past hgrow); have HO6 := Lib.hid hown'; clear hgrow hown')
        go_roundw
        case rel =>
          refine ⟨k + 1, acc ++ [t], _, hlt, by go_num, Hst2.out, ?_, HL2.out, ?_⟩
          · rw [List.length_append]; exact HO6.out
          · exact HB1.out.grown HG.out (by omega) (fun q hq => (HO1.out.lt q hq).1)
        case measure => simp [intOf]; omega
    · have hlt' : ¬ (k : Int) < (l.length : Int) := by omega
      have hS0 := SlOf.more (sl_own0 HO.out HL.out) (Nat.le_refl _) (R' := TmC wr wr.heap.size) (fun x _ cs hx => (hx.under HB.out).more hsz)
      rw [← Hacc.out, List.take_of_length_le (by omega)] at hS0
      have HS := Lib.hid hS0
      obtain ⟨oq, kq, rfl⟩ := own_shape HO.out
      clear hS0
      go_wp2
      go_ret
      exact ⟨_, rfl, HS.out, HB.out⟩
end Go.Proofs.YtfcfehflocglpaaDoor
namespace Go.Proofs.YtfcfehflocglpaaDoor
open Go.RowKit Go.Shelf

attribute [local go_sem] Oper.semAt_some

set_option linter.unusedSimpArgs false in
set_option maxRecDepth 100000 in
set_option maxHeartbeats 8000000 in
theorem zvarsOf_in (l : List Tm) (v : Value) (w : World) (hc : TmS w w.heap.size l v) (hsm : ∀ s ∈ occ (subTs l), s.size ≤ 281474976710656) (hlen : (occ (subTs l)).length ≤ 1000000) :
    CallsIn Fence.wide 6 Tryd.prog 108 #[v] w fun e w' => ∃ v, e = .returned v ∧ w'.ownsRow w.heap.size 9 1 v (onceN (occ (subTs l))).length ((onceN (occ (subTs l))).map Value.string) ∧ Below w.heap.size w w' := by
  have HC := Lib.hid hc
  obtain ⟨o1, k1, rfl, _, _, _⟩ := SlOf.open hc
  have hmm := @run_makeMap Tryd.prog
  clear hc
  refine callsIn_of_wp_marks Tryd.func108 rfl trivial ?_ rfl
  simp only [Tryd.ntmps108, List.size_toArray, List.length_cons, List.length_nil, Nat.reduceAdd, Nat.reduceSub, Array.replicate_succ, Array.replicate_zero, List.push_toArray, List.append_toArray, List.nil_append, List.cons_append]
  obtain ⟨n0, hn0⟩ : ∃ n0, w.heap.size = n0 := ⟨_, rfl⟩
  obtain ⟨i0, hi, hz0, hz1, hz2⟩ := info_parts info_str
  gi_wp2_with fail
  obtain ⟨W4, hW4⟩ : ∃ W4, (((w.alloc (.map #[] 0)).alloc (.cells #[.map (some n0)] 77)).alloc (.cells #[.slice none 0 0] 34)) = W4 := ⟨_, rfl⟩
  have hs4 : W4.heap.size = n0 + 3 := by rw [← hW4]; simp; omega
  have hb4 : Below n0 w W4 := by
    rw [← hW4]
    exact (((Below.refl n0 w).alloc (by omega) _).alloc (by simp; omega) _).alloc (by simp; omega) _
  have bl4 : Boxed W4 (n0 + 1 + 1) 34 (.slice none 0 0) := by
    have := Boxed.new ((w.alloc (.map #[] 0)).alloc (.cells #[.map (some n0)] 77)) 34 (.slice none 0 0)
    rw [hW4] at this
    simpa [hn0] using this
  have bm4 : Boxed W4 (n0 + 1) 77 (.map (some n0)) := by
    have := (Boxed.new (w.alloc (.map #[] 0)) 77 (.map (some n0))).alloc (.cells #[.slice none 0 0] 34)
    rw [show (w.alloc (.map #[] 0)).heap.size = n0 + 1 by simp [hn0], hW4] at this
    exact this
  have M4 : MapI Tryd.prog W4 9 3 n0 0 (fun _ => 0) 0 := by
    have := ((mapI_made Tryd.prog w 9 3).alloc (.cells #[.map (some n0)] 77)).alloc (.cells #[.slice none 0 0] 34)
    rw [hn0, hW4] at this
    exact this
  rw [hW4]
  have HE := Lib.hid (zeach_in 5 o1 l.length k1 W4)
  refine ⟨trivial, HE.out.mono ?_⟩
  rintro e W5 ⟨rfl, hW5⟩
  rw [hs4]
  clear hW4
  gi_wp2_with fail
  rw [← hW5]
  have hs5 : W5.heap.size = n0 + 4 := by rw [hW5]; simp; omega
  have hb45 : Below W4.heap.size W4 W5 := by rw [hW5]; exact (Below.refl _ _).alloc (Nat.le_refl _) _
  have hb5 : Below n0 w W5 := hb4.trans (hb45.mono (by omega))
  have bl5 : Boxed W5 (n0 + 1 + 1) 34 (.slice none 0 0) := (hb45.block _ bl4.lt).trans bl4
  have bm5 : Boxed W5 (n0 + 1) 77 (.map (some n0)) := (hb45.block _ bm4.lt).trans bm4
  have M5 := M4.below hb45 M4.lt
  have mb5 : ∃ o : Obj, W5.heap[n0]? = some o ∧ o.isCells = false := by
    obtain ⟨D, ⟨es, clock, h1, _⟩, _⟩ := M5
    exact ⟨_, h1, rfl⟩
  have row5 : W5.heap[n0 + 3]? = some (.cells #[.slice o1 l.length k1] 22 (0, 0)) := by rw [hW5, ← hs4]; exact World.alloc_heap_new W4 _
  have safe : Safe (SV n0 (n0 + 1 + 1)) (veil (n0 + 1 + 1) W5) W5 := fun p c hp => by
    obtain ⟨h1, h2⟩ := veil_cell hp
    refine ⟨h2, World.block_lt_of_cell? _ _ h2, ?_⟩
    rintro (h3 | h3 | ⟨v, h3, h4⟩)
    · obtain ⟨o, ho, hc⟩ := cells_of_cell h2
      obtain ⟨o', ho', hc'⟩ := mb5
      rw [h3, ho'] at ho
      cases ho
      rw [hc'] at hc
      cases hc
    · exact h1 h3
    · rw [bl5.cell] at h3
      cases h3
      cases h4
  have wf5 : ∀ i, SV n0 (n0 + 1 + 1) W5 i → i < W5.heap.size := by
    rintro i (h3 | h3 | ⟨v, h3, h4⟩)
    · omega
    · omega
    · rw [bl5.cell] at h3
      cases h3
      cases h4
  have hbv : Below n0 w (veil (n0 + 1 + 1) W5) :=
    ⟨hb5.os, hb5.tape, hb5.output, by unfold veil; simpa using hb5.size, fun i hi => (World.putObj_heap_other (by omega)).trans (hb5.block i hi)⟩
  have hcv : TmS (veil (n0 + 1 + 1) W5) n0 l (.slice o1 l.length k1) := by have := HC.out; rw [hn0] at this; exact TmS.below this hbv
  have hBv : (veil (n0 + 1 + 1) W5).cell? ⟨n0 + 3, 0, none⟩ = some (.slice o1 l.length k1) := by
    refine cell_veil ?_ (by show n0 + 3 ≠ _; omega)
    unfold World.cell?
    simp only [row5]
    rfl
  clear hW5 hmm mb5 M4 bl4 bm4 hb45 HE
  refine wpIn_rangeFunc_ownH rfl (by omega) (gf := 115) (lb := #[.pointer (some ⟨n0 + 3, 0, none⟩)]) rfl trivial (enters_of Tryd.func115 (by kernel_rfl) rfl)
    (zeach_stops 5 (n0 + 3) n0 l (.slice o1 l.length k1) (veil (n0 + 1 + 1) W5) W5 (SV n0 (n0 + 1 + 1)) (sv_grow _ _) safe wf5 hBv hcv (G := fun s => s.size ≤ 281474976710656) hsm) (fun h k => h.trans k) ?hKb (Below.refl _ _) (fun _ => rfl)
    (fun pre W => (∃ v, Boxed W (n0 + 1 + 1) 34 v ∧ W.ownsRow n0 9 1 v (onceN (pre.map Ns.s)).length ((onceN (pre.map Ns.s)).map Value.string) ∧ True) ∧ Boxed W (n0 + 1) 77 (.map (some n0)) ∧ (∃ c, MapI Tryd.prog W 9 3 n0 pre.length (fun s => (cntN (pre.map Ns.s) s : Int)) c) ∧ KO (SV n0 (n0 + 1 + 1)) W5 W ∧ Below n0 w W)
    (fun _ _ _ => False) ?hI (fun _ => fun _ _ _ _ h => h.elim) ⟨⟨_, bl5, World.ownsRow_nil _ _ _ _, trivial⟩, bm5, ⟨0, M5⟩, KO.refl _ _, hb5⟩
    (fun x a' W => a' = { tmps := #[.slice o1 l.length k1, undef, .slice none 0 0, .pointer (some ⟨n0 + 1, 0, none⟩), .pointer (some ⟨n0 + 1 + 1, 0, none⟩), .string x.s, .map (some n0), .slice o1 l.length k1, .func (.func 115) #[] #[.pointer (some ⟨n0 + 3, 0, none⟩)], .string x.s, undef, undef, undef, undef, undef, undef, undef, undef, undef, undef, undef, undef, undef], defers := [] })
    ?hAx ?assign ?body ?done ?stop
  case hKb => exact fun W l o o' hl ho hc _ => sv_put W l o o' (by omega) ho hc
  case hI =>
    refine OwnFrom.and (Own.from (holdsRow_own n0 (n0 + 1 + 1) 34 9 1 (fun (pre : List (Ns (fun s => s.size ≤ 281474976710656))) => (onceN (pre.map Ns.s)).length) (fun pre => (onceN (pre.map Ns.s)).map Value.string) (fun _ _ => True)) _) (OwnFrom.and (Own.from (boxed_own (n0 + 1) 77 (fun _ => .map (some n0))) _) ?_)
    rintro pre A B row ⟨⟨c, h1⟩, h2, h3⟩ hg hr
    refine ⟨⟨c, h1.kept hg (fun e => by have := (hr _ e.symm).1; omega)⟩, h2.trans ?_, ownFrom_below (β := Unit) (by rw [hn0]; exact Nat.le_refl _) (by omega) () A B row h3 hg hr⟩
    have hL : n0 + 1 + 1 < A.heap.size := by have := h2.size; omega
    have hcell : B.cell? ⟨n0 + 1 + 1, 0, none⟩ = A.cell? ⟨n0 + 1 + 1, 0, none⟩ := World.cell?_of_block (hg.block _ hL (fun e => by have h := (hr _ e.symm).1; change W5.heap.size ≤ n0 + 1 + 1 at h; omega))
    refine ⟨hg.size, fun i o ho hc _ => (hg.block i (Array.getElem?_eq_some_iff.1 ho).1 (fun e => ?_)).trans ho, fun i h => .inl (sv_cell hcell i h), fun hw i hi => Nat.lt_of_lt_of_le (hw i (sv_cell hcell i hi)) hg.size⟩
    obtain ⟨_, o', ho', hc'⟩ := hr _ e.symm
    rw [ho] at ho'
    cases ho'
    rw [hc] at hc'
    cases hc'
  case hAx => exact fun x a' _ A B row h _ _ => h
  case assign =>
    rintro lp pre ⟨s, gd'⟩ W K hI hK
    have HK := Lib.hid (hK _ W (KeepsFrom.refl _ _) (KO.refl _ _) hI rfl)
    clear hK hI
    simp only [Ns.enc]
    gi_wp2
    exact HK.out
  case body =>
    rintro lp pre ⟨s, gd'⟩ a' W hlp hrec ⟨⟨v, h1, h2, _⟩, h3, ⟨c, h4⟩, h5, h6⟩ rfl hlen2
    have hsz : s.size ≤ maxLen := Nat.le_trans gd' (by decide)
    have hm3 := h3.cell
    have hl3 := h3.lt
    have hlc := h1.cell
    have hll := h1.lt
    have Hm := Lib.hid h4
    have hcl : cntN (pre.map Ns.s) s.data.toList ≤ pre.length := by have := cntN_le (pre.map Ns.s) s.data.toList; rwa [List.length_map] at this
    have hct0 : (0 : Int) ≤ (cntN (pre.map Ns.s) s.data.toList : Int) := by omega
    have hct1 : (cntN (pre.map Ns.s) s.data.toList : Int) ≤ 1000000 := by omega
    have hvM : v.ownBlock ≠ some n0 := by
      intro e
      rcases h2.2 with ⟨rfl, _⟩ | ⟨g, cap, cur, rfl, _, hg, _⟩
      · cases e
      · obtain rfl : g = n0 := by simpa [Value.ownBlock] using e
        obtain ⟨D, ⟨es, clock, hm, _⟩, _⟩ := h4
        rw [hm] at hg
        cases hg
    have hf : updF (fun s => (cntN (pre.map Ns.s) s : Int)) s.data.toList ((cntN (pre.map Ns.s) s.data.toList : Int) + 1) = fun n => (cntN (pre.map Ns.s ++ [s]) n : Int) := by
      funext n
      rw [cntN_snoc]
      by_cases e : n = s.data.toList
      · subst e; rw [updF_same, if_pos rfl]; omega
      · rw [updF_other _ _ e, if_neg (fun h => e h.symm)]; omega
    have zE : ∀ w : World, (zeroValue 3).run Tryd.prog w = .ok (.int .i64 0) w := fun w => by kernel_rfl
    have H1 := Lib.hid h1
    have H2 := Lib.hid h2
    have H3 := Lib.hid h3
    have H5 := Lib.hid h5
    have H6 := Lib.hid h6
    have HvM := Lib.hid hvM
    have Hf := Lib.hid hf
    clear h1 h2 h3 h4 h5 h6 hvM hf
    by_cases hz0 : cntN (pre.map Ns.s) s.data.toList = 0
    · have hq : (((cntN (pre.map Ns.s) s.data.toList : Nat) : Int) + 1 == 1) = true := by rw [hz0]; rfl
      have hst : onceN (pre.map Ns.s ++ [s]) = onceN (pre.map Ns.s) ++ [s] := by rw [onceN_snoc, if_pos hz0]
      have Hst := Lib.hid hst
      have hL1 : (onceN (pre.map Ns.s)).length ≤ 1000000 := by have := onceN_len (pre.map Ns.s); rw [List.length_map] at this; omega
      have HS1 : Hid ((onceN (pre.map Ns.s)).length + 1 ≤ maxLen) := Lib.hid (by unfold maxLen; omega)
      have HS2 : Hid (((onceN (pre.map Ns.s)).length + 1) * 16 ≤ 140737488355328) := Lib.hid (by omega)
      have hn0w : n0 ≤ W.heap.size := by omega
      clear hz0 hst hL1
      gi_wp2_with (first
        | (gi_at_mapUpdate; refine wpListIn_mapI_put _ rfl _ _ _ 77 rfl 9 3 Tryd.underlying77 Tryd.underlying9 Tryd.underlying3 n0 pre.length (fun s => (cntN (pre.map Ns.s) s : Int)) c rfl Hm.out (by unfold maxLen; omega) s ((cntN (pre.map Ns.s) s.data.toList : Int) + 1) rfl rfl hsz (by omega) (WalkArith.wf_i64 (by omega)) ?_; intro w1 hM hg; rw [Hf.out] at hM; have hM1 := Lib.hid hM; have hg1 := Lib.hid hg; have m3' : w1.cell? ⟨n0 + 1, 0, none⟩ = some (.map (some n0)) := (H3.out.kept hg (fun e => by have := Option.some.inj e; omega)).cell; have lc' : w1.cell? ⟨n0 + 1 + 1, 0, none⟩ = some v := (H1.out.kept hg (fun e => by have := Option.some.inj e; omega)).cell; have hl3' : n0 + 1 < w1.heap.size := Nat.lt_of_lt_of_le hl3 hg.size; have hll' : n0 + 1 + 1 < w1.heap.size := Nat.lt_of_lt_of_le hll hg.size; have O1 := Lib.hid (H2.out.kept hg (.inr HvM.out)); clear hM hg)
        | (gi_at_lookup; refine wpListIn_mapI_get _ rfl _ _ 77 rfl 9 3 Tryd.underlying77 Tryd.underlying9 Tryd.underlying3 (zE _) n0 pre.length (fun s => (cntN (pre.map Ns.s) s : Int)) c rfl Hm.out s rfl hsz ?_; intro _)
        | (gi_at_lookup; refine wpListIn_mapI_get _ rfl _ _ 77 rfl 9 3 Tryd.underlying77 Tryd.underlying9 Tryd.underlying3 (zE _) n0 (pre.length + 1) (fun n => (cntN (pre.map Ns.s ++ [s]) n : Int)) _ rfl hM1.out s rfl hsz ?_; intro _; rw [show ((cntN (pre.map Ns.s ++ [s]) s.data.toList : Nat) : Int) = (cntN (pre.map Ns.s) s.data.toList : Int) + 1 from (congrFun Hf.out s.data.toList).symm.trans (updF_same _ _ _)])
        | (gi_at_builtin; refine wpListIn_append_own_at _ rfl _ _ 34 rfl n0 9 i0 _ 1 16 Tryd.underlying34 hi hz0 hz1 hz2 rfl (by decide) v (onceN (pre.map Ns.s)).length _ rfl (O1.out.alloc _) _ 1 1 [.string s] rfl rfl (news_one _ _ _) (one_str _) HS1.out HS2.out (by have := hg1.out.size; simp; omega) ?_; intro v' w2 hown' hgrow _ hat; obtain ⟨ov, cv, rfl⟩ := own_shape hown'; have HAp := Lib.hid ((H1.out.kept hg1.out (fun e => by have := Option.some.inj e; omega)).appended (by decide) O1.out (by have := hg1.out.size; omega) (by omega) hown' hgrow); have G2 := Lib.hid (grown_past hgrow); have Hat := Lib.hid hat; have lc2 := HAp.out.1.cell; have lf2 := HAp.out.1.frozen; have ll2 := HAp.out.1.lt; have O2 := Lib.hid hown'; clear hown' hgrow hat))
      have W1 : W.grownBy w1 (some n0) := hg1.out
      have B1 : Boxed w1 (n0 + 1 + 1) 34 v := H1.out.kept W1 (fun e => by have := Option.some.inj e; omega)
      have K1 : KO (SV n0 (n0 + 1 + 1)) W w1 := sv_step (v := v) (v' := v) W1.size (fun i hi h1 _ _ => W1.block i hi (fun e => h1 (Option.some.inj e))) H1.out.cell B1.cell (.inl rfl)
      have D1 : Below n0 w w1 := H6.out.grown W1 (by have := H6.out.size; omega) (fun k e => by have := Option.some.inj e; omega)
      have F1 : KeepsFrom (n0 + 4) W w1 := KeepsFrom.of_grownBy W1 (fun j e => by have := Option.some.inj e; omega)
      have M1 : Boxed w1 (n0 + 1) 77 (.map (some n0)) := H3.out.kept W1 (fun e => by have := Option.some.inj e; omega)
      obtain ⟨B2, B3, O3, K3, D3⟩ := HAp.out
      have hsz3 : (w2.setCell ⟨n0 + 1 + 1, 0, none⟩ (.slice ov ((onceN (pre.map Ns.s)).length + 1) cv)).heap.size = w2.heap.size := by simp
      have hsz2 : w1.heap.size ≤ w2.heap.size := G2.out.size
      have hbk : ∀ i, i < w1.heap.size → i ≠ n0 → i ≠ n0 + 1 + 1 → some i ≠ v.ownBlock → (w2.setCell ⟨n0 + 1 + 1, 0, none⟩ (.slice ov ((onceN (pre.map Ns.s)).length + 1) cv)).heap[i]? = w1.heap[i]? := fun i hi _ h2 h3 => (Below.heap_setCell _ _ _ i (fun e => h2 e)).trans (G2.out.block i hi h3)
      have K2 : KO (SV n0 (n0 + 1 + 1)) w1 (w2.setCell ⟨n0 + 1 + 1, 0, none⟩ (.slice ov ((onceN (pre.map Ns.s)).length + 1) cv)) := sv_step (by rw [hsz3]; exact hsz2) hbk B1.cell B3.cell (Hat.out.imp id fun h => ⟨_, h, by simp, by
        have := (O3.lt _ h).2
        exact this⟩)
      have N2 : (w2.setCell ⟨n0 + 1 + 1, 0, none⟩ (.slice ov ((onceN (pre.map Ns.s)).length + 1) cv)).heap[n0]? = w1.heap[n0]? := (Below.heap_setCell _ _ _ n0 (fun e => by simp at e; omega)).trans (G2.out.block n0 (by have := D1.size; omega) (fun e => HvM.out e.symm))
      have M2 : Boxed (w2.setCell ⟨n0 + 1 + 1, 0, none⟩ (.slice ov ((onceN (pre.map Ns.s)).length + 1) cv)) (n0 + 1) 77 (.map (some n0)) := (hbk (n0 + 1) (by omega) (by omega) (by omega) (M1.not_row (by decide) O1.out)).trans M1
      have F3 : KeepsFrom W5.heap.size W (w2.setCell ⟨n0 + 1 + 1, 0, none⟩ (.slice ov ((onceN (pre.map Ns.s)).length + 1) cv)) := by rw [hs5]; exact F1.trans (K3.from _)
      refine ⟨F3, K1.trans K2, ?_⟩
      simp only [List.map_append, List.map_cons, List.map_nil, List.length_append, List.length_cons, List.length_nil, Hst.out]
      exact ⟨⟨_, B3, O3, trivial⟩, M2, ⟨_, mapI_block hM1.out N2⟩, (H5.out.trans K1).trans K2, D1.trans D3⟩
    · have hq : (((cntN (pre.map Ns.s) s.data.toList : Nat) : Int) + 1 == 1) = false := by
        rw [beq_eq_false_iff_ne]
        omega
      have hst : onceN (pre.map Ns.s ++ [s]) = onceN (pre.map Ns.s) := by rw [onceN_snoc, if_neg hz0]
      have Hst := Lib.hid hst
      clear hst
      gi_wp2_with (first
        | (gi_at_mapUpdate; refine wpListIn_mapI_put _ rfl _ _ _ 77 rfl 9 3 Tryd.underlying77 Tryd.underlying9 Tryd.underlying3 n0 pre.length (fun s => (cntN (pre.map Ns.s) s : Int)) c rfl Hm.out (by unfold maxLen; omega) s ((cntN (pre.map Ns.s) s.data.toList : Int) + 1) rfl rfl hsz (by omega) (WalkArith.wf_i64 (by omega)) ?_; intro w1 hM hg; rw [Hf.out] at hM; have hM1 := Lib.hid hM; have hg1 := Lib.hid hg; have m3' : w1.cell? ⟨n0 + 1, 0, none⟩ = some (.map (some n0)) := (H3.out.kept hg (fun e => by have := Option.some.inj e; omega)).cell; have hl3' : n0 + 1 < w1.heap.size := Nat.lt_of_lt_of_le hl3 hg.size; clear hM hg)
        | (gi_at_lookup; refine wpListIn_mapI_get _ rfl _ _ 77 rfl 9 3 Tryd.underlying77 Tryd.underlying9 Tryd.underlying3 (zE _) n0 pre.length (fun s => (cntN (pre.map Ns.s) s : Int)) c rfl Hm.out s rfl hsz ?_; intro _)
        | (gi_at_lookup; refine wpListIn_mapI_get _ rfl _ _ 77 rfl 9 3 Tryd.underlying77 Tryd.underlying9 Tryd.underlying3 (zE _) n0 (pre.length + 1) (fun n => (cntN (pre.map Ns.s ++ [s]) n : Int)) _ rfl hM1.out s rfl hsz ?_; intro _; rw [show ((cntN (pre.map Ns.s ++ [s]) s.data.toList : Nat) : Int) = (cntN (pre.map Ns.s) s.data.toList : Int) + 1 from (congrFun Hf.out s.data.toList).symm.trans (updF_same _ _ _)]))
      have W1 : W.grownBy w1 (some n0) := hg1.out
      have B1 : Boxed w1 (n0 + 1 + 1) 34 v := H1.out.kept W1 (fun e => by have := Option.some.inj e; omega)
      have O1 := H2.out.kept W1 (.inr HvM.out)
      have K1 : KO (SV n0 (n0 + 1 + 1)) W w1 := sv_step (v := v) (v' := v) W1.size (fun i hi h1 _ _ => W1.block i hi (fun e => h1 (Option.some.inj e))) H1.out.cell B1.cell (.inl rfl)
      have D1 : Below n0 w w1 := H6.out.grown W1 (by have := H6.out.size; omega) (fun k e => by have := Option.some.inj e; omega)
      have F1 : KeepsFrom W5.heap.size W w1 := by rw [hs5]; exact KeepsFrom.of_grownBy W1 (fun j e => by have := Option.some.inj e; omega)
      have M1 : Boxed w1 (n0 + 1) 77 (.map (some n0)) := H3.out.kept W1 (fun e => by have := Option.some.inj e; omega)
      refine ⟨F1, K1, ?_⟩
      simp only [List.map_append, List.map_cons, List.map_nil, List.length_append, Hst.out]
      exact ⟨⟨v, B1, O1, trivial⟩, M1, ⟨_, hM1.out⟩, H5.out.trans K1, D1⟩
  case done =>
    rintro D ys W hD hys ⟨⟨v, h1, h2, _⟩, h3, ⟨c, h4⟩, h5, h6⟩ hK
    rw [hys] at h2
    have hDl : D < W.heap.size := (Array.getElem?_eq_some_iff.1 hK).1
    have hm3 := h1.cell
    have hll := h1.lt
    have hne : n0 + 1 + 1 ≠ D := by omega
    have Hd := Lib.hid hK
    have H2 := Lib.hid h2
    have H6 := Lib.hid h6
    obtain ⟨ov, cv, rfl⟩ := own_shape h2
    clear h1 h2 h3 h4 h5 h6 hK
    gi_wp2
    refine ⟨by simp, .inl ⟨_, _, rfl, run_takeDeferred Hd.out, ?_⟩⟩
    refine ⟨_, results_tmp rfl _ _ _, _, rfl, ?_, ?_⟩
    · rw [hn0]
      refine H2.out.kept (⟨rfl, rfl, rfl, by simp, fun i hi he => World.putObj_heap_other (fun e => he (by rw [e]))⟩ : W.grownBy (W.putObj D (.deferred none)) (some D)) (.inr fun e => ?_)
      rcases H2.out.2 with ⟨h0, _⟩ | ⟨g, cap, cur, h0, _, hg, _⟩
      · rw [h0] at e; cases e
      · rw [h0] at e
        obtain rfl : g = D := by simpa [Value.ownBlock] using e
        have h := Hd.out
        rw [hg] at h
        cases h
    · rw [hn0]
      have D6 := H6.out
      exact ⟨D6.os, D6.tape, D6.output, by simpa using D6.size, fun i hi => (World.putObj_heap_other (by omega)).trans (D6.block i hi)⟩
  case stop => exact fun _ _ _ _ _ _ h => h.elim
end Go.Proofs.YtfcfehflocglpaaDoor
namespace Go.Proofs.YtfcfehflocglpaaDoor
open Go.RowKit

theorem goZ_left {s u : ZS} {p : Pt} (h : goZ s = some (p, u)) : ∃ i, nextZ s = some i ∧ s.left[i]? = some p ∧ u = s.step i p := by
  unfold goZ at h
  cases hn : nextZ s with
  | none => rw [hn] at h; cases h
  | some i =>
    rw [hn] at h
    simp only [Option.bind_some, Option.map_eq_some_iff] at h
    obtain ⟨q, hq, e⟩ := h
    cases e
    exact ⟨i, rfl, hq, rfl⟩
theorem erase_perm {α : Type} : ∀ {l : List α} {i : Nat} {p : α}, l[i]? = some p → (p :: l.eraseIdx i).Perm l
  | x :: l, 0, p, h => by
    have : x = p := by simpa using h
    subst this
    exact List.Perm.refl _
  | x :: l, i + 1, p, h => by
    have := (erase_perm (l := l) (i := i) (p := p) (by simpa using h)).cons x
    exact (List.Perm.swap x p (l.eraseIdx i)).trans this
theorem seqZ_perm : ∀ (k : Nat) (s : ZS), ((seqZ k s).1.map (·.1) ++ (seqZ k s).2.left).Perm s.left
  | 0, s => by simp [seqZ]
  | k + 1, s => by
    rw [seqZ]
    cases hs : goZ s with
    | none => simp
    | some q =>
      obtain ⟨p, u⟩ := q
      obtain ⟨i, _, hp, rfl⟩ := goZ_left hs
      simp only [List.map_cons, List.cons_append]
      have h1 := (seqZ_perm k (s.step i p)).cons p
      refine h1.trans ?_
      exact erase_perm hp
theorem places_range (r : Ru) : (partsZ r).map Pt.place = List.range r.body.length := by
  refine List.ext_getElem? fun i => ?_
  unfold partsZ
  rw [List.getElem?_map, List.getElem?_mapIdx]
  by_cases hi : i < r.body.length
  · rw [List.getElem?_eq_getElem hi, List.getElem?_eq_getElem (by simpa using hi)]
    simp [ptZ]
  · rw [List.getElem?_eq_none (by omega), List.getElem?_eq_none (by simpa using hi)]
    rfl
/-- The places of the parts in their order, as numbers. -/
def ordN (r : Ru) : List Nat := (walkZ r).1.map fun x => x.1.place
theorem orderZ_eq (r : Ru) : orderZ r = (ordN r).map fun k : Nat => (k : Int) := by unfold orderZ ordN; rw [List.map_map]; rfl
theorem ord_perm (r : Ru) : (ordN r ++ (walkZ r).2.left.map Pt.place).Perm (List.range r.body.length) := by
  have h := (seqZ_perm r.body.length (zs0 r)).map Pt.place
  rw [List.map_append, List.map_map] at h
  have e : (zs0 r).left.map Pt.place = List.range r.body.length := places_range r
  rw [e] at h
  exact h
theorem ord_nodup (r : Ru) : (ordN r).Nodup := (List.nodup_append.1 ((ord_perm r).nodup_iff.2 List.nodup_range)).1
theorem ord_lt {r : Ru} {k : Nat} (h : k ∈ ordN r) : k < r.body.length := List.mem_range.1 ((ord_perm r).subset (List.mem_append_left _ h))
theorem ord_len_le (r : Ru) : (ordN r).length ≤ r.body.length := by
  have := (ord_perm r).length_eq
  rw [List.length_append, List.length_range] at this
  omega
theorem come_mem {r : Ru} : comeZ r = true ↔ ∀ k, k < r.body.length → k ∈ ordN r := by
  unfold comeZ
  rw [List.all_eq_true]
  constructor
  · intro h k hk
    have := of_decide_eq_true (h k (List.mem_range.2 hk))
    rw [orderZ_eq] at this
    obtain ⟨j, hj, e⟩ := List.mem_map.1 this
    obtain rfl : j = k := Int.ofNat.inj e
    exact hj
  · intro h k hk
    refine decide_eq_true ?_
    rw [orderZ_eq]
    exact List.mem_map.2 ⟨k, h k (List.mem_range.1 hk), rfl⟩
theorem sub_len : ∀ {l m : List Nat}, l.Nodup → (∀ x ∈ l, x ∈ m) → l.length ≤ m.length
  | [], _, _, _ => Nat.zero_le _
  | x :: l, m, hn, hs => by
    have hx := hs x (List.mem_cons_self ..)
    have hn' := List.nodup_cons.1 hn
    have := sub_len (m := m.erase x) hn'.2 (fun y hy => (List.mem_erase_of_ne (by rintro rfl; exact hn'.1 hy)).2 (hs y (List.mem_cons_of_mem _ hy)))
    rw [List.length_erase_of_mem hx] at this
    have := List.length_pos_of_mem hx
    simp only [List.length_cons]
    omega
theorem come_len {r : Ru} : comeZ r = true ↔ (ordN r).length = r.body.length := by
  rw [come_mem]
  constructor
  · intro h
    have h1 := sub_len (l := List.range r.body.length) (m := ordN r) List.nodup_range fun k hk => h k (List.mem_range.1 hk)
    rw [List.length_range] at h1
    have := ord_len_le r
    omega
  · intro h k hk
    have hp := ord_perm r
    have hl := hp.length_eq
    rw [List.length_append, List.length_range] at hl
    have h0 : (walkZ r).2.left.map Pt.place = [] := List.eq_nil_of_length_eq_zero (by omega)
    rw [h0, List.append_nil] at hp
    exact hp.symm.subset (List.mem_range.2 hk)

/-! ### no parts -/
theorem walk_none {r : Ru} (h : r.body = []) : walkZ r = ([], zs0 r) := by unfold walkZ; rw [h]; rfl
theorem order_none {r : Ru} (h : r.body = []) : orderZ r = [] ∧ invZ r = false ∧ comeZ r = true := by
  refine ⟨by unfold orderZ; rw [walk_none h]; rfl, by unfold invZ; rw [walk_none h]; rfl, by unfold comeZ; rw [h]; rfl⟩
theorem vz_mem {l : List Tm} {s : ByteArray} : s ∈ vz l ↔ s ∈ occ (subTs l) := onceN_mem _ _
theorem occ_mem {l : List Tm} {s : ByteArray} : s ∈ occ l ↔ ∃ t ∈ l, t.op = 1 ∧ t.s = s := by
  unfold occ
  rw [List.mem_map]
  constructor
  · rintro ⟨t, ht, e⟩
    obtain ⟨h1, h2⟩ := List.mem_filter.1 ht
    exact ⟨t, h1, by simpa using h2, e⟩
  · rintro ⟨t, h1, h2, e⟩
    exact ⟨t, List.mem_filter.2 ⟨h1, by simpa using h2⟩, e⟩
end Go.Proofs.YtfcfehflocglpaaDoor
namespace Go.Proofs.YtfcfehflocglpaaDoor
open Go.RowKit

/-- Names that are short enough, and few. -/
structure FewT (l : List Tm) : Prop where
  s : ∀ s ∈ occ (subTs l), s.size ≤ 281474976710656
  n : (occ (subTs l)).length ≤ 300000
theorem vz_len (l : List Tm) : (vz l).length ≤ (occ (subTs l)).length := onceN_len _
theorem vz_max {l : List Tm} (h : FewT l) : ∀ s ∈ vz l, s.size ≤ maxLen := fun s hs => Nat.le_trans (h.s s (vz_mem.1 hs)) (by decide)
/-- varsOf, as a list that lies. -/
theorem vz_c (l : List Tm) (v : Value) (w : World) (hc : TmS w w.heap.size l v) (hf : FewT l) : Calls Tryd.prog 108 #[v] w (VarsR (vz l) w.heap.size w) := by
  refine (callsIn_wide.1 (zvarsOf_in l v w hc hf.s (by have := hf.n; omega))).mono ?_
  rintro e w' ⟨v', rfl, h1, h2⟩
  exact ⟨v', rfl, sl_row (R := StrC) h1 (fun s hs => ⟨rfl, vz_max hf s hs⟩), h2⟩
/-- Names in a row of one's own. -/
def OwnR (l : List ByteArray) (n0 : Nat) (w : World) (e : Ending) (w' : World) : Prop := ∃ v, e = .returned v ∧ w'.ownsRow n0 9 1 v l.length (l.map Value.string) ∧ Below n0 w w'
theorem own_base {w : World} {b b' : Nat} {e : TypeId} {z : Nat} {v : Value} {n : Nat} {xs : List Value} (h : w.ownsRow b e z v n xs) (hb : b' ≤ b) : w.ownsRow b' e z v n xs :=
  ⟨h.1, h.2.imp id fun ⟨g, cap, cur, h1, h2, h3⟩ => ⟨g, cap, cur, h1, Nat.le_trans hb h2, h3⟩⟩
theorem vzO_c (l : List Tm) (v : Value) (w : World) (hc : TmS w w.heap.size l v) (hf : FewT l) : Calls Tryd.prog 108 #[v] w (OwnR (vz l) w.heap.size w) := callsIn_wide.1 (zvarsOf_in l v w hc hf.s (by have := hf.n; omega))
def outF (F : List UInt8 → Int) (l : List Tm) : List ByteArray := (vz l).filter fun s => decide (1 < F s.data.toList)
theorem fil_take {α : Type} {f : α → Bool} {l : List α} {k : Nat} {t : α} (h : l[k]? = some t) : (l.take (k + 1)).filter f = (l.take k).filter f ++ (if f t = true then [t] else []) := by
  rw [List.take_add_one, h, List.filter_append]
  congr 1
  by_cases ht : f t = true
  · rw [if_pos ht]; simp [ht]
  · rw [if_neg ht]; simp [ht]
set_option maxRecDepth 100000 in
set_option maxHeartbeats 8000000 in
theorem outerOf_c (l : Lt) (cs : List Value) (M n c : Nat) (F : List UInt8 → Int) (w : World) (hc : LtC w w.heap.size l cs) (hM : MapI Tryd.prog w 9 3 M n F c) (hf : FewT l.a.l) :
    Calls Tryd.prog 111 #[.agg cs.toArray, .map (some M)] w (OwnR (outF F l.a.l) w.heap.size w) := by
  have hMl := hM.lt
  have zE : ∀ w : World, (zeroValue 3).run Tryd.prog w = .ok (.int .i64 0) w := fun w => by kernel_rfl
  obtain ⟨i0, hi, hz0, hz1, hz2⟩ := info_parts info_str
  obtain ⟨o0, k0, o1, k1, o2, k2, rfl, _, ha, _, _⟩ := hc.look
  have ha' : TmS w w.heap.size l.a.l (.slice o0 l.a.l.length k0) := by obtain ⟨v, e, _, h⟩ := ha; cases e; exact h
  have HV := Lib.hid (fun x : Obj => vz_c l.a.l _ (w.alloc x) ((ha'.below ((Below.refl _ _).alloc (Nat.le_refl _) x)).more (by simp)) hf)
  have HM := Lib.hid (fun (W : World) (hb : Below w.heap.size w W) => hM.below hb hMl)
  have HB0 := Lib.hid (fun x : Obj => (Below.refl w.heap.size w).alloc (Nat.le_refl _) x)
  have HVm := Lib.hid (vz_max hf)
  have HLn : Hid ((vz l.a.l).length ≤ 300000) := Lib.hid (Nat.le_trans (vz_len _) hf.n)
  unfold outF
  obtain ⟨N, hN⟩ : ∃ N, vz l.a.l = N := ⟨_, rfl⟩
  rw [hN] at HV HVm HLn ⊢
  clear hc hM ha ha' hf hN
  go_enter Tryd.func111, Tryd.ntmps111
  go_wp2_with fail
  refine (HV.out _).mono ?_
  rintro e1 w1 ⟨v1, rfl, hS1, b1⟩
  have HB1 := Lib.hid ((HB0.out _).trans (b1.mono (by simp)))
  have hz1' := HB1.out.size
  obtain ⟨o3, k3, rfl, _, _, S3⟩ := SlOf.open hS1
  clear b1 hS1 HV
  go_wp2_with fail
  go_loopw [5, 13] (fun lv i wr => ∃ (k : Nat) (acc : List ByteArray), k ≤ N.length ∧ i = .int .i64 k ∧ (N.take k).filter (fun s => decide (1 < F s.data.toList)) = acc ∧ wr.ownsRow w1.heap.size 9 1 lv acc.length (acc.map Value.string) ∧ Below w1.heap.size w1 wr) (fun _ i _ => N.length - (intOf i).toNat)
  case atStart => exact ⟨0, [], Nat.zero_le _, rfl, rfl, World.ownsRow_nil _ _ _ _, Below.refl _ _⟩
  case round =>
    obtain ⟨k, acc, hk, rfl, hacc, hO, hB⟩ := hrel
    have Hacc := Lib.hid hacc
    have HO := Lib.hid hO
    have HB := Lib.hid hB
    have hsz := hB.size
    clear hacc hO
    by_cases hlt : k < N.length
    · have hlt' : (k : Int) < (N.length : Int) := by omega
      obtain ⟨x, hx⟩ : ∃ x, N[k]? = some x := ⟨N[k], List.getElem?_eq_getElem hlt⟩
      obtain ⟨p, rfl, hp, hxs, c0⟩ := str_at S3 hB hx
      have hpl : (p.add k).block < wr.heap.size := by rw [addBlock]; omega
      have Hst := Lib.hid (fil_take (f := fun s : ByteArray => decide (1 < F s.data.toList)) hx)
      have hle : acc.length ≤ k := by
        rw [← Hacc.out]
        exact Nat.le_trans (List.length_filter_le _ _) (by rw [List.length_take]; omega)
      have HMr := Lib.hid (HM.out wr (HB1.out.trans (hB.mono hz1')))
      clear hx hB
      by_cases hb : 1 < F x.data.toList
      · have hb' : decide (1 < F x.data.toList) = true := by simp [hb]
        have Hst2 : Hid ((N.take (k + 1)).filter (fun s => decide (1 < F s.data.toList)) = acc ++ [x]) := Lib.hid (by rw [Hst.out, Hacc.out, if_pos hb'])
        have HS1 : Hid (acc.length + 1 ≤ maxLen) := Lib.hid (by have := HLn.out; unfold maxLen; omega)
        have HS2 : Hid ((acc.length + 1) * 16 ≤ 140737488355328) := Lib.hid (by have := HLn.out; omega)
        go_wp2_with (first
          | (at_lookup; refine wpList_mapI_get _ rfl _ _ 77 rfl 9 3 Tryd.underlying77 Tryd.underlying9 Tryd.underlying3 (zE _) M n F c rfl HMr.out x rfl hxs ?_; intro _)
          | (at_builtin; refine wpList_append_own _ rfl (.tmp 21) (.tmp 23) 34 rfl w1.heap.size 9 i0 _ 1 16 Tryd.underlying34 hi hz0 hz1 hz2 rfl (by decide) _ acc.length _ rfl (HO.out.alloc _) _ 1 1 [.string x] rfl rfl (news_one _ _ _) (one_str _) HS1.out HS2.out (by simp; omega) ?_; intro v' w6 hown' hgrow _; have HG := Lib.hid (grown_past hgrow); have HO6 := Lib.hid hown'; clear hgrow hown'))
        go_roundw
        case rel =>
          refine ⟨k + 1, acc ++ [x], hlt, by go_num, Hst2.out, ?_, ?_⟩
          · rw [List.length_append, List.map_append]; exact HO6.out
          · exact HB.out.grown HG.out hsz (fun q hq => (HO.out.lt q hq).1)
        case measure => simp [intOf]; omega
      · have hb' : decide (1 < F x.data.toList) = false := by simp [hb]
        have Hst2 : Hid ((N.take (k + 1)).filter (fun s => decide (1 < F s.data.toList)) = acc) := Lib.hid (by rw [Hst.out, Hacc.out, hb']; simp)
        go_wp2_with (at_lookup; refine wpList_mapI_get _ rfl _ _ 77 rfl 9 3 Tryd.underlying77 Tryd.underlying9 Tryd.underlying3 (zE _) M n F c rfl HMr.out x rfl hxs ?_; intro _)
        go_roundw
        case rel => exact ⟨k + 1, acc, hlt, by go_num, Hst2.out, HO.out, HB.out⟩
        case measure => simp [intOf]; omega
    · have hlt' : ¬ (k : Int) < (N.length : Int) := by omega
      have hN2 : N.filter (fun s => decide (1 < F s.data.toList)) = acc := by rw [← Hacc.out, List.take_of_length_le (by omega)]
      have hS := own_base HO.out hz1'
      rw [← hN2] at hS
      have HS := Lib.hid hS
      have HBz := Lib.hid (HB1.out.trans (HB.out.mono hz1'))
      obtain ⟨oq, kq, rfl⟩ := own_shape HO.out
      clear hS hN2 hB
      go_wp2
      go_ret
      exact ⟨_, rfl, HS.out, HBz.out⟩
end Go.Proofs.YtfcfehflocglpaaDoor
