/- Sd@012, Se@012 -/
import Derived.Test.YtfmldnbcjbflbaaGreatDoorQ33
set_option linter.unusedSimpArgs false
set_option linter.unusedVariables false
namespace Go.Proofs.YtfmldnbcjbflbaaGreatDoor
open Lib(hid)
open Go.RowKit
set_option maxRecDepth 100000 in
set_option maxHeartbeats 16000000 in
theorem ready6_c (r:Ru) (k:Nat) (l:Lt) (B:List ByteArray) (w:World) (cs:List Value) (v:Value) (hc:RuC w w.heap.size r cs) (hr:rightR r=true) (hn:(termsR r).length+r.body.length≤1000000) (hk:r.body[k]?=some l) (hb:SlOf w w.heap.size 1 StrC B v) :
  Calls Tryz.prog 118 #[.agg cs.toArray,.int .i64 (k:Int),v] w fun e w'=>e=.returned (.bool (ready6 r k l B))∧Below w.heap.size w w':=by
 have HOu:=hid (fun (W:World) (hb:Below w.heap.size w W)=>outer6_c r k l W cs ((hc.below hb).more hb.size) hr hn hk)
 have HWi:=hid (fun (M:List ByteArray) (u:Value) (W:World) (hb2:Below w.heap.size w W) (hu:SlOf W W.heap.size 1 StrC M u)=>within6_c M B u v W hu (SlOf.str hb hb2 hb2.size))
 obtain⟨o0,k0,o1,k1,rfl,_,hh,hbd⟩:=hc.look
 obtain⟨o2,k2,e2,hc1,hm1,S1⟩:=SlOf.open hbd
 cases e2
 have hkl:=(List.getElem?_eq_some_iff.1 hk).1
 have hkl':(k:Int) < (r.body.length:Int):=by omega
 have hk0:(0:Int)≤(k:Int):=by omega
 have hll:=right_lits hr l (List.mem_of_getElem? hk)
 have hop:=right_op6 hll
 have hlit:(litTs l).length≤1000000:=by
  have h3:=(termsR_pre r.body (k+1)).length_le
  rw[termsR_take hk,List.length_append] at h3
  unfold termsR at hn
  rw[List.length_append] at hn
  omega
 have hlen:=litTs_len l
 have hv:=rightL_leaf1 hll
 obtain⟨a,p0,q0,p1,q1,p2,q2,rfl,ha,Hc,c0,c1,c2,c3,c4,c5,c6,c7,c8,c9,c10⟩:=lt_at S1 (Below.refl _ _) hk
 obtain⟨hAm,hX,hY⟩:=lt_parts Hc.out
 have hal:(a.add (k * 11)).block < w.heap.size:=by rw[addBlock];exact ha
 have HLV:=hid (fun (W:World) (hb:Below w.heap.size w W)=>litVars_c l W _ ((Hc.out.below hb).more hb.size) hv hlit)
 have HAV:=hid (fun (W:World) (hb:Below w.heap.size w W)=>atomVars_c l.a W _ ((hAm.below hb).more hb.size) (fun u hu=>hv u (litTs_mem.2 (.inr (.inr hu)))) (by omega))
 have HRk:=hid (fun (W:World) (hb:Below w.heap.size w W)=>reck6_c l.a W _ ((hAm.below hb).more hb.size) (fun u hu=>hv u (litTs_mem.2 (.inr (.inr hu)))) (by omega))
 have HB1:=hid (fun (W:World) (hb2:Below w.heap.size w W)=>binds6_c l.x l.y B _ _ v W ((hX.under hb2).more hb2.size) ((hY.under hb2).more hb2.size) (fun u hu=>hv u (litTs_mem.2 (.inr (.inl hu)))) (by omega) (SlOf.str hb hb2 hb2.size))
 have HB2:=hid (fun (W:World) (hb2:Below w.heap.size w W)=>binds6_c l.y l.x B _ _ v W ((hY.under hb2).more hb2.size) ((hX.under hb2).more hb2.size) (fun u hu=>hv u (litTs_mem.2 (.inl hu))) (by omega) (SlOf.str hb hb2 hb2.size))
 obtain⟨ob,kb,rfl,_⟩:=SlOf.uni hb
 unfold varsM at HAV
 clear hc hh hbd hn hr hll hlit hlen hv hk hAm hX hY hb Hc
 go_enter Tryz.func118,Tryz.ntmps118
 go_wp2_with fail
 have HBA:Hid (Below w.heap.size w ((w.alloc (.cells #[.string r.head.rel,.slice o0 r.head.l.length k0,.slice (some a) r.body.length k1,.int .i64 r.line] 37)).alloc (.cells #[.int .i64 l.op,.string l.a.rel,.slice p0 l.a.l.length q0,.int .i64 l.x.op,.string l.x.s,.int .i64 l.x.n,.slice p1 l.x.l.length q1,.int .i64 l.y.op,.string l.y.s,.int .i64 l.y.n,.slice p2 l.y.l.length q2] 56))):=hid (((Below.refl _ _).alloc (Nat.le_refl _) _).alloc (by simp) _)
 have QL:Hid (((w.alloc (.cells #[.string r.head.rel,.slice o0 r.head.l.length k0,.slice (some a) r.body.length k1,.int .i64 r.line] 37)).alloc (.cells #[.int .i64 l.op,.string l.a.rel,.slice p0 l.a.l.length q0,.int .i64 l.x.op,.string l.x.s,.int .i64 l.x.n,.slice p1 l.x.l.length q1,.int .i64 l.y.op,.string l.y.s,.int .i64 l.y.n,.slice p2 l.y.l.length q2] 56)).heap[w.heap.size+1]?=some (.cells #[.int .i64 l.op,.string l.a.rel,.slice p0 l.a.l.length q0,.int .i64 l.x.op,.string l.x.s,.int .i64 l.x.n,.slice p1 l.x.l.length q1,.int .i64 l.y.op,.string l.y.s,.int .i64 l.y.n,.slice p2 l.y.l.length q2] 56 (0,0))):=hid (by
  have h:=World.alloc_heap_new (w.alloc (.cells #[.string r.head.rel,.slice o0 r.head.l.length k0,.slice (some a) r.body.length k1,.int .i64 r.line] 37)) (.cells #[.int .i64 l.op,.string l.a.rel,.slice p0 l.a.l.length q0,.int .i64 l.x.op,.string l.x.s,.int .i64 l.x.n,.slice p1 l.x.l.length q1,.int .i64 l.y.op,.string l.y.s,.int .i64 l.y.n,.slice p2 l.y.l.length q2] 56)
  rw[World.size_alloc] at h
  exact h)
 have QR:Hid (((w.alloc (.cells #[.string r.head.rel,.slice o0 r.head.l.length k0,.slice (some a) r.body.length k1,.int .i64 r.line] 37)).alloc (.cells #[.int .i64 l.op,.string l.a.rel,.slice p0 l.a.l.length q0,.int .i64 l.x.op,.string l.x.s,.int .i64 l.x.n,.slice p1 l.x.l.length q1,.int .i64 l.y.op,.string l.y.s,.int .i64 l.y.n,.slice p2 l.y.l.length q2] 56)).heap[w.heap.size]?=some (.cells #[.string r.head.rel,.slice o0 r.head.l.length k0,.slice (some a) r.body.length k1,.int .i64 r.line] 37 (0,0))):=hid ((((Below.refl _ (w.alloc (.cells #[.string r.head.rel,.slice o0 r.head.l.length k0,.slice (some a) r.body.length k1,.int .i64 r.line] 37))).alloc (Nat.le_refl _) _).block w.heap.size (by simp)).trans (World.alloc_heap_new w _))
 generalize (w.alloc (.cells #[.string r.head.rel,.slice o0 r.head.l.length k0,.slice (some a) r.body.length k1,.int .i64 r.line] 37)).alloc (.cells #[.int .i64 l.op,.string l.a.rel,.slice p0 l.a.l.length q0,.int .i64 l.x.op,.string l.x.s,.int .i64 l.x.n,.slice p1 l.x.l.length q1,.int .i64 l.y.op,.string l.y.s,.int .i64 l.y.n,.slice p2 l.y.l.length q2] 56)=W0 at *
 refine (HLV.out _ HBA.out).mono ?_
 rintro e w1 ⟨u1,rfl,hS1,b1⟩
 have B1:=hid (HBA.out.trans (b1.mono HBA.out.size))
 have HZ:Hid (∀ W,Below w1.heap.size w1 W→(w.heap.size+1 < W.heap.size∧W.cell? ⟨w.heap.size+1,0,none⟩=some (.int .i64 l.op)∧W.cell? ⟨w.heap.size+1,1,none⟩=some (.string l.a.rel)∧W.cell? ⟨w.heap.size+1,2,none⟩=some (.slice p0 l.a.l.length q0)∧W.cell? ⟨w.heap.size+1,3,none⟩=some (.int .i64 l.x.op)∧W.cell? ⟨w.heap.size+1,4,none⟩=some (.string l.x.s)∧W.cell? ⟨w.heap.size+1,5,none⟩=some (.int .i64 l.x.n)∧W.cell? ⟨w.heap.size+1,6,none⟩=some (.slice p1 l.x.l.length q1)∧W.cell? ⟨w.heap.size+1,7,none⟩=some (.int .i64 l.y.op)∧W.cell? ⟨w.heap.size+1,8,none⟩=some (.string l.y.s)∧W.cell? ⟨w.heap.size+1,9,none⟩=some (.int .i64 l.y.n)∧W.cell? ⟨w.heap.size+1,10,none⟩=some (.slice p2 l.y.l.length q2)∧W.cell? ⟨w.heap.size,0,none⟩=some (.string r.head.rel)∧W.cell? ⟨w.heap.size,1,none⟩=some (.slice o0 r.head.l.length k0)∧W.cell? ⟨w.heap.size,2,none⟩=some (.slice (some a) r.body.length k1)∧W.cell? ⟨w.heap.size,3,none⟩=some (.int .i64 r.line))∧Below w.heap.size w W):=hid (fun W hb=>by
  have h1:=(b1.block _ (heap_lt QL.out)).trans QL.out
  have h2:=(hb.block _ (heap_lt h1)).trans h1
  have h3:=(b1.block _ (heap_lt QR.out)).trans QR.out
  have h4:=(hb.block _ (heap_lt h3)).trans h3
  exact⟨⟨heap_lt h2,row_cells h2 0,row_cells h2 1,row_cells h2 2,row_cells h2 3,row_cells h2 4,row_cells h2 5,row_cells h2 6,row_cells h2 7,row_cells h2 8,row_cells h2 9,row_cells h2 10,row_cells h4 0,row_cells h4 1,row_cells h4 2,row_cells h4 3⟩,B1.out.trans (hb.mono B1.out.size)⟩)
 have HW1:=hid (HWi.out _ u1 w1 B1.out hS1)
 obtain⟨ou1,ku1,rfl,_⟩:=SlOf.uni hS1
 clear hS1 b1 QL QR c0 c1 c2 c3 c4 c5 c6 c7 c8 c9 c10 hal
 go_wp2_with fail
 refine HW1.out.mono ?_
 rintro e w2 ⟨rfl,b2⟩
 obtain⟨D,hD⟩:∃ D,within6 (varsV (litTs l)) B=D:=⟨_,rfl⟩
 rw[hD]
 have B2:=hid b2
 obtain⟨⟨hlt2,z0,z1,z2,z3,z4,z5,z6,z7,z8,z9,z10,y0,y1,y2,y3⟩,hbw2⟩:=HZ.out w2 b2
 have HBw2:=hid hbw2
 clear b2 hbw2 HW1
 have hlt2':w.heap.size < w2.heap.size:=by omega
 by_cases e1:l.op=1
 ·have HF:Hid (ready6 r k l B=within6 (reck6 l.a.l) B):=hid (by unfold ready6;rw[if_pos e1])
  rw[e1] at z0
  have HC:=hid (HRk.out w2 HBw2.out)
  clear e1 hD hop
  go_wp2_with fail
  refine HC.out.mono ?_
  rintro e w3 ⟨u3,rfl,hS3,b3⟩
  have B3:=hid (HBw2.out.trans (b3.mono HBw2.out.size))
  have HC2:=hid (HWi.out _ u3 w3 B3.out hS3)
  clear hS3 b3 HC
  go_wp2_with fail
  refine HC2.out.mono ?_
  rintro e w4 ⟨rfl,b4⟩
  have B4:=hid (B3.out.trans (b4.mono B3.out.size))
  clear b4 HC2
  go_wp2
  go_ret
  exact⟨by rw[HF.out];rfl,B4.out⟩
 ·by_cases e2:l.op=2∨l.op=4∨l.op=5∨l.op=6
  ·have HF:Hid (ready6 r k l B=D):=hid (by unfold ready6;rw[if_neg e1,if_pos e2,hD])
   clear e1 hD
   rcases e2 with e2 | e2 | e2 | e2
   all_goals
    rw[e2] at z0
    clear e2
    go_wp2
    go_ret
    exact⟨by rw[HF.out];rfl,HBw2.out⟩
  ·by_cases e3:l.op=3
   ·have HF:Hid (ready6 r k l B=(D || binds6 l.x l.y B || binds6 l.y l.x B)):=hid (by unfold ready6;rw[if_neg e1,if_neg e2,if_pos e3,hD])
    rw[e3] at z0
    have HC:=hid (HB1.out w2 HBw2.out)
    clear e1 e2 e3 hD hop
    go_wp2_with fail
    refine HC.out.mono ?_
    rintro e w3 ⟨rfl,b3⟩
    obtain⟨E,hE⟩:∃ E,binds6 l.x l.y B=E:=⟨_,rfl⟩
    rw[hE] at HF ⊢
    obtain⟨⟨hlt3,z0',z1,z2,z3,z4,z5,z6,z7,z8,z9,z10,y0,y1,y2,y3⟩,hbw3⟩:=HZ.out w3 (B2.out.trans (b3.mono B2.out.size))
    have HBw3:=hid hbw3
    have HC2:=hid (HB2.out w3 hbw3)
    clear b3 HC hE z0 z0' hbw3
    go_wp2_with fail
    refine HC2.out.mono ?_
    rintro e w4 ⟨rfl,b4⟩
    obtain⟨F,hF⟩:∃ F,binds6 l.y l.x B=F:=⟨_,rfl⟩
    rw[hF] at HF ⊢
    have HBw4:=hid (HBw3.out.trans (b4.mono HBw3.out.size))
    clear b4 HC2 hF
    cases D <;> cases E <;> cases F
    all_goals
     go_wp2
     go_ret
     exact⟨by rw[HF.out];rfl,HBw4.out⟩
   ·have HF:Hid (ready6 r k l B=(within6 (outer6 r k l) B && within6 (reck6 l.a.l) B && ((l.op == 7) || in6 (varsV (subTs l.a.l)) l.y.s))):=hid (by unfold ready6;rw[if_neg e1,if_neg e2,if_neg e3])
    have n2:¬ l.op=2:=fun h=>e2 (.inl h)
    have n4:¬ l.op=4:=fun h=>e2 (.inr (.inl h))
    have n5:¬ l.op=5:=fun h=>e2 (.inr (.inr (.inl h)))
    have n6:¬ l.op=6:=fun h=>e2 (.inr (.inr (.inr h)))
    have HC:=hid (HAV.out w2 HBw2.out)
    clear e2 hD
    obtain⟨Pv,hPv⟩:∃ Pv,varsV (subTs l.a.l)=Pv:=⟨_,rfl⟩
    rw[hPv] at HF HC
    clear hPv
    go_wp2_with fail
    refine HC.out.mono ?_
    rintro e w3 ⟨u3,rfl,hS3,b3⟩
    have HS3:=hid hS3
    obtain⟨ou3,ku3,rfl,_⟩:=SlOf.uni hS3
    have B3:=hid (B2.out.trans (b3.mono B2.out.size))
    obtain⟨⟨hlt3,z0',z1,z2,z3,z4,z5,z6,z7,z8,z9,z10,y0,y1,y2,y3⟩,hbw3⟩:=HZ.out w3 B3.out
    have HBw3:=hid hbw3
    have HC2:=hid (HOu.out w3 hbw3)
    have hlt3':w.heap.size < w3.heap.size:=by omega
    clear b3 hS3 HC hbw3 z0
    go_wp2_with fail
    refine HC2.out.mono ?_
    rintro e w4 ⟨u4,rfl,hS4,b4⟩
    have HBw4:=hid (HBw3.out.trans (b4.mono HBw3.out.size))
    have B34:=hid b4
    have HC3:=hid (HWi.out _ u4 w4 HBw4.out hS4)
    clear hS4 b4 HC2
    go_wp2_with fail
    refine HC3.out.mono ?_
    rintro e w5 ⟨rfl,b5⟩
    have HBw5:=hid (HBw4.out.trans (b5.mono HBw4.out.size))
    have B35:=hid (B34.out.trans (b5.mono B34.out.size))
    obtain⟨U,hU⟩:∃ U,within6 (outer6 r k l) B=U:=⟨_,rfl⟩
    rw[hU] at HF ⊢
    obtain⟨⟨hlt5,x0,x1,x2,x3,x4,x5,x6,x7,x8,x9,x10,_⟩,_⟩:=HZ.out w5 (B3.out.trans (B35.out.mono B3.out.size))
    have HC4:=hid (HRk.out w5 HBw5.out)
    clear b5 hU HC3 z0' z1 z2 z3 z4 z5 z6 z7 z8 z9 z10 y0 y1 y2 y3
    cases U with
    | false=>
     go_wp2
     go_ret
     exact⟨by rw[HF.out];rfl,HBw5.out⟩
    | true=>
     go_wp2_with fail
     refine HC4.out.mono ?_
     rintro e w6 ⟨u6,rfl,hS6,b6⟩
     have HBw6:=hid (HBw5.out.trans (b6.mono HBw5.out.size))
     have B36:=hid (B35.out.trans (b6.mono B35.out.size))
     have HC5:=hid (HWi.out _ u6 w6 HBw6.out hS6)
     clear hS6 b6 HC4
     go_wp2_with fail
     refine HC5.out.mono ?_
     rintro e w7 ⟨rfl,b7⟩
     have HBw7:=hid (HBw6.out.trans (b7.mono HBw6.out.size))
     have B37:=hid (B36.out.trans (b7.mono B36.out.size))
     obtain⟨G,hG⟩:∃ G,within6 (reck6 l.a.l) B=G:=⟨_,rfl⟩
     rw[hG] at HF ⊢
     obtain⟨⟨hlt7,v0,v1,v2,v3,v4,v5,v6,v7,v8,v9,v10,_⟩,_⟩:=HZ.out w7 (B3.out.trans (B37.out.mono B3.out.size))
     have HC6:=hid (place_c Pv _ l.y.s w7 (SlOf.str HS3.out B37.out B37.out.size))
     clear b7 hG HC5 x0 x1 x2 x3 x4 x5 x6 x7 x8 x9 x10
     cases G with
     | false=>
      go_wp2
      go_ret
      exact⟨by rw[HF.out];rfl,HBw7.out⟩
     | true=>
      by_cases e7:l.op=7
      ·rw[e7] at v0 HF
       clear e7 n2 n4 n5 n6 e1 e3 hop
       go_wp2
       go_ret
       exact⟨by rw[HF.out];rfl,HBw7.out⟩
      ·have e7':(l.op == 7)=false:=by simpa using e7
       rw[e7'] at HF
       go_wp2_with fail
       refine HC6.out.mono ?_
       rintro e w8 ⟨rfl,b8⟩
       have HBw8:=hid (HBw7.out.trans (b8.mono HBw7.out.size))
       clear b8 HC6
       go_wp2
       go_ret
       exact⟨by rw[HF.out];rfl,HBw8.out⟩
def doneL (n:Nat) (D:List Nat):List Value:=(List.range n).map fun i=>.bool (D.contains i)
theorem doneL_at {n k:Nat} (D:List Nat) (h:k < n):(doneL n D)[k]?=some (.bool (D.contains k)):=by
 unfold doneL
 rw[List.getElem?_map,List.getElem?_range h]
 rfl
def nextI:Option Nat→Int
 | some k=>(k:Int)
 | none => -1
theorem find_range {f:Nat→Bool} {n k:Nat} (hk:k < n) (h:∀ j,j < k→f j=false) (hf:f k=true):(List.range n).find? f=some k:=by
 rw[List.find?_eq_some_iff_getElem]
 exact⟨hf,k,by simpa using hk,by simp,fun j hj=>by simp[h j hj]⟩
theorem find_range_none {f:Nat→Bool} {n:Nat} (h:∀ j,j < n→f j=false):(List.range n).find? f=none:=by
 rw[List.find?_eq_none]
 intro x hx
 rw[h x (List.mem_range.1 hx)]
 decide
theorem next_found {r:Ru} {D:List Nat} {B:List ByteArray} {ro k:Nat} (hro:ro < 2) (hk:k < r.body.length) (h0:1≤ro→∀ j,j < r.body.length→cand6 r D B false j=false) (h:∀ j,j < k→cand6 r D B (ro == 1) j=false) (hf:cand6 r D B (ro == 1) k=true):next6 r D B=some k:=by
 unfold next6 pick6
 match ro,hro with
 | 0,_=>
  have e:(List.range r.body.length).find? (cand6 r D B false)=some k:=find_range hk h hf
  rw[e];rfl
 | 1,_=>
  have e:(List.range r.body.length).find? (cand6 r D B true)=some k:=find_range hk h hf
  rw[find_range_none (h0 (Nat.le_refl _)),e];rfl
theorem next_none6 {r:Ru} {D:List Nat} {B:List ByteArray} (h0:∀ j,j < r.body.length→cand6 r D B false j=false) (h1:∀ j,j < r.body.length→cand6 r D B true j=false):next6 r D B=none:=by
 unfold next6 pick6
 rw[find_range_none h0,find_range_none h1];rfl
theorem cand_eq {r:Ru} {D:List Nat} {B:List ByteArray} {b:Bool} {k:Nat} {l:Lt} (h:r.body[k]?=some l):cand6 r D B b k=(!D.contains k && (((l.op == 1) == b) && ready6 r k l B)):=by
 unfold cand6
 rw[h]
theorem row_cell6 {w:World} {b:Nat} {cs:Array Value} {T:TypeId} (h:w.heap[b]?=some (.cells cs T (0,0))) (i:Nat):w.cell? ⟨b,i,none⟩=cs[i]?:=by unfold World.cell?;rw[h];rfl
theorem set_row6 {w:World} {b i:Nat} {l:List Value} {T:TypeId} (hb:w.heap[b]?=some (.cells l.toArray T (0,0))) (v:Value):(w.setCell ⟨b,i,none⟩ v).heap[b]?=some (.cells (l.set i v).toArray T (0,0)):=by
 simp[World.setCell,Array.getElem?_modify,hb]
set_option maxRecDepth 100000 in
set_option maxHeartbeats 16000000 in
theorem next6_c (r:Ru) (D:List Nat) (B:List ByteArray) (w:World) (cs:List Value) (v:Value) (bd:Nat) (hc:RuC w w.heap.size r cs) (hr:rightR r=true) (hn:(termsR r).length+r.body.length≤1000000) (hb:SlOf w w.heap.size 1 StrC B v)
  (hd:w.heap[bd]?=some (.cells (doneL r.body.length D).toArray 4 (0,0))) :
  Calls Tryz.prog 76 #[.agg cs.toArray,.slice (some ⟨bd,0,none⟩) r.body.length r.body.length,v] w fun e w'=>e=.returned (.int .i64 (nextI (next6 r D B)))∧Below w.heap.size w w':=by
 have HRd:=hid (fun (k:Nat) (l:Lt) (W:World) (hk:r.body[k]?=some l) (hb2:Below w.heap.size w W)=>ready6_c r k l B W cs v ((hc.below hb2).more hb2.size) hr hn hk (SlOf.str hb hb2 hb2.size))
 obtain⟨o0,k0,o1,k1,rfl,_,hh,hbd⟩:=hc.look
 obtain⟨o2,k2,e2,hc1,hm1,S1⟩:=SlOf.open hbd
 cases e2
 obtain⟨ob,kb,rfl,_⟩:=SlOf.uni hb
 have hd':=hid hd
 clear hc hh hbd hn hr hb hd
 go_enter Tryz.func76,Tryz.ntmps76
 go_wp2_with fail
 have B1:Hid (Below w.heap.size w (w.alloc (.cells #[.string r.head.rel,.slice o0 r.head.l.length k0,.slice o1 r.body.length k1,.int .i64 r.line] 37))):=hid ((Below.refl _ _).alloc (Nat.le_refl _) _)
 have QR:Hid ((w.alloc (.cells #[.string r.head.rel,.slice o0 r.head.l.length k0,.slice o1 r.body.length k1,.int .i64 r.line] 37)).heap[w.heap.size]?=some (.cells #[.string r.head.rel,.slice o0 r.head.l.length k0,.slice o1 r.body.length k1,.int .i64 r.line] 37 (0,0))):=hid (World.alloc_heap_new w _)
 have QD:Hid ((w.alloc (.cells #[.string r.head.rel,.slice o0 r.head.l.length k0,.slice o1 r.body.length k1,.int .i64 r.line] 37)).heap[bd]?=some (.cells (doneL r.body.length D).toArray 4 (0,0))):=hid ((B1.out.block _ (heap_lt hd'.out)).trans hd'.out)
 generalize w.alloc (.cells #[.string r.head.rel,.slice o0 r.head.l.length k0,.slice o1 r.body.length k1,.int .i64 r.line] 37)=W1 at *
 go_loopw [7] (fun iv wr=>(iv=.int .i64 0∧Hid (Below W1.heap.size W1 wr))∨(iv=.int .i64 1∧Hid (∀ j,j < r.body.length→cand6 r D B false j=false)∧Hid (Below W1.heap.size W1 wr))∨(iv=.int .i64 2∧Hid (∀ j,j < r.body.length→cand6 r D B false j=false)∧Hid (∀ j,j < r.body.length→cand6 r D B true j=false)∧Hid (Below W1.heap.size W1 wr))) (fun iv _=>2 - (intOf iv).toNat)
 case atStart=>exact .inl ⟨rfl,hid (Below.refl _ _)⟩
 case round=>
  rcases hrel with ⟨rfl,HBr⟩ | ⟨rfl,HN,HBr⟩ | ⟨rfl,HN,HN1,HBr⟩
  ·skip
   rename World=>W0
   go_wp2_with fail
   go_loopw [8] (fun kv wr=>∃ k:Nat,k≤r.body.length∧kv=.int .i64 (k:Int)∧Hid (∀ j,j < k→cand6 r D B false j=false)∧Hid (Below W1.heap.size W1 wr)) (fun kv _=>r.body.length - (intOf kv).toNat)
   case atStart=>exact⟨0,Nat.zero_le _,rfl,hid (fun j hj=>by omega),HBr⟩
   case round=>
    obtain⟨k,hk,rfl,HA,HBk⟩:=hrel
    have HB:=hid (B1.out.trans (HBk.out.mono B1.out.size))
    have qr:=(HBk.out.block _ (heap_lt QR.out)).trans QR.out
    have y0:wr.cell? ⟨w.heap.size,0,none⟩=some (.string r.head.rel):=row_cells qr 0
    have y1:wr.cell? ⟨w.heap.size,1,none⟩=some (.slice o0 r.head.l.length k0):=row_cells qr 1
    have y2:wr.cell? ⟨w.heap.size,2,none⟩=some (.slice o1 r.body.length k1):=row_cells qr 2
    have y3:wr.cell? ⟨w.heap.size,3,none⟩=some (.int .i64 r.line):=row_cells qr 3
    have hz0:w.heap.size < wr.heap.size:=heap_lt qr
    clear qr
    by_cases hlt:k < r.body.length
    ·have hlt':(k:Int) < (r.body.length:Int):=by omega
     have hk0:(0:Int)≤(k:Int):=by omega
     obtain⟨t,ht⟩:∃ t,r.body[k]?=some t:=⟨_,List.getElem?_eq_getElem hlt⟩
     obtain⟨a,p0,q0,p1,q1,p2,q2,rfl,ha,Hc,c0,c1,c2,c3,c4,c5,c6,c7,c8,c9,c10⟩:=lt_at S1 HB.out ht
     have hal:(a.add (k * 11)).block < wr.heap.size:=by rw[addBlock];have:=HB.out.size;omega
     have HC:=hid (HRd.out k t wr ht HB.out)
     have HE:=hid (cand_eq (D:=D) (B:=B) (b:=false) ht)
     have HQ:=hid HBk.out
     clear ht Hc c1 c2 c3 c4 c5 c6 c7 c8 c9 c10
     obtain⟨G,hG⟩:∃ G,ready6 r k t B=G:=⟨_,rfl⟩
     rw[hG] at HC HE
     obtain⟨dn,hdn⟩:∃ dn,D.contains k=dn:=⟨_,rfl⟩
     rw[hdn] at HE
     have Hdn:=hid hdn
     clear hG hdn
     by_cases e1:t.op=1
     all_goals
      have HE1:=hid e1
      first
       | (rw[e1] at c0;clear e1)
       | (have e1':(t.op == 1)=false:=by simpa using e1)
      go_wp2_with fail
      refine HC.out.mono ?_
      rintro e w3 ⟨rfl,b3⟩
      have HB3:=hid (HBk.out.trans (b3.mono HBk.out.size))
      have hdr:=(HB3.out.block _ (heap_lt QD.out)).trans QD.out
      have m0:w3.cell? ⟨bd,k,none⟩=some (.bool dn):=(row_cell6 hdr k).trans (by rw[List.getElem?_toArray,doneL_at D hlt,Hdn.out])
      have hbd:bd < w3.heap.size:=heap_lt hdr
      clear b3 hdr HC
      cases dn
      all_goals
       cases G
       all_goals
        go_wp2
        first
         | (
           go_ret
           have hf:cand6 r D B false k=true:=by rw[HE.out];have:=HE1.out;simp[this]
           have hnx:=next_found (ro:=0) (by decide) hlt (fun h=>absurd h (by decide)) HA.out hf
           exact⟨by rw[hnx];rfl,B1.out.trans (HB3.out.mono B1.out.size)⟩)
         | (
           go_roundw
           case rel=>exact⟨k+1,hlt,by go_num,hid (fun j hj=>by
            by_cases e:j=k
            ·rw[e,HE.out];have:=HE1.out;simp[this]
            ·exact HA.out j (by omega)),HB3⟩
           case measure=>simp[intOf];omega)
    ·have hlt':¬ (k:Int) < (r.body.length:Int):=by omega
     obtain rfl:k=r.body.length:=by omega
     go_wp2
     go_roundw
     case rel=>exact .inr (.inl ⟨by go_num,HA,HBk⟩)
     case measure=>simp[intOf]
  ·skip
   rename World=>W0
   go_wp2_with fail
   go_loopw [8] (fun kv wr=>∃ k:Nat,k≤r.body.length∧kv=.int .i64 (k:Int)∧Hid (∀ j,j < k→cand6 r D B true j=false)∧Hid (Below W1.heap.size W1 wr)) (fun kv _=>r.body.length - (intOf kv).toNat)
   case atStart=>exact⟨0,Nat.zero_le _,rfl,hid (fun j hj=>by omega),HBr⟩
   case round=>
    obtain⟨k,hk,rfl,HA,HBk⟩:=hrel
    have HB:=hid (B1.out.trans (HBk.out.mono B1.out.size))
    have qr:=(HBk.out.block _ (heap_lt QR.out)).trans QR.out
    have y0:wr.cell? ⟨w.heap.size,0,none⟩=some (.string r.head.rel):=row_cells qr 0
    have y1:wr.cell? ⟨w.heap.size,1,none⟩=some (.slice o0 r.head.l.length k0):=row_cells qr 1
    have y2:wr.cell? ⟨w.heap.size,2,none⟩=some (.slice o1 r.body.length k1):=row_cells qr 2
    have y3:wr.cell? ⟨w.heap.size,3,none⟩=some (.int .i64 r.line):=row_cells qr 3
    have hz0:w.heap.size < wr.heap.size:=heap_lt qr
    clear qr
    by_cases hlt:k < r.body.length
    ·have hlt':(k:Int) < (r.body.length:Int):=by omega
     have hk0:(0:Int)≤(k:Int):=by omega
     obtain⟨t,ht⟩:∃ t,r.body[k]?=some t:=⟨_,List.getElem?_eq_getElem hlt⟩
     obtain⟨a,p0,q0,p1,q1,p2,q2,rfl,ha,Hc,c0,c1,c2,c3,c4,c5,c6,c7,c8,c9,c10⟩:=lt_at S1 HB.out ht
     have hal:(a.add (k * 11)).block < wr.heap.size:=by rw[addBlock];have:=HB.out.size;omega
     have HC:=hid (HRd.out k t wr ht HB.out)
     have HE:=hid (cand_eq (D:=D) (B:=B) (b:=true) ht)
     have HQ:=hid HBk.out
     clear ht Hc c1 c2 c3 c4 c5 c6 c7 c8 c9 c10
     obtain⟨G,hG⟩:∃ G,ready6 r k t B=G:=⟨_,rfl⟩
     rw[hG] at HC HE
     obtain⟨dn,hdn⟩:∃ dn,D.contains k=dn:=⟨_,rfl⟩
     rw[hdn] at HE
     have Hdn:=hid hdn
     clear hG hdn
     by_cases e1:t.op=1
     all_goals
      have HE1:=hid e1
      first
       | (rw[e1] at c0;clear e1)
       | (have e1':(t.op == 1)=false:=by simpa using e1)
      go_wp2_with fail
      refine HC.out.mono ?_
      rintro e w3 ⟨rfl,b3⟩
      have HB3:=hid (HBk.out.trans (b3.mono HBk.out.size))
      have hdr:=(HB3.out.block _ (heap_lt QD.out)).trans QD.out
      have m0:w3.cell? ⟨bd,k,none⟩=some (.bool dn):=(row_cell6 hdr k).trans (by rw[List.getElem?_toArray,doneL_at D hlt,Hdn.out])
      have hbd:bd < w3.heap.size:=heap_lt hdr
      clear b3 hdr HC
      cases dn
      all_goals
       cases G
       all_goals
        go_wp2
        first
         | (
           go_ret
           have hf:cand6 r D B true k=true:=by rw[HE.out];have:=HE1.out;simp[this]
           have hnx:=next_found (ro:=1) (by decide) hlt (fun _=>HN.out) HA.out hf
           exact⟨by rw[hnx];rfl,B1.out.trans (HB3.out.mono B1.out.size)⟩)
         | (
           go_roundw
           case rel=>exact⟨k+1,hlt,by go_num,hid (fun j hj=>by
            by_cases e:j=k
            ·rw[e,HE.out];have:=HE1.out;simp[this]
            ·exact HA.out j (by omega)),HB3⟩
           case measure=>simp[intOf];omega)
    ·have hlt':¬ (k:Int) < (r.body.length:Int):=by omega
     obtain rfl:k=r.body.length:=by omega
     go_wp2
     go_roundw
     case rel=>exact .inr (.inr ⟨by go_num,HN,HA,HBk⟩)
     case measure=>simp[intOf]
  ·have hnx:Hid (next6 r D B=none):=hid (next_none6 HN.out HN1.out)
   go_wp2
   go_ret
   exact⟨by rw[hnx.out];rfl,B1.out.trans (HBr.out.mono B1.out.size)⟩
end Go.Proofs.YtfmldnbcjbflbaaGreatDoor
