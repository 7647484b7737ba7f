/- Lg@1, Rm23@1 -/
import Derived.Test.YtdgbajnhhhjbcaaGreatDoorQ50
import Derived.Test.YtdgbajnhhhjbcaaGreatDoorQ27
set_option linter.unusedSimpArgs false
set_option linter.unusedVariables false
namespace Go.Proofs.YtdgbajnhhhjbcaaGreatDoor
open Lib(hid)
open Go.RowKit
theorem numK_len (n:Int):(numK n).length≤2:=by unfold numK;split <;> simp
theorem joinK_len {α:Type} {f:α→Int→Int} {g:α→List Key} (hlo:∀ x left,0≤left → -1≤f x left∧f x left≤left):∀ (l:List α) (left:Int),(∀ x ∈ l,∀ left:Int,0≤left→0≤f x left→((g x).length:Int)+1≤5 * (left - f x left))→0≤left→0≤foldS f l left→((joinK (l.map g)).length:Int)≤5 * (left - foldS f l left)
 | [],left,_,h,_=>by simp[joinK,foldS]
 | [x],left,hx,h,h2=>by
  have e:foldS f [x] left=f x left:=by unfold foldS;rw[if_neg (by omega)];rfl
  rw[e] at h2 ⊢
  have:=hx x (by simp) left h h2
  simp only[List.map_cons,List.map_nil,joinK]
  omega
 | x::y::l,left,hx,h,h2=>by
  have e:foldS f (x::y::l) left=foldS f (y::l) (f x left):=foldS_step (by omega)
  rw[e] at h2 ⊢
  have h0:0≤f x left:=by
   rcases Int.lt_or_le (f x left) 0 with h3 | h3
   ·rw[foldS_neg f _ h3] at h2;exact h2
   ·exact h3
  have h3:=hx x (by simp) left h h0
  have h4:=joinK_len hlo (y::l) (f x left) (fun a ha=>hx a (by simp[ha])) h0 h2
  have h5:((joinK ((x::y::l).map g)).length:Int)=(g x).length+1+(joinK ((y::l).map g)).length:=by
   simp only[List.map_cons,joinK,List.length_append,List.length_cons]
   omega
  rw[h5]
  omega
theorem keysT_len:∀ (h:Nat) (t:Tm) (left:Int),0≤left→0≤sizeT t left→((keysT h t).length:Int)+2≤5 * (left - sizeT t left)
 | 0,t,left,h0,h1=>by
  rw[sizeT_eq] at h1 ⊢
  split at h1
  ·omega
  ·rename_i hs
   rw[if_neg hs]
   have hl:0≤left - 1:=by
    rcases Int.lt_or_le (left - 1) 0 with h3 | h3
    ·rw[foldS_neg sizeT _ h3] at h1;omega
    ·exact h3
   have lo:=foldS_lo sizeT_lo t.l (left - 1) (by omega)
   simp only[keysT,List.length_nil]
   omega
 | h+1,.mk o s n l,left,h0,h1=>by
  rw[sizeT_eq] at h1 ⊢
  split at h1
  ·omega
  ·rename_i hs
   rw[if_neg hs]
   have hl:0≤left - 1:=by
    rcases Int.lt_or_le (left - 1) 0 with h3 | h3
    ·rw[foldS_neg sizeT _ h3] at h1;omega
    ·exact h3
   have lo:=foldS_lo sizeT_lo (Tm.l (.mk o s n l)) (left - 1) (by omega)
   unfold keysT
   split
   ·simp only[List.length_cons,List.length_nil];omega
   split
   ·have:=numK_len n
    show ((numK n).length:Int)+2≤_
    omega
   split
   ·simp only[List.length_cons,List.length_nil];omega
   split
   ·simp only[List.length_cons,List.length_nil];omega
   ·match l,h1,lo with
    | [],h1,lo=>simp only[Tm.l,List.length_nil] at lo ⊢;omega
    | [a],h1,lo=>simp only[Tm.l,List.length_nil] at lo ⊢;omega
    | [a,b],h1,lo=>
     simp only[Tm.l] at h1 lo ⊢
     have ha0:=foldS_nonneg hl h1
     rw[foldS_two hl ha0] at h1 lo ⊢
     have ka:=keysT_len h a (left - 1) hl ha0
     have kb:=keysT_len h b _ ha0 h1
     simp only[List.length_append,List.length_cons,List.length_nil]
     omega
    | a::b::c::r,h1,lo=>simp only[Tm.l,List.length_nil] at lo ⊢;omega
theorem keysA_len {a:Am} {left:Int} (h0:0≤left) (h1:0≤sizeA a left):((keysA a).length:Int)≤3+5 * (left - sizeA a left):=by
 unfold sizeA at h1 ⊢
 split at h1
 ·omega
 ·rename_i hs
  rw[if_neg hs]
  rw[sizeTs_fold] at h1 ⊢
  have:=joinK_len (g:=keysT 20) sizeT_lo a.l left (fun x _ l' hl' hx=>by have:=keysT_len 20 x l' hl' hx;omega) h0 h1
  unfold keysA
  simp only[List.length_cons,List.length_append,List.length_nil]
  omega
theorem keysL_len {l:Lt} {left:Int} (h0:0≤left) (h1:0≤sizeL1 l left):((keysL l).length:Int)+1≤5 * (left - sizeL1 l left):=by
 unfold sizeL1 at h1 ⊢
 split at h1
 ·omega
 next ha=>
  rw[if_neg ha]
  have ha:0≤sizeA l.a (left - 1):=by omega
  split at h1
  ·omega
  next hx=>
   rw[if_neg hx]
   have hx:0≤sizeT l.x (sizeA l.a (left - 1)):=by omega
   have hl1:0≤left - 1:=by
    rcases Int.lt_or_le (left - 1) 0 with h3 | h3
    ·exfalso
     unfold sizeA at ha
     split at ha
     ·omega
     ·rw[sizeTs_fold,foldS_neg sizeT _ h3] at ha;omega
    ·exact h3
   have kA:=keysA_len hl1 ha
   have kx:=keysT_len 20 l.x _ ha hx
   have ky:=keysT_len 20 l.y _ hx h1
   have loA:=(sizeA_lo l.a (left - 1) (by omega)).2
   unfold keysL
   split
   ·omega
   split
   ·simp only[List.length_cons];omega
   split
   ·simp only[List.length_append,List.length_cons];omega
   ·split
    ·simp only[keysB,List.length_append,List.length_cons,List.length_nil];omega
    ·simp only[keysB,List.length_append,List.length_cons,List.length_nil];omega
theorem keysR_len {r:Ru} {left:Int} (h0:0≤left) (h1:0≤sizeR r left):((keysR r).length:Int)≤5 * (left - sizeR r left):=by
 unfold sizeR at h1 ⊢
 have ha:0≤sizeA r.head (left - 1):=by
  rcases Int.lt_or_le (sizeA r.head (left - 1)) 0 with h3 | h3
  ·rw[foldS_neg sizeL1 _ h3] at h1;exact h1
  ·exact h3
 have hl1:0≤left - 1:=by
  rcases Int.lt_or_le (left - 1) 0 with h3 | h3
  ·exfalso
   unfold sizeA at ha
   split at ha
   ·omega
   ·rw[sizeTs_fold,foldS_neg sizeT _ h3] at ha;omega
  ·exact h3
 have kA:=keysA_len hl1 ha
 have kj:=joinK_len (g:=keysL) sizeL1_lo r.body _ (fun x _ l' hl' hx=>keysL_len hl' hx) ha h1
 unfold keysR
 split
 ·simp only[List.length_append,List.length_cons,List.length_nil]
  have:=(foldS_lo sizeL1_lo r.body (sizeA r.head (left - 1)) (by omega)).2
  omega
 ·simp only[List.length_append,List.length_cons,List.length_nil]
  omega
theorem flatK_len:∀ (l:List Ru) (left:Int),0≤left→0≤foldS sizeR l left→((l.flatMap keysR).length:Int)≤5 * (left - foldS sizeR l left)
 | [],left,_,_=>by simp[foldS]
 | r::l,left,h0,h1=>by
  have hr:=foldS_nonneg h0 h1
  have e:foldS sizeR (r::l) left=foldS sizeR l (sizeR r left):=foldS_step (by omega)
  rw[e] at h1 ⊢
  have k1:=keysR_len h0 hr
  have k2:=flatK_len l _ hr h1
  rw[List.flatMap_cons,List.length_append]
  omega
theorem joinC_keys:∀ l:List (ByteArray × Int),(joinK (l.map keysC)).length≤4 * l.length
 | []=>by simp[joinK]
 | [x]=>by simp[joinK,keysC]
 | x::y::l=>by
  have:=joinC_keys (y::l)
  have e:joinK ((x::y::l).map keysC)=keysC x++(4,[44])::joinK ((y::l).map keysC):=by simp[joinK]
  rw[e]
  simp only[keysC,List.length_append,List.length_cons,List.length_nil] at this ⊢
  omega
theorem keysD_len {d:De} (h:rightD d=true):(keysD d).length≤44:=by
 unfold rightD at h
 simp only[Bool.and_eq_true,decide_eq_true_eq] at h
 have h8:d.names.length≤8:=h.1.1.1.2
 have:=joinC_keys (d.names.zip d.types)
 have hz:(d.names.zip d.types).length≤d.names.length:=by rw[List.length_zip];omega
 unfold keysD keysM
 cases d.inn <;> cases d.out <;> simp only[Bool.false_eq_true,if_false,if_true,List.length_append,List.length_cons,List.length_nil] <;> omega
theorem flatD_len:∀ l:List De,l.all rightD=true→(l.flatMap keysD).length≤44 * l.length
 | [],_=>by simp
 | d::l,h=>by
  rw[List.all_cons,Bool.and_eq_true] at h
  have h1:=keysD_len h.1
  have h2:=flatD_len l h.2
  rw[List.flatMap_cons,List.length_append,List.length_cons]
  omega
theorem keysP_len {p:Pg} (hs:smallP p=true) (hp:rightP p=true):(keysP p).length≤20000:=by
 unfold smallP at hs
 unfold rightP at hp
 simp only[Bool.and_eq_true,decide_eq_true_eq] at hs hp
 have h1:=flatK_len p.rules 2000 (by omega) hs.1.1.2
 have h2:=flatD_len p.decls hp.1.2
 have h3:p.decls.length≤60:=hp.1.1.1
 have h4:=hs.1.1.2
 unfold keysP
 rw[List.length_append]
 omega
def oddL (l:Lt):Bool:=leastA l.a || leastB l.x || leastB l.y
def oddB (r:Ru):Bool:=leastA r.head || r.body.any oddL
theorem any_drop {α:Type} {f:α→Bool} {l:List α} {k:Nat} {t:α} (h:l[k]?=some t):(l.drop k).any f=(f t || (l.drop (k+1)).any f):=by
 rw[List.drop_eq_getElem_cons (List.getElem?_eq_some_iff.1 h).1,(List.getElem?_eq_some_iff.1 h).2,List.any_cons]
set_option maxRecDepth 100000 in
set_option maxHeartbeats 4000000 in
theorem odd_c (t:Ru) (w:World) (cs:List Value) (hc:RuC w w.heap.size t cs) :
  Calls Tryz.prog 10 #[.agg cs.toArray] w fun e w'=>e=.returned (.bool (oddB t))∧Below w.heap.size w w':=by
 obtain⟨p1,q1,r1,s1,rfl,_,a1,t1⟩:=hc.look
 obtain⟨o1,cap1,e1,hc1,hm1,S1⟩:=SlOf.open t1
 cases e1
 have HB0:Hid (∀ (x:Obj),Below w.heap.size w (w.alloc x)):=hid fun x=>(Below.refl _ _).alloc (Nat.le_refl _) _
 have HH:=hid (fun (W:World) (hb:Below w.heap.size w W)=>leastIn_c t.head W [_,_] ((a1.below hb).more hb.size))
 clear hc t1 a1
 have Hs:Hid (oddB t=(leastA t.head || t.body.any oddL)):=hid rfl
 go_enter Tryz.func10,Tryz.ntmps10
 go_wp2_with fail
 refine (HH.out _ (HB0.out _)).mono ?_
 rintro e w0 ⟨rfl,b0⟩
 have b0':=b0.mono (show w.heap.size+1≤_ by simp)
 have hB0:Below w.heap.size w w0:=(HB0.out _).trans (b0'.mono (by omega))
 cases hq:leastA t.head with
 | true=>
  have Hz:=hid (show oddB t=true by rw[Hs.out,hq];rfl)
  clear hq
  go_wp2
  go_ret
  exact⟨by rw[Hz.out];rfl,hB0⟩
 | false=>
  have Hs2:=hid (show oddB t=t.body.any oddL by rw[Hs.out,hq];rfl)
  clear hq hB0
  go_wp2
  go_loopw [3] (fun i wr=>∃ k:Nat,k≤t.body.length∧i=.int .i64 (k:Int)∧t.body.any oddL=(t.body.drop k).any oddL∧Below (w.heap.size+1) (w.alloc (.cells #[.string t.head.rel,.slice p1 t.head.l.length q1,.slice r1 t.body.length s1,.int .i64 t.line] 41)) wr) (fun i _=>t.body.length - (intOf i).toNat)
  case atStart=>exact⟨0,Nat.zero_le _,rfl,rfl,b0'⟩
  case round=>
   obtain⟨k,hk,rfl,hr,hB2⟩:=hrel
   have hB:Below w.heap.size w wr:=(HB0.out _).trans (hB2.mono (by omega))
   have Hr:=hid hr
   clear hr
   have hBs:=hB2.size
   simp only[World.size_alloc] at hBs
   have hz0:w.heap.size < wr.heap.size:=by omega
   have x0:wr.cell? ⟨w.heap.size,2,none⟩=some (.slice r1 t.body.length s1):=(hB2.cell (p:=⟨w.heap.size,2,none⟩) (by show w.heap.size < _;omega)).trans (by go_simp)
   by_cases hlt:k < t.body.length
   ·have hlt':(k:Int) < (t.body.length:Int):=by omega
    obtain⟨xe,ht⟩:∃ xe,t.body[k]?=some xe:=⟨t.body[k],List.getElem?_eq_getElem hlt⟩
    obtain⟨a,p3,q3,p4,q4,p5,q5,rfl,ha,Hc,c0,c1,c2,c3,c4,c5,c6,c7,c8,c9,c10⟩:=lt_at S1 hB ht
    have hal:(a.add (k * 11)).block < wr.heap.size:=by rw[addBlock];omega
    have Hst:=hid (Hr.out.trans (any_drop (f:=oddL) ht))
    have Ho:Hid (oddL xe=(leastA xe.a || leastB xe.x || leastB xe.y)):=hid rfl
    clear ht
    obtain⟨_,_,_,_,_,_,e1,_,La,Lx,Ly⟩:=Hc.out.look
    cases e1
    have HA:=hid (leastIn_c xe.a wr [_,_] La)
    have HX:=hid (fun (W:World) (hb:Below wr.heap.size wr W)=>least_c xe.x W [_,_,_,_] ((Lx.under hb).more hb.size))
    have HY:=hid (fun (W:World) (hb:Below wr.heap.size wr W)=>least_c xe.y W [_,_,_,_] ((Ly.under hb).more hb.size))
    clear La Lx Ly
    go_wp2_with fail
    refine HA.out.mono ?_
    rintro e w1 ⟨rfl,b1⟩
    have g0:=(b1.cell (p:=⟨w.heap.size,2,none⟩) hz0).trans x0
    have f3:=(b1.cell (p:=⟨(a.add (k * 11)).block,(a.add (k * 11)).off+3,none⟩) hal).trans c3
    have f4:=(b1.cell (p:=⟨(a.add (k * 11)).block,(a.add (k * 11)).off+4,none⟩) hal).trans c4
    have f5:=(b1.cell (p:=⟨(a.add (k * 11)).block,(a.add (k * 11)).off+5,none⟩) hal).trans c5
    have f6:=(b1.cell (p:=⟨(a.add (k * 11)).block,(a.add (k * 11)).off+6,none⟩) hal).trans c6
    have f7:=(b1.cell (p:=⟨(a.add (k * 11)).block,(a.add (k * 11)).off+7,none⟩) hal).trans c7
    have f8:=(b1.cell (p:=⟨(a.add (k * 11)).block,(a.add (k * 11)).off+8,none⟩) hal).trans c8
    have f9:=(b1.cell (p:=⟨(a.add (k * 11)).block,(a.add (k * 11)).off+9,none⟩) hal).trans c9
    have f10:=(b1.cell (p:=⟨(a.add (k * 11)).block,(a.add (k * 11)).off+10,none⟩) hal).trans c10
    have hk1:=b1.size
    have hal1:(a.add (k * 11)).block < w1.heap.size:=by omega
    have hz1:w.heap.size < w1.heap.size:=by omega
    have HB3:=hid (hB2.trans (b1.mono (by omega)))
    have HB4:=hid (hB.trans (b1.mono (by omega)))
    have Hb1:=hid b1
    clear x0 c0 c1 c2 c3 c4 c5 c6 c7 c8 c9 c10 b1
    cases hq1:leastA xe.a with
    | true=>
     have Hz:=hid (show oddB t=true by rw[Hs2.out,Hst.out,Ho.out,hq1];rfl)
     clear hq1
     go_wp2
     go_ret
     exact⟨by rw[Hz.out];rfl,HB4.out⟩
    | false=>
     have Ho2:=hid (show oddL xe=(leastB xe.x || leastB xe.y) by rw[Ho.out,hq1];rfl)
     clear hq1
     go_wp2_with fail
     refine (HX.out _ Hb1.out).mono ?_
     rintro e w2 ⟨rfl,b2⟩
     have u0:=(b2.cell (p:=⟨w.heap.size,2,none⟩) hz1).trans g0
     have u7:=(b2.cell (p:=⟨(a.add (k * 11)).block,(a.add (k * 11)).off+7,none⟩) hal1).trans f7
     have u8:=(b2.cell (p:=⟨(a.add (k * 11)).block,(a.add (k * 11)).off+8,none⟩) hal1).trans f8
     have u9:=(b2.cell (p:=⟨(a.add (k * 11)).block,(a.add (k * 11)).off+9,none⟩) hal1).trans f9
     have u10:=(b2.cell (p:=⟨(a.add (k * 11)).block,(a.add (k * 11)).off+10,none⟩) hal1).trans f10
     have hk2:=b2.size
     have HB5:=hid (HB3.out.trans (b2.mono (by omega)))
     have HB6:=hid (HB4.out.trans (b2.mono (by omega)))
     have Hb2:=hid (Hb1.out.trans (b2.mono hk1))
     clear g0 f3 f4 f5 f6 f7 f8 f9 f10 b2
     cases hq2:leastB xe.x with
     | true=>
      have Hz:=hid (show oddB t=true by rw[Hs2.out,Hst.out,Ho2.out,hq2];rfl)
      clear hq2
      go_wp2
      go_ret
      exact⟨by rw[Hz.out];rfl,HB6.out⟩
     | false=>
      have Ho3:=hid (show oddL xe=leastB xe.y by rw[Ho2.out,hq2];rfl)
      clear hq2
      go_wp2_with fail
      refine (HY.out _ Hb2.out).mono ?_
      rintro e w3 ⟨rfl,b3⟩
      have HB7:=hid (HB5.out.trans (b3.mono (by omega)))
      have HB8:=hid (HB6.out.trans (b3.mono (by omega)))
      clear u0 u7 u8 u9 u10 b3
      cases hq3:leastB xe.y with
      | true=>
       have Hz:=hid (show oddB t=true by rw[Hs2.out,Hst.out,Ho3.out,hq3];rfl)
       clear hq3
       go_wp2
       go_ret
       exact⟨by rw[Hz.out];rfl,HB8.out⟩
      | false=>
       have Hz:=hid (show t.body.any oddL=(t.body.drop (k+1)).any oddL by rw[Hst.out,Ho3.out,hq3];rfl)
       clear hq3
       go_wp2
       go_roundw
       case rel=>exact⟨k+1,hlt,by go_num,Hz.out,HB7.out⟩
       case measure=>simp[intOf];omega
   ·have hlt':¬ (k:Int) < (t.body.length:Int):=by omega
    have Hz:Hid (oddB t=false):=hid (by rw[Hs2.out,Hr.out,List.drop_of_length_le (by omega)];rfl)
    go_wp2
    go_ret
    exact⟨by rw[Hz.out];rfl,hB⟩
end Go.Proofs.YtdgbajnhhhjbcaaGreatDoor
