/- Rm9@012, Rm11@012 -/
import Derived.Test.YtdgbajnhhhjbcaaGreatDoorQ42
set_option linter.unusedSimpArgs false
set_option linter.unusedVariables false
namespace Go.Proofs.YtdgbajnhhhjbcaaGreatDoor
open Lib(hid)
open Go.RowKit
def relB (s:ByteArray) (d:De):Bool:=d.rel.toList == s.toList
set_option maxRecDepth 100000 in
set_option maxHeartbeats 4000000 in
theorem relIs_c (d:De) (s:ByteArray) (nb:Nat) (o0 o1:Option Addr) (k0 k1:Nat) (w:World) (hb:Row nb 9 [.string s] w) :
  Calls Tryz.prog 157 #[.agg #[.string d.rel,.slice o0 d.names.length k0,.slice o1 d.types.length k1,.bool d.inn,.bool d.out,.int .i64 d.line],.pointer (some ⟨nb,0,none⟩)] w fun e w'=>e=.returned (.bool (relB s d))∧Below w.heap.size w w':=by
 have HB0:Hid (∀ (x:Obj),Below w.heap.size w (w.alloc x)):=hid fun x=>(Below.refl _ _).alloc (Nat.le_refl _) _
 have c0:=hb.at 0 _ rfl
 have hlt:=hb.lt
 clear hb
 go_enter Tryz.func157,Tryz.ntmps157
 go_wp2
 go_ret
 exact⟨rfl,HB0.out _⟩
set_option maxRecDepth 100000 in
set_option maxHeartbeats 4000000 in
theorem indexD_c (s:ByteArray) (nb:Nat) (l:List De) (v:Value) (w:World) (hl:SlOf w w.heap.size 6 (DeC w w.heap.size) l v) (hb:Row nb 9 [.string s] w) (_:l.length≤1000000) :
  Calls Tryz.prog 156 #[v,.func (.func 157) #[] #[.pointer (some ⟨nb,0,none⟩)]] w fun e w'=>e=.returned (.int .i64 (ixF (relB s) 0 l))∧Below w.heap.size w w':=by
 obtain⟨o,cap,rfl,hcap,hcm,S⟩:=SlOf.open hl
 have HB0:Hid (Below w.heap.size w w):=hid (Below.refl _ _)
 have Hb:=hid hb
 clear hl hb
 go_enter Tryz.func156,Tryz.ntmps156
 go_wp2
 go_loopw [8] (fun i wr=>∃ k:Nat,k≤l.length∧i=.int .i64 (k:Int)∧ixF (relB s) 0 l=ixF (relB s) k (l.drop k)∧Below w.heap.size w wr) (fun i _=>l.length - (intOf i).toNat)
 case atStart=>exact⟨0,Nat.zero_le _,rfl,rfl,HB0.out⟩
 case round=>
  obtain⟨k,hk,rfl,hix,hB⟩:=hrel
  have hBs:=hB.size
  by_cases hlt:k < l.length
  ·have hlt':(k:Int) < (l.length:Int):=by omega
   obtain⟨u,hu⟩:∃ u,l[k]?=some u:=⟨l[k],List.getElem?_eq_getElem hlt⟩
   obtain⟨b,p1,q1,p2,q2,rfl,hbb,Hc,c0,c1,c2,c3,c4,c5⟩:=de_at S hB hu
   have hbl:(b.add (k * 6)).block < wr.heap.size:=by rw[addBlock];omega
   have Hix:=hid (hix.trans (ixF_drop hu))
   have HF:=hid (relIs_c u s nb p1 p2 q1 q2 wr (Hb.out.below hB Hb.out.lt))
   clear hu hix Hc
   go_wp2_with fail
   refine HF.out.mono ?_
   rintro e w2 ⟨rfl,b2⟩
   have HB2:=hid (hB.trans (b2.mono hBs))
   clear b2
   cases hp:relB s u with
   | true=>
    have Hr:Hid (ixF (relB s) 0 l=(k:Int)):=hid (by rw[Hix.out,if_pos hp])
    clear hp
    go_wp2
    go_ret
    exact⟨by rw[Hr.out];rfl,HB2.out⟩
   | false=>
    have Hr:Hid (ixF (relB s) 0 l=ixF (relB s) (k+1) (l.drop (k+1))):=hid (by rw[Hix.out,if_neg (by rw[hp];decide)])
    clear hp
    go_wp2
    go_roundw
    case rel=>exact⟨k+1,by omega,by go_num,Hr.out,HB2.out⟩
    case measure=>simp[intOf];omega
  ·have hlt':¬ (k:Int) < (l.length:Int):=by omega
   have Hr:Hid (ixF (relB s) 0 l = -1):=hid (by rw[hix,List.drop_of_length_le (by omega)];rfl)
   clear hix
   go_wp2
   go_ret
   exact⟨by rw[Hr.out];rfl,hB⟩
set_option maxRecDepth 100000 in
set_option maxHeartbeats 4000000 in
theorem firstOf_c (C:RC) (B:Nat) (p:Pg) (du ru:Value) (q:List TokI) (w:World) (h:PgI C B p du ru q w) (hlen:p.decls.length≤60) (s:ByteArray) :
  Calls Tryz.prog 123 #[.pointer (some ⟨C.R,0,none⟩),.string s] w fun e w'=>e=.returned (.int .i64 (ixF (relB s) 0 p.decls))∧Below w.heap.size w w':=by
 have hltR:=h.rd.lt
 obtain⟨c2w,_,_,_⟩:=h.row
 obtain⟨W1,hW1⟩:∃ W1,w.alloc (.cells #[.string s] 9)=W1:=⟨_,rfl⟩
 have hb1:Below w.heap.size w W1:=by rw[← hW1];exact (Below.refl _ _).alloc (Nat.le_refl _) _
 have hr1:Row w.heap.size 9 [.string s] W1:=by rw[← hW1];exact Row.new w _ _
 have I1:=h.below hb1
 have HH:=hid (indexD_c s w.heap.size p.decls du W1 I1.decls hr1 (by omega))
 have Hb1:=hid hb1
 clear h hb1 hr1 I1
 subst hW1
 go_enter Tryz.func123,Tryz.ntmps123
 go_wp2_with fail
 refine HH.out.mono ?_
 rintro e w2 ⟨rfl,b2⟩
 have HB2:=hid (Hb1.out.trans (b2.mono Hb1.out.size))
 clear b2
 go_wp2
 go_ret
 exact⟨rfl,HB2.out⟩
set_option maxHeartbeats 4000000 in
theorem inMark_c (a:Addr) (w:World):Calls Tryz.prog 82 #[.pointer (some a)] w fun e w'=>e=.returned (.pointer (some ⟨a.block,a.off+3,none⟩))∧w'=w:=by
 go_enter Tryz.func82,Tryz.ntmps82
 go_wp2
 go_ret
 exact⟨rfl,rfl⟩
set_option maxHeartbeats 4000000 in
theorem outMark_c (a:Addr) (w:World):Calls Tryz.prog 83 #[.pointer (some a)] w fun e w'=>e=.returned (.pointer (some ⟨a.block,a.off+4,none⟩))∧w'=w:=by
 go_enter Tryz.func83,Tryz.ntmps83
 go_wp2
 go_ret
 exact⟨rfl,rfl⟩
def mkB (inn:Bool) (d:De):Bool:=if inn=true then d.inn else d.out
def canF (f:De→Nat→Bool):Nat→List De→Bool
 | _,[]=>false
 | k,d::l=>f d k || canF f (k+1) l
theorem canF_drop {f:De→Nat→Bool} {l:List De} {k:Nat} {x:De} (h:l[k]?=some x):canF f k (l.drop k)=(f x k || canF f (k+1) (l.drop (k+1))):=by
 have h1:l.drop k=x::l.drop (k+1):=by rw[List.drop_eq_getElem_cons (List.getElem?_eq_some_iff.1 h).1,(List.getElem?_eq_some_iff.1 h).2]
 rw[h1]
 rfl
def askB (inn:Bool) (ds:List De) (d:De) (k:Nat):Bool:=!(mkB inn d) && (ixF (relB d.rel) 0 ds == (k:Int))
theorem relB_iff {s:ByteArray} {d:De}:relB s d=true ↔ d.rel.data.toList=s.data.toList:=by
 unfold relB
 rw[Lib.toList_data,Lib.toList_data]
 simp
theorem markL_ix {s:ByteArray} {inn:Bool}:∀ (ds:List De) (k:Nat),(ixF (relB s) k ds < 0∧markL s inn ds=none)∨∃ (i:Nat) (d:De),ixF (relB s) k ds=((k+i:Nat):Int)∧ds[i]?=some d∧relB s d=true ∧
  markL s inn ds=if mkB inn d=true then none else some (ds.set i { d with inn:=d.inn || inn,out:=d.out || !inn })
 | [],k=>.inl ⟨by simp[ixF],by simp[markL]⟩
 | d::ds,k=>by
  unfold ixF markL
  cases hr:relB s d with
  | true=>
   right
   refine⟨0,d,by simp,rfl,hr,?_⟩
   rw[if_pos (relB_iff.1 hr)]
   unfold mkB
   split <;> rfl
  | false=>
   have hn:¬ d.rel.data.toList=s.data.toList:=fun e=>by rw[relB_iff.2 e] at hr;cases hr
   rw[if_neg (by decide),if_neg hn]
   rcases markL_ix (s:=s) (inn:=inn) ds (k+1) with ⟨h1,h2⟩ | ⟨i,x,h1,h2,h3,h4⟩
   ·exact .inl ⟨h1,by rw[h2];rfl⟩
   ·refine .inr ⟨i+1,x,by rw[h1];simp;omega,by simpa using h2,h3,?_⟩
    rw[h4]
    split
    ·rfl
    ·rfl
theorem canF_any {f:De→Nat→Bool}:∀ (l:List De) (k:Nat),canF f k l=true ↔ ∃ (i:Nat) (d:De),l[i]?=some d∧f d (k+i)=true
 | [],k=>by simp[canF]
 | x::l,k=>by
  unfold canF
  rw[Bool.or_eq_true,canF_any l (k+1)]
  constructor
  ·rintro (h | ⟨i,d,h1,h2⟩)
   ·exact⟨0,x,rfl,h⟩
   ·exact⟨i+1,d,by simpa using h1,by rw[show k+(i+1)=k+1+i by omega];exact h2⟩
  ·rintro⟨i,d,h1,h2⟩
   cases i with
   | zero=>simp at h1;subst h1;exact .inl h2
   | succ i=>exact .inr ⟨i,d,by simpa using h1,by rw[show k+1+i=k+(i+1) by omega];exact h2⟩
theorem canF_eq (inn:Bool) (ds:List De):canF (askB inn ds) 0 ds=canB inn ds:=by
 rw[Bool.eq_iff_iff,canF_any]
 unfold canB
 rw[List.any_eq_true]
 constructor
 ·rintro⟨i,d,h1,h2⟩
  refine⟨d,List.mem_of_getElem? h1,?_⟩
  unfold askB at h2
  rw[Bool.and_eq_true] at h2
  have h3:ixF (relB d.rel) 0 ds=((0+i:Nat):Int):=by simpa using h2.2
  rcases markL_ix (s:=d.rel) (inn:=inn) ds 0 with ⟨h4,_⟩ | ⟨j,x,h4,h5,_,h6⟩
  ·omega
  ·have:i=j:=by omega
   subst this
   obtain rfl:=Option.some.inj (h1.symm.trans h5)
   rw[h6,if_neg (by simpa using h2.1)]
   rfl
 ·rintro⟨d,hd,h⟩
  rcases markL_ix (s:=d.rel) (inn:=inn) ds 0 with ⟨_,h4⟩ | ⟨j,x,h4,h5,h7,h6⟩
  ·rw[h4] at h;cases h
  ·refine⟨j,x,h5,?_⟩
   unfold askB
   have hx:x.rel.data.toList=d.rel.data.toList:=relB_iff.1 h7
   have he:x.rel=d.rel:=bytes_eq hx
   rw[he,h4]
   by_cases hm:mkB inn x=true
   ·rw[h6,if_pos hm] at h;cases h
   ·simp[hm]
set_option maxRecDepth 100000 in
set_option maxHeartbeats 8000000 in
theorem canIn_c (C:RC) (B:Nat) (p:Pg) (du ru:Value) (q:List TokI) (w:World) (h:PgI C B p du ru q w) (hlen:p.decls.length≤60) :
  Calls Tryz.prog 122 #[.pointer (some ⟨C.R,0,none⟩),.func (.func 82) #[] #[]] w fun e w'=>e=.returned (.bool (canB true p.decls))∧Below w.heap.size w w':=by
 have hltR:=h.rd.lt
 rw[← canF_eq]
 obtain⟨od,cd,hdu⟩:=h.formD
 subst hdu
 obtain⟨c2,_,_,_⟩:=h.row
 obtain⟨o,cap,he,hcap,hcm,S⟩:=SlOf.open h.decls
 cases he
 have HI:=hid h
 have HB0:Hid (Below w.heap.size w w):=hid (Below.refl _ _)
 have hln:p.decls.length≤9223372036854775807:=by omega
 clear h
 go_enter Tryz.func122,Tryz.ntmps122
 go_wp2
 go_loopw [13] (fun i wr=>∃ k:Nat,k≤p.decls.length∧i=.int .i64 (k:Int)∧canF (askB true p.decls) 0 p.decls=canF (askB true p.decls) k (p.decls.drop k)∧Below w.heap.size w wr) (fun i _=>p.decls.length - (intOf i).toNat)
 case atStart=>exact⟨0,Nat.zero_le _,rfl,rfl,HB0.out⟩
 case round=>
  obtain⟨k,hk,rfl,hix,hB⟩:=hrel
  have hBs:=hB.size
  have r2:=(hB.cell (p:=⟨C.R,2,none⟩) hltR).trans c2
  have hltr:C.R < wr.heap.size:=by omega
  by_cases hlt:k < p.decls.length
  ·have hlt':(k:Int) < (p.decls.length:Int):=by omega
   obtain⟨u,hu⟩:∃ u,p.decls[k]?=some u:=⟨p.decls[k],List.getElem?_eq_getElem hlt⟩
   obtain⟨b,p1,q1,p2,q2,rfl,hbb,Hc,d0,d1,d2,d3,d4,d5⟩:=de_at S hB hu
   have hbl:(b.add (k * 6)).block < wr.heap.size:=by rw[addBlock];omega
   have Hix:=hid (hix.trans (canF_drop hu))
   have HF:=hid (firstOf_c C B p _ ru q wr (HI.out.below hB) hlen u.rel)
   clear hu hix Hc d1 d2 d4 d5
   cases hm:u.inn with
   | true=>
    rw[hm] at d3
    have Hr:Hid (canF (askB true p.decls) 0 p.decls=canF (askB true p.decls) (k+1) (p.decls.drop (k+1))):=hid (by rw[Hix.out];unfold askB mkB;simp[hm])
    clear hm
    go_wp2_with fail
    refine (inMark_c _ wr).mono ?_
    rintro e w2 ⟨rfl,rfl⟩
    go_wp2
    go_roundw
    case rel=>exact⟨k+1,by omega,by go_num,Hr.out,hB⟩
    case measure=>simp[intOf];omega
   | false=>
    rw[hm] at d3
    have Hm:=hid hm
    clear hm
    go_wp2_with fail
    refine (inMark_c _ wr).mono ?_
    rintro e w2 ⟨rfl,rfl⟩
    go_wp2_with fail
    refine HF.out.mono ?_
    rintro e w3 ⟨rfl,b3⟩
    have HB3:=hid (hB.trans (b3.mono hBs))
    clear b3
    obtain⟨x,hx⟩:∃ x,ixF (relB u.rel) 0 p.decls=x:=⟨_,rfl⟩
    rw[hx]
    cases hxk:(x == (k:Int)) with
    | true=>
     have Hr:Hid (canF (askB true p.decls) 0 p.decls=true):=hid (by rw[Hix.out];unfold askB mkB;rw[hx,hxk];simp[Hm.out])
     clear hx
     go_wp2
     go_ret
     exact⟨by rw[Hr.out];rfl,HB3.out⟩
    | false=>
     have Hr:Hid (canF (askB true p.decls) 0 p.decls=canF (askB true p.decls) (k+1) (p.decls.drop (k+1))):=hid (by rw[Hix.out];unfold askB mkB;rw[hx,hxk];simp)
     clear hx
     go_wp2
     go_roundw
     case rel=>exact⟨k+1,by omega,by go_num,Hr.out,HB3.out⟩
     case measure=>simp[intOf];omega
  ·have hlt':¬ (k:Int) < (p.decls.length:Int):=by omega
   have Hr:Hid (canF (askB true p.decls) 0 p.decls=false):=hid (by rw[hix,List.drop_of_length_le (by omega)];rfl)
   clear hix
   go_wp2
   go_ret
   exact⟨by rw[Hr.out];rfl,hB⟩
set_option maxRecDepth 100000 in
set_option maxHeartbeats 8000000 in
theorem canOut_c (C:RC) (B:Nat) (p:Pg) (du ru:Value) (q:List TokI) (w:World) (h:PgI C B p du ru q w) (hlen:p.decls.length≤60) :
  Calls Tryz.prog 122 #[.pointer (some ⟨C.R,0,none⟩),.func (.func 83) #[] #[]] w fun e w'=>e=.returned (.bool (canB false p.decls))∧Below w.heap.size w w':=by
 have hltR:=h.rd.lt
 rw[← canF_eq]
 obtain⟨od,cd,hdu⟩:=h.formD
 subst hdu
 obtain⟨c2,_,_,_⟩:=h.row
 obtain⟨o,cap,he,hcap,hcm,S⟩:=SlOf.open h.decls
 cases he
 have HI:=hid h
 have HB0:Hid (Below w.heap.size w w):=hid (Below.refl _ _)
 have hln:p.decls.length≤9223372036854775807:=by omega
 clear h
 go_enter Tryz.func122,Tryz.ntmps122
 go_wp2
 go_loopw [13] (fun i wr=>∃ k:Nat,k≤p.decls.length∧i=.int .i64 (k:Int)∧canF (askB false p.decls) 0 p.decls=canF (askB false p.decls) k (p.decls.drop k)∧Below w.heap.size w wr) (fun i _=>p.decls.length - (intOf i).toNat)
 case atStart=>exact⟨0,Nat.zero_le _,rfl,rfl,HB0.out⟩
 case round=>
  obtain⟨k,hk,rfl,hix,hB⟩:=hrel
  have hBs:=hB.size
  have r2:=(hB.cell (p:=⟨C.R,2,none⟩) hltR).trans c2
  have hltr:C.R < wr.heap.size:=by omega
  by_cases hlt:k < p.decls.length
  ·have hlt':(k:Int) < (p.decls.length:Int):=by omega
   obtain⟨u,hu⟩:∃ u,p.decls[k]?=some u:=⟨p.decls[k],List.getElem?_eq_getElem hlt⟩
   obtain⟨b,p1,q1,p2,q2,rfl,hbb,Hc,d0,d1,d2,d3,d4,d5⟩:=de_at S hB hu
   have hbl:(b.add (k * 6)).block < wr.heap.size:=by rw[addBlock];omega
   have Hix:=hid (hix.trans (canF_drop hu))
   have HF:=hid (firstOf_c C B p _ ru q wr (HI.out.below hB) hlen u.rel)
   clear hu hix Hc d1 d2 d3 d5
   cases hm:u.out with
   | true=>
    rw[hm] at d4
    have Hr:Hid (canF (askB false p.decls) 0 p.decls=canF (askB false p.decls) (k+1) (p.decls.drop (k+1))):=hid (by rw[Hix.out];unfold askB mkB;simp[hm])
    clear hm
    go_wp2_with fail
    refine (outMark_c _ wr).mono ?_
    rintro e w2 ⟨rfl,rfl⟩
    go_wp2
    go_roundw
    case rel=>exact⟨k+1,by omega,by go_num,Hr.out,hB⟩
    case measure=>simp[intOf];omega
   | false=>
    rw[hm] at d4
    have Hm:=hid hm
    clear hm
    go_wp2_with fail
    refine (outMark_c _ wr).mono ?_
    rintro e w2 ⟨rfl,rfl⟩
    go_wp2_with fail
    refine HF.out.mono ?_
    rintro e w3 ⟨rfl,b3⟩
    have HB3:=hid (hB.trans (b3.mono hBs))
    clear b3
    obtain⟨x,hx⟩:∃ x,ixF (relB u.rel) 0 p.decls=x:=⟨_,rfl⟩
    rw[hx]
    cases hxk:(x == (k:Int)) with
    | true=>
     have Hr:Hid (canF (askB false p.decls) 0 p.decls=true):=hid (by rw[Hix.out];unfold askB mkB;rw[hx,hxk];simp[Hm.out])
     clear hx
     go_wp2
     go_ret
     exact⟨by rw[Hr.out];rfl,HB3.out⟩
    | false=>
     have Hr:Hid (canF (askB false p.decls) 0 p.decls=canF (askB false p.decls) (k+1) (p.decls.drop (k+1))):=hid (by rw[Hix.out];unfold askB mkB;rw[hx,hxk];simp)
     clear hx
     go_wp2
     go_roundw
     case rel=>exact⟨k+1,by omega,by go_num,Hr.out,HB3.out⟩
     case measure=>simp[intOf];omega
  ·have hlt':¬ (k:Int) < (p.decls.length:Int):=by omega
   have Hr:Hid (canF (askB false p.decls) 0 p.decls=false):=hid (by rw[hix,List.drop_of_length_le (by omega)];rfl)
   clear hix
   go_wp2
   go_ret
   exact⟨by rw[Hr.out];rfl,hB⟩
theorem own_put {W:World} {base g n cp z j:Nat} {e:TypeId} {xs:List Value} {u:Value} (h:W.ownsRow base e z (.slice (some ⟨g,0,none⟩) n cp) n xs) (hj:j < xs.length) :
  (W.setCell ⟨g,j,none⟩ u).ownsRow base e z (.slice (some ⟨g,0,none⟩) n cp) n (xs.set j u):=by
 obtain⟨h1,h2⟩:=h
 rcases h2 with ⟨h3,_⟩ | ⟨g',cap,cur,hv,hb,hh,hc,hm,hsz,ht⟩
 ·cases h3
 ·cases hv
  refine⟨by rw[List.length_set];exact h1,.inr ⟨g,cp,cur.setIfInBounds j u,rfl,hb,row_set hh j u,hc,hm,by simp[hsz],?_⟩⟩
  rw[← ht,Array.toList_setIfInBounds,List.take_set]
theorem set_cells {z i k:Nat} {α:Type} {L:α→List Value→Prop} {acc:List α} {xs:List Value} {x:α} {u:Value} (h:Laid z L acc xs) (hk:k < z) {d:α} (hd:acc[i]?=some d) (hL:∀ cs,cs.length=z→L d cs→L x (cs.set k u)):Laid z L (acc.set i x) (xs.set (i * z+k) u):=by
 obtain⟨h1,h2⟩:=h
 have hi:=(List.getElem?_eq_some_iff.1 hd).1
 refine⟨by rw[List.length_set,List.length_set];exact h1,fun j y hy=>?_⟩
 by_cases hji:j=i
 ·subst hji
  rw[List.getElem?_set_self hi] at hy
  obtain rfl:=Option.some.inj hy
  obtain⟨cs,hz,hl,hc⟩:=h2 j d hd
  refine⟨cs.set k u,by rw[List.length_set];exact hz,hL cs hz hl,fun m c hm=>?_⟩
  by_cases hmk:m=k
  ·subst hmk
   have hlt:m < cs.length:=by omega
   rw[List.getElem?_set_self hlt] at hm
   have hx:j * z+m < xs.length:=by
    have:=hc m (cs[m]) (List.getElem?_eq_getElem hlt)
    exact (List.getElem?_eq_some_iff.1 this).1
   rw[List.getElem?_set_self hx]
   exact hm
  ·rw[List.getElem?_set_ne (fun e=>hmk e.symm)] at hm
   rw[List.getElem?_set_ne (by omega)]
   exact hc m c hm
 ·rw[List.getElem?_set_ne (fun e=>hji e.symm)] at hy
  obtain⟨cs,hz,hl,hc⟩:=h2 j y hy
  refine⟨cs,hz,hl,fun m c hm=>?_⟩
  have hmz:m < z:=by have:=(List.getElem?_eq_some_iff.1 hm).1;omega
  rw[List.getElem?_set_ne ?_]
  ·exact hc m c hm
  ·intro e
   rcases Nat.lt_or_gt_of_ne hji with hlt | hgt
   ·have:(j+1) * z≤i * z:=Nat.mul_le_mul_right z hlt
    rw[Nat.add_mul,Nat.one_mul] at this
    omega
   ·have:(i+1) * z≤j * z:=Nat.mul_le_mul_right z hgt
    rw[Nat.add_mul,Nat.one_mul] at this
    omega
def markD (inn:Bool) (d:De):De:={ d with inn:=d.inn || inn,out:=d.out || !inn }
theorem PgI.mark {C:RC} {B:Nat} {p:Pg} {du ru:Value} {q:List TokI} {W:World} (h:PgI C B p du ru q W) (inn:Bool) {i:Nat} {d:De} (hd:p.decls[i]?=some d) {a:Addr} {n cap:Nat} (hdu:du=.slice (some a) n cap) :
  PgI C B ⟨p.decls.set i (markD inn d),p.rules⟩ du ru q (W.setCell ⟨(a.add (i * 6)).block,(a.add (i * 6)).off+(if inn=true then 3 else 4),none⟩ (.bool true))∧BR C.R B W (W.setCell ⟨(a.add (i * 6)).block,(a.add (i * 6)).off+(if inn=true then 3 else 4),none⟩ (.bool true)):=by
 obtain⟨kk,hkk⟩:∃ kk,(if inn=true then 3 else 4)=kk:=⟨_,rfl⟩
 rw[hkk]
 obtain⟨xs,h1,h2⟩:=h.d
 obtain⟨ys,h3,h4⟩:=h.r
 have hRB:=h.RB
 have hi:=(List.getElem?_eq_some_iff.1 hd).1
 have h10:=h1
 rcases h10.2 with ⟨h0,_⟩ | ⟨g,cap',cur,hv,hb,hg,_⟩
 ·rw[hdu] at h0;cases h0
 ·rw[hv] at hdu
  cases hdu
  have hadd:(⟨g,0,none⟩:Addr).add (i * 6)=⟨g,i * 6,none⟩:=by unfold Addr.add;split <;> simp_all
  rw[hadd]
  have ho:du.ownBlock=some g:=by rw[hv];rfl
  have hgl:=h.ownD g ho
  have hk3:kk < 6:=by rw[← hkk];cases inn <;> decide
  have hlen:=h2.1
  have hbl:∀ k,k≠g→(W.setCell ⟨g,i * 6+kk,none⟩ (.bool true)).heap[k]?=W.heap[k]?:=fun k hk=>Below.heap_setCell W ⟨g,_,none⟩ _ k hk
  have hsz:(W.setCell ⟨g,i * 6+kk,none⟩ (.bool true)).heap.size=W.heap.size:=by simp[World.setCell]
  have hvis:Vis (past B (hide2 du ru W)) (past B (hide2 du ru (W.setCell ⟨g,i * 6+kk,none⟩ (.bool true)))):=vis2 fun k h5 h6 h7 h8=>⟨h5,h6,h7,hbl k (fun e=>h6 (by rw[e];exact ho.symm))⟩
  have hB1:Below (C.R+1) W (W.setCell ⟨g,i * 6+kk,none⟩ (.bool true)):=(Below.refl _ _).setCell (p:=⟨g,_,none⟩) (by show C.R+1≤g;omega) _
  refine⟨⟨h.rd.belowR hB1,hRB,by rw[hsz];exact h.BW,⟨xs.set (i * 6+kk) (.bool true),?_,?_⟩,⟨ys,own_set h3 (fun e=>h.ne g ho e) _,h4.mono fun x cs hx=>Vis.ru hx hvis (Nat.le_of_eq hsz.symm)⟩,h.ne⟩,⟨rfl,rfl,rfl,Nat.le_of_eq hsz.symm,fun k h1 _=>hbl k (by omega)⟩⟩
  ·rw[List.length_set]
   rw[hv] at h1 ⊢
   exact own_put h1 (by show i * 6+kk < xs.length;rw[hlen];omega)
  ·refine set_cells (h2.mono fun x cs hx=>Vis.de hx hvis (Nat.le_of_eq hsz.symm)) hk3 hd fun cs _ hx=>?_
   obtain⟨v,u,rfl,e1,e2,e3,e4⟩:=hx
   refine⟨v,u,?_,e1,e2,e3,e4⟩
   unfold markD
   cases inn
   ·have:kk=4:=hkk.symm
    subst this
    simp
   ·have:kk=3:=hkk.symm
    subst this
    simp
set_option maxRecDepth 100000 in
set_option maxHeartbeats 16000000 in
theorem markIn_c (C:RC) (B:Nat) (p:Pg) (du ru:Value) (q:List TokI) (w:World) (h:PgI C B p du ru q w) (hq:q≠[]) (hlen:p.decls.length≤60) :
  Calls Tryz.prog 81 #[.pointer (some ⟨C.R,0,none⟩),.func (.func 82) #[] #[]] w (ThR C B (match markQ true p.decls q with | .error e=>.error e | .ok (ds,q)=>.ok (⟨ds,p.rules⟩,q)) w):=by
 have hltR:=h.rd.lt
 obtain⟨r,hr⟩:∃ r:Res Pg,(match markQ true p.decls q with | .error e=>.error e | .ok (ds,q)=>.ok (⟨ds,p.rules⟩,q))=r:=⟨_,rfl⟩
 rw[hr]
 have HI:=hid h
 have HC:=hid (canIn_c C B p du ru q w h hlen)
 have Hq:=hid hq
 have Hr:=hid hr
 clear h hq hr
 cases hcan:canB true p.decls with
 | false=>
  have He:Hid (r=.error (40,lineL q)):=hid (by rw[← Hr.out];unfold markQ;rw[if_neg (by rw[hcan];decide)])
  have Hcan:=hid hcan
  clear hcan
  go_enter Tryz.func81,Tryz.ntmps81
  go_wp2_with fail
  refine HC.out.mono ?_
  rintro e w1 ⟨rfl,b1⟩
  rw[Hcan.out]
  go_wp2_with fail
  refine (fail_c C du ru q 40 w1 (HI.out.below b1).rd).mono ?_
  rintro e w2 ⟨rfl,b2⟩
  have B2:=hid (b1.trans (b2.mono b1.size))
  clear b1 b2
  go_wp2
  go_ret
  exact ThR.bad He.out (below_R B2.out HI.out.BW) (keeps_below B2.out)
 | true=>
  have He:Hid (r=match (match q.tail with | []=>(.error (40,0):Res (List De)) | t::r=>if t.kind=1 then (match markL t.s true p.decls with | none=>.error (40,t.line) | some ds=>.ok (ds,r)) else .error (40,t.line)) with | .error e=>.error e | .ok (ds,q)=>.ok (⟨ds,p.rules⟩,q)):=hid (by rw[← Hr.out];unfold markQ;rw[if_pos hcan];rfl)
  have Hcan:=hid hcan
  clear hcan Hr
  go_enter Tryz.func81,Tryz.ntmps81
  go_wp2_with fail
  refine HC.out.mono ?_
  rintro e w1 ⟨rfl,b1⟩
  rw[Hcan.out]
  have I1:=hid (HI.out.below b1)
  have G1:=hid (Gr.of_below (R:=C.R) b1)
  have K1:=hid (keeps_below b1)
  clear b1
  go_wp2_with fail
  refine (step_c C du ru q Hq.out w1 I1.out.rd).mono ?_
  rintro e w2 ⟨rfl,r2,g2⟩
  have I2:=hid (I1.out.gr g2 r2)
  have G2:=hid (G1.out.trans g2)
  have K2:=hid (K1.out.trans (I1.out.rd.keeps g2))
  clear r2 g2
  go_wp2_with fail
  refine (here_c C du ru q.tail w2 I2.out.rd).mono ?_
  rintro e w3 ⟨rfl,b3⟩
  obtain⟨T,hT⟩:∃ T,hdT q.tail=T:=⟨_,rfl⟩
  rw[hT]
  obtain⟨nb,hnb⟩:∃ nb,w3.heap.size=nb:=⟨_,rfl⟩
  obtain⟨W4,hW4⟩:∃ W4,w3.alloc (.cells #[.int .i64 T.kind,.string T.s,.int .i64 T.line] 89)=W4:=⟨_,rfl⟩
  have hb4:Below w3.heap.size w3 W4:=by rw[← hW4];exact (Below.refl _ _).alloc (Nat.le_refl _) _
  have hr4:Row nb 89 [.int .i64 T.kind,.string T.s,.int .i64 T.line] W4:=by rw[← hW4,← hnb];exact Row.new w3 _ _
  have I4:=hid ((I2.out.below b3).below hb4)
  have G4:=hid ((G2.out.trans (Gr.of_below b3)).trans (Gr.of_below hb4))
  have K4:=hid ((K2.out.trans (keeps_below b3)).trans (keeps_below hb4))
  have Hr4:=hid hr4
  have HF:=hid (firstOf_c C B p du ru q.tail W4 I4.out hlen T.s)
  have He2:Hid (r=if T.kind=1 then (match markL T.s true p.decls with | none=>.error (40,lineL q.tail) | some ds=>.ok (⟨ds,p.rules⟩,q.tail.tail)) else .error (40,lineL q.tail)):=hid (by
   rw[He.out,← hT]
   cases q.tail with
   | nil=>rfl
   | cons t l=>
    show (match (if t.kind=1 then (match markL t.s true p.decls with | none=>(.error (40,t.line):Res (List De)) | some ds=>.ok (ds,l)) else .error (40,t.line)) with | .error e=>.error e | .ok (ds,q)=>.ok (⟨ds,p.rules⟩,q))=if t.kind=1 then (match markL t.s true p.decls with | none=>(.error (40,t.line):Res Pg) | some ds=>.ok (⟨ds,p.rules⟩,l)) else .error (40,t.line)
    by_cases h1:t.kind=1
    ·rw[if_pos h1,if_pos h1]
     cases markL t.s true p.decls with
     | none=>rfl
     | some ds=>rfl
    ·rw[if_neg h1,if_neg h1])
  have t1:(w3.alloc (.cells #[.int .i64 T.kind,.string T.s,.int .i64 T.line] 89)).heap.size=nb+1:=by simp[hnb]
  have HW4:=hid hW4
  have Hne:Hid (T.kind=1→q.tail≠[]):=hid (fun hk e=>by rw[e] at hT;rw[← hT] at hk;exact absurd hk (show ¬ (0:Int)=1 by decide))
  clear b3 hb4 hr4 hT He
  subst hW4
  go_wp2_with fail
  refine HF.out.mono ?_
  rintro e w5 ⟨rfl,b5⟩
  have I5:=hid (I4.out.below b5)
  have G5:=hid (G4.out.trans (Gr.of_below b5))
  have K5:=hid (K4.out.trans (keeps_below b5))
  have Hr5:=hid (Hr4.out.below b5 Hr4.out.lt)
  have hn5:=Hr5.out.lt
  have k0:=Hr5.out.at 0 _ rfl
  clear b5 t1
  by_cases hk:T.kind=1
  ·have hk':(T.kind != 1)=false:=by simp[hk]
   have He3:Hid (r=match markL T.s true p.decls with | none=>.error (40,lineL q.tail) | some ds=>.ok (⟨ds,p.rules⟩,q.tail.tail)):=hid (by rw[He2.out,if_pos hk])
   have Hne2:=hid (Hne.out hk)
   clear hk
   rcases markL_ix (s:=T.s) (inn:=true) p.decls 0 with ⟨hx,hm⟩ | ⟨i,d,hx,hd,_,hm⟩
   ·obtain⟨x,hxe⟩:∃ x,ixF (relB T.s) 0 p.decls=x:=⟨_,rfl⟩
    rw[hxe] at hx ⊢
    have hx':decide (x < 0)=true:=by simpa using hx
    have He4:Hid (r=.error (40,lineL q.tail)):=hid (by rw[He3.out,hm])
    clear hxe hm
    go_wp2_with fail
    refine (fail_c C du ru q.tail 40 w5 I5.out.rd).mono ?_
    rintro e w6 ⟨rfl,b6⟩
    have B6:=hid b6
    clear b6
    go_wp2
    go_ret
    exact ThR.bad He4.out ((G5.out.trans (Gr.of_below B6.out)).R HI.out.BW) (K5.out.trans (keeps_below B6.out))
   ·rw[Nat.zero_add] at hx
    rw[hx]
    have hi:i < p.decls.length:=(List.getElem?_eq_some_iff.1 hd).1
    obtain⟨od,cd,hdu⟩:=I5.out.formD
    have SD:=I5.out.decls
    rw[hdu] at SD
    obtain⟨o',cap',he,hcap,hcm,S⟩:=SlOf.open SD
    cases he
    obtain⟨b,p1,q1,p2,q2,hob,hbb,Hc,d0,d1,d2,d3,d4,d5⟩:=de_at S (Below.refl _ _) hd
    subst hob
    have c2:w5.cell? ⟨C.R,2,none⟩=some (.slice (some b) p.decls.length cd):=by rw[← hdu];exact I5.out.row.1
    have hR5:C.R < w5.heap.size:=I5.out.rd.lt
    have hbl:(b.add (i * 6)).block < w5.heap.size:=by rw[addBlock];omega
    have hi0:(0:Int)≤(i:Int):=by omega
    have hi1:(i:Int) < (p.decls.length:Int):=by omega
    have hneg:decide ((i:Int) < 0)=false:=by simp
    have hneg2:¬ (i:Int) < 0:=by omega
    have PM:=I5.out.mark true hd hdu
    rw[if_pos rfl] at PM
    have HPM:=hid PM
    have Hd3:=d3
    clear PM SD S Hc d0 d1 d2 d4 d5
    cases hdi:d.inn with
    | true=>
     rw[hdi] at d3
     have He4:Hid (r=.error (40,lineL q.tail)):=hid (by rw[He3.out,hm,if_pos (show mkB true d=true from hdi)])
     clear hm Hd3
     go_wp2_with fail
     refine (inMark_c _ w5).mono ?_
     rintro e w6 ⟨rfl,rfl⟩
     go_wp2_with fail
     refine (fail_c C du ru q.tail 40 w6 I5.out.rd).mono ?_
     rintro e w7 ⟨rfl,b7⟩
     have B7:=hid b7
     clear b7
     go_wp2
     go_ret
     exact ThR.bad He4.out ((G5.out.trans (Gr.of_below B7.out)).R HI.out.BW) (K5.out.trans (keeps_below B7.out))
    | false=>
     rw[hdi] at d3
     have He4:Hid (r=.ok (⟨p.decls.set i (markD true d),p.rules⟩,q.tail.tail)):=hid (by rw[He3.out,hm,if_neg (by show ¬ d.inn=true;rw[hdi];decide)];rfl)
     have fz:w5.frozen? ⟨(b.add (i * 6)).block,(b.add (i * 6)).off+3,none⟩=false:=by
      obtain⟨xs,h1,_⟩:=I5.out.d
      rcases h1.2 with ⟨h0,_⟩ | ⟨g,cap2,cur,hv,hb2,hg,_⟩
      ·rw[hdu] at h0;cases h0
      ·rw[hdu] at hv
       cases hv
       unfold World.frozen?
       rw[addBlock,hg]
       simp
     clear hm Hd3
     go_wp2_with fail
     refine (inMark_c _ w5).mono ?_
     rintro e w6 ⟨rfl,rfl⟩
     go_wp2_with fail
     refine (inMark_c _ w6).mono ?_
     rintro e w7 ⟨rfl,rfl⟩
     obtain⟨W8,hW8⟩:∃ W8,w7.setCell ⟨(b.add (i * 6)).block,(b.add (i * 6)).off+3,none⟩ (.bool true)=W8:=⟨_,rfl⟩
     have I8:=HPM.out.1
     rw[hW8] at I8
     have HS:=hid (step_c C du ru q.tail Hne2.out W8 I8.rd)
     have B8:=hid (HPM.out.2)
     have HI8:=hid I8
     have KO8:Hid (KeepsOthers w7 W8):=hid (by rw[← hW8];exact KeepsOthers.setCell _ _ _)
     have HW8:=hid hW8
     clear hW8 I8
     go_wp2_with fail
     rw[HW8.out]
     refine HS.out.mono ?_
     rintro e w9 ⟨rfl,r9,g9⟩
     have I9:=hid (HI8.out.gr g9 r9)
     have G9:=hid g9
     clear r9 g9
     go_wp2
     go_ret
     have hb8:BR C.R B w7 W8:=by have:=B8.out;rwa [HW8.out] at this
     exact ThR.good He4.out I9.out (((G5.out.R HI.out.BW).trans hb8).trans (G9.out.R HI8.out.BW)) ((K5.out.trans KO8.out).trans (HI8.out.rd.keeps G9.out))
  ·have hk':(T.kind != 1)=true:=by simpa using hk
   have He4:Hid (r=.error (40,lineL q.tail)):=hid (by rw[He2.out,if_neg hk])
   clear hk
   go_wp2_with fail
   refine (fail_c C du ru q.tail 40 w5 I5.out.rd).mono ?_
   rintro e w6 ⟨rfl,b6⟩
   have B6:=hid b6
   clear b6
   go_wp2
   go_ret
   exact ThR.bad He4.out ((G5.out.trans (Gr.of_below B6.out)).R HI.out.BW) (K5.out.trans (keeps_below B6.out))
set_option maxRecDepth 100000 in
set_option maxHeartbeats 16000000 in
theorem markOut_c (C:RC) (B:Nat) (p:Pg) (du ru:Value) (q:List TokI) (w:World) (h:PgI C B p du ru q w) (hq:q≠[]) (hlen:p.decls.length≤60) :
  Calls Tryz.prog 81 #[.pointer (some ⟨C.R,0,none⟩),.func (.func 83) #[] #[]] w (ThR C B (match markQ false p.decls q with | .error e=>.error e | .ok (ds,q)=>.ok (⟨ds,p.rules⟩,q)) w):=by
 have hltR:=h.rd.lt
 obtain⟨r,hr⟩:∃ r:Res Pg,(match markQ false p.decls q with | .error e=>.error e | .ok (ds,q)=>.ok (⟨ds,p.rules⟩,q))=r:=⟨_,rfl⟩
 rw[hr]
 have HI:=hid h
 have HC:=hid (canOut_c C B p du ru q w h hlen)
 have Hq:=hid hq
 have Hr:=hid hr
 clear h hq hr
 cases hcan:canB false p.decls with
 | false=>
  have He:Hid (r=.error (40,lineL q)):=hid (by rw[← Hr.out];unfold markQ;rw[if_neg (by rw[hcan];decide)])
  have Hcan:=hid hcan
  clear hcan
  go_enter Tryz.func81,Tryz.ntmps81
  go_wp2_with fail
  refine HC.out.mono ?_
  rintro e w1 ⟨rfl,b1⟩
  rw[Hcan.out]
  go_wp2_with fail
  refine (fail_c C du ru q 40 w1 (HI.out.below b1).rd).mono ?_
  rintro e w2 ⟨rfl,b2⟩
  have B2:=hid (b1.trans (b2.mono b1.size))
  clear b1 b2
  go_wp2
  go_ret
  exact ThR.bad He.out (below_R B2.out HI.out.BW) (keeps_below B2.out)
 | true=>
  have He:Hid (r=match (match q.tail with | []=>(.error (40,0):Res (List De)) | t::r=>if t.kind=1 then (match markL t.s false p.decls with | none=>.error (40,t.line) | some ds=>.ok (ds,r)) else .error (40,t.line)) with | .error e=>.error e | .ok (ds,q)=>.ok (⟨ds,p.rules⟩,q)):=hid (by rw[← Hr.out];unfold markQ;rw[if_pos hcan];rfl)
  have Hcan:=hid hcan
  clear hcan Hr
  go_enter Tryz.func81,Tryz.ntmps81
  go_wp2_with fail
  refine HC.out.mono ?_
  rintro e w1 ⟨rfl,b1⟩
  rw[Hcan.out]
  have I1:=hid (HI.out.below b1)
  have G1:=hid (Gr.of_below (R:=C.R) b1)
  have K1:=hid (keeps_below b1)
  clear b1
  go_wp2_with fail
  refine (step_c C du ru q Hq.out w1 I1.out.rd).mono ?_
  rintro e w2 ⟨rfl,r2,g2⟩
  have I2:=hid (I1.out.gr g2 r2)
  have G2:=hid (G1.out.trans g2)
  have K2:=hid (K1.out.trans (I1.out.rd.keeps g2))
  clear r2 g2
  go_wp2_with fail
  refine (here_c C du ru q.tail w2 I2.out.rd).mono ?_
  rintro e w3 ⟨rfl,b3⟩
  obtain⟨T,hT⟩:∃ T,hdT q.tail=T:=⟨_,rfl⟩
  rw[hT]
  obtain⟨nb,hnb⟩:∃ nb,w3.heap.size=nb:=⟨_,rfl⟩
  obtain⟨W4,hW4⟩:∃ W4,w3.alloc (.cells #[.int .i64 T.kind,.string T.s,.int .i64 T.line] 89)=W4:=⟨_,rfl⟩
  have hb4:Below w3.heap.size w3 W4:=by rw[← hW4];exact (Below.refl _ _).alloc (Nat.le_refl _) _
  have hr4:Row nb 89 [.int .i64 T.kind,.string T.s,.int .i64 T.line] W4:=by rw[← hW4,← hnb];exact Row.new w3 _ _
  have I4:=hid ((I2.out.below b3).below hb4)
  have G4:=hid ((G2.out.trans (Gr.of_below b3)).trans (Gr.of_below hb4))
  have K4:=hid ((K2.out.trans (keeps_below b3)).trans (keeps_below hb4))
  have Hr4:=hid hr4
  have HF:=hid (firstOf_c C B p du ru q.tail W4 I4.out hlen T.s)
  have He2:Hid (r=if T.kind=1 then (match markL T.s false p.decls with | none=>.error (40,lineL q.tail) | some ds=>.ok (⟨ds,p.rules⟩,q.tail.tail)) else .error (40,lineL q.tail)):=hid (by
   rw[He.out,← hT]
   cases q.tail with
   | nil=>rfl
   | cons t l=>
    show (match (if t.kind=1 then (match markL t.s false p.decls with | none=>(.error (40,t.line):Res (List De)) | some ds=>.ok (ds,l)) else .error (40,t.line)) with | .error e=>.error e | .ok (ds,q)=>.ok (⟨ds,p.rules⟩,q))=if t.kind=1 then (match markL t.s false p.decls with | none=>(.error (40,t.line):Res Pg) | some ds=>.ok (⟨ds,p.rules⟩,l)) else .error (40,t.line)
    by_cases h1:t.kind=1
    ·rw[if_pos h1,if_pos h1]
     cases markL t.s false p.decls with
     | none=>rfl
     | some ds=>rfl
    ·rw[if_neg h1,if_neg h1])
  have t1:(w3.alloc (.cells #[.int .i64 T.kind,.string T.s,.int .i64 T.line] 89)).heap.size=nb+1:=by simp[hnb]
  have HW4:=hid hW4
  have Hne:Hid (T.kind=1→q.tail≠[]):=hid (fun hk e=>by rw[e] at hT;rw[← hT] at hk;exact absurd hk (show ¬ (0:Int)=1 by decide))
  clear b3 hb4 hr4 hT He
  subst hW4
  go_wp2_with fail
  refine HF.out.mono ?_
  rintro e w5 ⟨rfl,b5⟩
  have I5:=hid (I4.out.below b5)
  have G5:=hid (G4.out.trans (Gr.of_below b5))
  have K5:=hid (K4.out.trans (keeps_below b5))
  have Hr5:=hid (Hr4.out.below b5 Hr4.out.lt)
  have hn5:=Hr5.out.lt
  have k0:=Hr5.out.at 0 _ rfl
  clear b5 t1
  by_cases hk:T.kind=1
  ·have hk':(T.kind != 1)=false:=by simp[hk]
   have He3:Hid (r=match markL T.s false p.decls with | none=>.error (40,lineL q.tail) | some ds=>.ok (⟨ds,p.rules⟩,q.tail.tail)):=hid (by rw[He2.out,if_pos hk])
   have Hne2:=hid (Hne.out hk)
   clear hk
   rcases markL_ix (s:=T.s) (inn:=false) p.decls 0 with ⟨hx,hm⟩ | ⟨i,d,hx,hd,_,hm⟩
   ·obtain⟨x,hxe⟩:∃ x,ixF (relB T.s) 0 p.decls=x:=⟨_,rfl⟩
    rw[hxe] at hx ⊢
    have hx':decide (x < 0)=true:=by simpa using hx
    have He4:Hid (r=.error (40,lineL q.tail)):=hid (by rw[He3.out,hm])
    clear hxe hm
    go_wp2_with fail
    refine (fail_c C du ru q.tail 40 w5 I5.out.rd).mono ?_
    rintro e w6 ⟨rfl,b6⟩
    have B6:=hid b6
    clear b6
    go_wp2
    go_ret
    exact ThR.bad He4.out ((G5.out.trans (Gr.of_below B6.out)).R HI.out.BW) (K5.out.trans (keeps_below B6.out))
   ·rw[Nat.zero_add] at hx
    rw[hx]
    have hi:i < p.decls.length:=(List.getElem?_eq_some_iff.1 hd).1
    obtain⟨od,cd,hdu⟩:=I5.out.formD
    have SD:=I5.out.decls
    rw[hdu] at SD
    obtain⟨o',cap',he,hcap,hcm,S⟩:=SlOf.open SD
    cases he
    obtain⟨b,p1,q1,p2,q2,hob,hbb,Hc,d0,d1,d2,d3,d4,d5⟩:=de_at S (Below.refl _ _) hd
    subst hob
    have c2:w5.cell? ⟨C.R,2,none⟩=some (.slice (some b) p.decls.length cd):=by rw[← hdu];exact I5.out.row.1
    have hR5:C.R < w5.heap.size:=I5.out.rd.lt
    have hbl:(b.add (i * 6)).block < w5.heap.size:=by rw[addBlock];omega
    have hi0:(0:Int)≤(i:Int):=by omega
    have hi1:(i:Int) < (p.decls.length:Int):=by omega
    have hneg:decide ((i:Int) < 0)=false:=by simp
    have hneg2:¬ (i:Int) < 0:=by omega
    have PM:=I5.out.mark false hd hdu
    rw[if_neg (by decide)] at PM
    have HPM:=hid PM
    have Hd3:=d4
    clear PM SD S Hc d0 d1 d2 d3 d5
    cases hdi:d.out with
    | true=>
     rw[hdi] at d4
     have He4:Hid (r=.error (40,lineL q.tail)):=hid (by rw[He3.out,hm,if_pos (show mkB false d=true from hdi)])
     clear hm Hd3
     go_wp2_with fail
     refine (outMark_c _ w5).mono ?_
     rintro e w6 ⟨rfl,rfl⟩
     go_wp2_with fail
     refine (fail_c C du ru q.tail 40 w6 I5.out.rd).mono ?_
     rintro e w7 ⟨rfl,b7⟩
     have B7:=hid b7
     clear b7
     go_wp2
     go_ret
     exact ThR.bad He4.out ((G5.out.trans (Gr.of_below B7.out)).R HI.out.BW) (K5.out.trans (keeps_below B7.out))
    | false=>
     rw[hdi] at d4
     have He4:Hid (r=.ok (⟨p.decls.set i (markD false d),p.rules⟩,q.tail.tail)):=hid (by rw[He3.out,hm,if_neg (by show ¬ d.out=true;rw[hdi];decide)];rfl)
     have fz:w5.frozen? ⟨(b.add (i * 6)).block,(b.add (i * 6)).off+4,none⟩=false:=by
      obtain⟨xs,h1,_⟩:=I5.out.d
      rcases h1.2 with ⟨h0,_⟩ | ⟨g,cap2,cur,hv,hb2,hg,_⟩
      ·rw[hdu] at h0;cases h0
      ·rw[hdu] at hv
       cases hv
       unfold World.frozen?
       rw[addBlock,hg]
       simp
     clear hm Hd3
     go_wp2_with fail
     refine (outMark_c _ w5).mono ?_
     rintro e w6 ⟨rfl,rfl⟩
     go_wp2_with fail
     refine (outMark_c _ w6).mono ?_
     rintro e w7 ⟨rfl,rfl⟩
     obtain⟨W8,hW8⟩:∃ W8,w7.setCell ⟨(b.add (i * 6)).block,(b.add (i * 6)).off+4,none⟩ (.bool true)=W8:=⟨_,rfl⟩
     have I8:=HPM.out.1
     rw[hW8] at I8
     have HS:=hid (step_c C du ru q.tail Hne2.out W8 I8.rd)
     have B8:=hid (HPM.out.2)
     have HI8:=hid I8
     have KO8:Hid (KeepsOthers w7 W8):=hid (by rw[← hW8];exact KeepsOthers.setCell _ _ _)
     have HW8:=hid hW8
     clear hW8 I8
     go_wp2_with fail
     rw[HW8.out]
     refine HS.out.mono ?_
     rintro e w9 ⟨rfl,r9,g9⟩
     have I9:=hid (HI8.out.gr g9 r9)
     have G9:=hid g9
     clear r9 g9
     go_wp2
     go_ret
     have hb8:BR C.R B w7 W8:=by have:=B8.out;rwa [HW8.out] at this
     exact ThR.good He4.out I9.out (((G5.out.R HI.out.BW).trans hb8).trans (G9.out.R HI8.out.BW)) ((K5.out.trans KO8.out).trans (HI8.out.rd.keeps G9.out))
  ·have hk':(T.kind != 1)=true:=by simpa using hk
   have He4:Hid (r=.error (40,lineL q.tail)):=hid (by rw[He2.out,if_neg hk])
   clear hk
   go_wp2_with fail
   refine (fail_c C du ru q.tail 40 w5 I5.out.rd).mono ?_
   rintro e w6 ⟨rfl,b6⟩
   have B6:=hid b6
   clear b6
   go_wp2
   go_ret
   exact ThR.bad He4.out ((G5.out.trans (Gr.of_below B6.out)).R HI.out.BW) (K5.out.trans (keeps_below B6.out))
end Go.Proofs.YtdgbajnhhhjbcaaGreatDoor
