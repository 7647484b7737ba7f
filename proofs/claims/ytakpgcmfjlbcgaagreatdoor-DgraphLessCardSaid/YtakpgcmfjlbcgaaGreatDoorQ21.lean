/- Ypl@0123, Ytp@0123, Ysm@0123, Ysh0@0123, Gb@0123 -/
import Derived.Laws.AppendOwn
import Derived.Test.YtakpgcmfjlbcgaaGreatDoorQ17
import Derived.Test.YtakpgcmfjlbcgaaGreatDoorQ20
set_option linter.unusedSimpArgs false
set_option linter.unusedVariables false
namespace Go.Proofs.YtakpgcmfjlbcgaaGreatDoor
open Lib(hid)
open Go.RowKit
theorem sl_row {α:Type} {w:World} {base:Nat} {T:TypeId} {v:Value} {l:List α} {f:α→Value} {R:α→List Value→Prop} (h:w.ownsRow base T 1 v l.length (l.map f)) (hR:∀ x ∈ l,R x [f x]):SlOf w w.heap.size 1 R l v:=by
 rcases h.2 with ⟨rfl,h0⟩ | ⟨g,cap,cur,hv,hb,hg,hn,hc,hcur,ht⟩
 ·exact .inl ⟨rfl,List.eq_nil_of_length_eq_zero h0⟩
 ·refine .inr ⟨⟨g,0,none⟩,cap,hv,hn,hc,fun _=>(Array.getElem?_eq_some_iff.1 hg).1,fun i x hx=>⟨[f x],rfl,hR x (List.mem_of_getElem? hx),fun j c hj=>?_⟩⟩
  have h1:=h.cells (g:=g) (by rw[hv];rfl) i (f x) (by simp[hx])
  cases j with
  | zero=>
   have e:f x=c:=by simpa using hj
   subst e
   simpa using h1
  | succ j=>simp at hj
theorem drop_int {l:List Int} {k:Nat} {t:Int} (h:l[k]?=some t):l.drop k=t::l.drop (k+1):=by
 rw[List.drop_eq_getElem_cons (List.getElem?_eq_some_iff.1 h).1,(List.getElem?_eq_some_iff.1 h).2]
set_option maxRecDepth 100000 in
set_option maxHeartbeats 4000000 in
theorem sameInts_c (l m:List Int) (v u:Value) (w:World) (h1:SlOf w w.heap.size 1 IntC l v) (h2:SlOf w w.heap.size 1 IntC m u) :
  Calls Tryz.prog 44 #[v,u] w fun e w'=>e=.returned (.bool (decide (l=m)))∧Below w.heap.size w w':=by
 obtain⟨o1,k1,rfl,_,_,S1⟩:=SlOf.open h1
 obtain⟨o2,k2,rfl,_,_,S2⟩:=SlOf.open h2
 have HB0:Hid (Below w.heap.size w w):=hid (Below.refl _ _)
 clear h1 h2
 by_cases hl:l.length=m.length
 ·have hl':((l.length:Int) != (m.length:Int))=false:=by simp[hl]
  have Hl:=hid hl
  clear hl
  go_enter Tryz.func44,Tryz.ntmps44
  go_wp2
  go_loopw [5] (fun i wr=>∃ k:Nat,k≤l.length∧i=.int .i64 k∧(l=m ↔ l.drop k=m.drop k)∧Below w.heap.size w wr) (fun i _=>l.length - (intOf i).toNat)
  case atStart=>exact⟨0,Nat.zero_le _,rfl,by simp,HB0.out⟩
  case round=>
   obtain⟨k,hk,rfl,hr,hB⟩:=hrel
   have Hr:=hid hr
   clear hr
   by_cases hlt:k < l.length
   ·have hlt':(k:Int) < (l.length:Int):=by omega
    have hlm:k < m.length:=by have:=Hl.out;omega
    have hlm':(k:Int) < (m.length:Int):=by omega
    obtain⟨x,hx⟩:∃ x,l[k]?=some x:=⟨l[k],List.getElem?_eq_getElem hlt⟩
    obtain⟨y,hy⟩:∃ y,m[k]?=some y:=⟨m[k],List.getElem?_eq_getElem hlm⟩
    obtain⟨a,rfl,ha,_,c0⟩:=int_at S1 hB hx
    obtain⟨b,rfl,hb,_,d0⟩:=int_at S2 hB hy
    have Hst:Hid (l.drop k=m.drop k ↔ x=y∧l.drop (k+1)=m.drop (k+1)):=hid (by rw[drop_int hx,drop_int hy];simp)
    clear hx hy
    have g1:decide (0≤(k:Int))=true:=by simp
    have g2:decide ((k:Int) < (l.length:Int))=true:=by simpa using hlt
    have g3:decide ((k:Int) < (m.length:Int))=true:=by simpa using hlm
    cases hxy:(x != y) with
    | true=>
     have Hz:Hid (¬ l=m):=hid fun e=>by
      have:=(Hst.out.1 (Hr.out.1 e)).1
      simp[this] at hxy
     go_wp2_with fail
     go_quiet (fail)
     go_wp2
     go_ret
     exact⟨by rw[decide_eq_false Hz.out];rfl,below_drewN hB⟩
    | false=>
     have Hz:Hid (l=m ↔ l.drop (k+1)=m.drop (k+1)):=hid (Hr.out.trans (Hst.out.trans ⟨fun h=>h.2,fun h=>⟨by simpa using hxy,h⟩⟩))
     go_wp2_with fail
     go_quiet (fail)
     go_wp2
     go_roundw
     case rel=>exact⟨k+1,by omega,by go_num,Hz.out,below_drewN hB⟩
     case measure=>simp[intOf];omega
   ·have hlt':¬ (k:Int) < (l.length:Int):=by omega
    have Hz:Hid (l=m):=hid (Hr.out.2 (by have:=Hl.out;rw[List.drop_of_length_le (by omega),List.drop_of_length_le (by omega)]))
    go_wp2
    go_ret
    exact⟨by rw[decide_eq_true Hz.out];rfl,hB⟩
 ·have hl':((l.length:Int) != (m.length:Int))=true:=by simp;omega
  have Hz:Hid (¬ l=m):=hid fun e=>hl (by rw[e])
  clear hl
  go_enter Tryz.func44,Tryz.ntmps44
  go_wp2
  go_ret
  exact⟨by rw[decide_eq_false Hz.out];rfl,HB0.out⟩
theorem info_int:(Tryz.prog.info? 3).map (fun i=>(i.zero,i.size,i.bytes))=some (some (.int .i64 0),1,8):=by kernel_rfl
theorem news_one (W:World) (v:Value) (T:TypeId):∀ j u,[v][j]?=some u→(W.alloc (.cells #[v] T)).cell? ((⟨W.heap.size,0,none⟩:Addr).add j)=some u:=World.news_of_block (World.alloc_heap_new W (.cells #[v] T))
theorem grown_past {a b:World} {o:Obj} {row:Option Nat} (k:(a.alloc o).grownBy b row):a.grownBy b row:=
 ⟨k.os,k.tape,k.output,Nat.le_trans (by simp) k.size,fun i hi hne=>(k.block i (by simp;omega) hne).trans (Below.heap_alloc a o i hi)⟩
theorem own_shape {w:World} {base e size n:Nat} {v:Value} {xs:List Value} (h:w.ownsRow base e size v n xs):∃ o cap,v=.slice o n cap:=by
 rcases h.2 with ⟨rfl,h0⟩ | ⟨g,cap,cur,hv,hb,_⟩
 ·subst h0;exact⟨_,_,rfl⟩
 ·exact⟨_,_,hv⟩
theorem max_le {n:Nat} (h:n≤1000000):n≤maxLen:=by unfold maxLen;omega
def Cnt {α:Type} (f:α→Int→Int) (g:α→List Tm) (x:α):Prop:=∀ left:Int,0≤left→0≤f x left→((g x).length:Int)≤left - f x left∧∀ t ∈ g x,t.s.size≤1000
theorem cnt_all {α:Type} {f:α→Int→Int} {g:α→List Tm}:∀ (l:List α),(∀ x ∈ l,Cnt f g x)→Cnt (foldS f) (fun l=>l.flatMap g) l
 | [],_,left,h,_=>⟨by simp[foldS],fun t ht=>by simp at ht⟩
 | x::l,hx,left,h,h1=>by
  have e:foldS f (x::l) left=foldS f l (f x left):=by
   show (if left < 0 then left else _)=_
   rw[if_neg (by omega)]
  rw[e] at h1 ⊢
  have h2:0≤f x left:=by
   rcases Int.lt_or_le (f x left) 0 with hn | hn
   ·rw[foldS_neg f l hn] at h1;omega
   ·exact hn
  obtain⟨a1,a2⟩:=hx x (List.mem_cons_self ..) left h h2
  obtain⟨b1,b2⟩:=cnt_all l (fun y hy=>hx y (List.mem_cons_of_mem _ hy)) _ h2 h1
  refine⟨?_,fun t ht=>?_⟩
  ·simp only[List.flatMap_cons,List.length_append]
   have b1:((l.flatMap g).length:Int)≤f x left - foldS f l (f x left):=b1
   omega
  ·simp only[List.flatMap_cons] at ht
   rcases List.mem_append.1 ht with ht | ht
   ·exact a2 t ht
   ·exact b2 t ht
theorem subTs_flat (l:List Tm):subTs l=l.flatMap subT:=by
 induction l with
 | nil=>simp[subTs]
 | cons t l ih=>unfold subTs;rw[ih];rfl
theorem cnt_term (t:Tm):Cnt sizeT subT t:=by
 induction t using Tm.rec (motive_2:=fun l=>∀ t ∈ l,Cnt sizeT subT t) with
 | nil x hx=>cases hx
 | cons t ts ih ihs x hx=>
  rcases List.mem_cons.1 hx with rfl | hx
  ·exact ih
  ·exact ihs x hx
 | mk op s n l ih=>
  intro left h h1
  rw[sizeT_mk] at h1 ⊢
  by_cases hs:1000 < s.size
  ·rw[if_pos hs] at h1;omega
  ·rw[if_neg hs] at h1 ⊢
   have h2:0≤left - 1:=by
    rcases Int.lt_or_le (left - 1) 0 with hn | hn
    ·rw[foldS_neg sizeT l hn] at h1;omega
    ·exact hn
   obtain⟨a1,a2⟩:=cnt_all l ih _ h2 h1
   rw[subT_eq]
   simp only[Tm.l_mk,subTs_flat]
   refine⟨?_,fun t ht=>?_⟩
   ·simp only[List.length_cons]
    have a1:((l.flatMap subT).length:Int)≤left - 1 - foldS sizeT l (left - 1):=a1
    omega
   ·rcases List.mem_cons.1 ht with rfl | ht
    ·show s.size≤1000
     omega
    ·exact a2 t ht
theorem cnt_atom (a:Am):Cnt sizeA (fun a=>subTs a.l) a:=by
 intro left h h1
 unfold sizeA at h1 ⊢
 split at h1
 ·omega
 ·rename_i hn
  rw[if_neg hn]
  rw[sizeTs_fold] at h1 ⊢
  simp only[subTs_flat]
  exact cnt_all a.l (fun t _=>cnt_term t) left h h1
theorem cnt_lit (l:Lt):Cnt sizeL1 litTs l:=by
 intro left h h1
 unfold sizeL1 at h1 ⊢
 by_cases c1:sizeA l.a (left - 1) < 0
 ·rw[if_pos c1] at h1;omega
 ·rw[if_neg c1] at h1 ⊢
  by_cases c2:sizeT l.x (sizeA l.a (left - 1)) < 0
  ·rw[if_pos c2] at h1;omega
  ·rw[if_neg c2] at h1 ⊢
   have h0:0≤left - 1:=by have:=(sizeA_lo l.a (left - 1) (by omega)).2;omega
   obtain⟨a1,a2⟩:=cnt_atom l.a _ h0 (by omega)
   have a1:((subTs l.a.l).length:Int)≤left - 1 - sizeA l.a (left - 1):=a1
   obtain⟨b1,b2⟩:=cnt_term l.x (sizeA l.a (left - 1)) (by omega) (by omega)
   obtain⟨d1,d2⟩:=cnt_term l.y _ (by omega) h1
   have e:litTs l=(subT l.x++subT l.y)++subTs l.a.l:=by unfold litTs;simp[subTs]
   rw[e]
   refine⟨?_,fun t ht=>?_⟩
   ·simp only[List.length_append];omega
   ·rcases List.mem_append.1 ht with ht | ht
    ·rcases List.mem_append.1 ht with ht | ht
     ·exact b2 t ht
     ·exact d2 t ht
    ·exact a2 t ht
theorem cnt_rule (r:Ru):Cnt sizeR termsR r:=by
 intro left h h1
 unfold sizeR at h1 ⊢
 have h0:0≤left - 1∧0≤sizeA r.head (left - 1):=by
  have k:=(foldS_lo sizeL1_lo r.body (sizeA r.head (left - 1)) (sizeA_lo r.head (left - 1) (by omega)).1).2
  have:=(sizeA_lo r.head (left - 1) (by omega)).2
  omega
 obtain⟨a1,a2⟩:=cnt_atom r.head _ h0.1 h0.2
 obtain⟨b1,b2⟩:=cnt_all r.body (fun l _=>cnt_lit l) _ h0.2 h1
 unfold termsR
 refine⟨?_,fun t ht=>?_⟩
 ·simp only[List.length_append]
  have b1:((r.body.flatMap litTs).length:Int)≤_:=b1
  have a1:((subTs r.head.l).length:Int)≤_:=a1
  omega
 ·rcases List.mem_append.1 ht with ht | ht
  ·exact a2 t ht
  ·exact b2 t ht
theorem small_terms {p:Pg} (h:smallP p=true):∀ r ∈ p.rules,(termsR r).length≤2000∧∀ t ∈ termsR r,t.s.size≤1000:=by
 unfold smallP at h
 simp only[Bool.and_eq_true,decide_eq_true_eq] at h
 have h0:=h.1.1.2
 obtain⟨a1,a2⟩:=cnt_all (f:=sizeR) (g:=termsR) p.rules (fun r _=>cnt_rule r) 2000 (by omega) h0
 intro r hr
 have sub:∀ t ∈ termsR r,t ∈ p.rules.flatMap termsR:=fun t ht=>List.mem_flatMap.2 ⟨r,hr,ht⟩
 refine⟨?_,fun t ht=>a2 t (sub t ht)⟩
 have hle:(termsR r).length≤(p.rules.flatMap termsR).length:=by
  obtain⟨s,t,e⟩:=List.append_of_mem hr
  rw[e]
  simp only[List.flatMap_append,List.flatMap_cons,List.length_append]
  omega
 have a1:((p.rules.flatMap termsR).length:Int)≤2000 - foldS sizeR p.rules 2000:=a1
 omega
theorem flat_at {z:Nat}:∀ (css:List (List Value)) (i j:Nat) (cs:List Value) (c:Value),(∀ x ∈ css,x.length=z)→css[i]?=some cs→cs[j]?=some c→css.flatten[i * z+j]?=some c
 | [],i,j,cs,c,_,h,_=>by simp at h
 | x::css,0,j,cs,c,hz,h,hc=>by
  simp only[List.getElem?_cons_zero,Option.some.injEq] at h
  subst h
  rw[List.flatten_cons,Nat.zero_mul,Nat.zero_add,List.getElem?_append_left (List.getElem?_eq_some_iff.1 hc).1]
  exact hc
 | x::css,i+1,j,cs,c,hz,h,hc=>by
  rw[List.flatten_cons,List.getElem?_append_right (by rw[hz x (List.mem_cons_self ..),Nat.succ_mul];omega),hz x (List.mem_cons_self ..),show (i+1) * z+j - z=i * z+j by rw[Nat.succ_mul];omega]
  exact flat_at css i j cs c (fun y hy=>hz y (List.mem_cons_of_mem _ hy)) (by simpa using h) hc
theorem sl_cells {α:Type} {w:World} {B z:Nat} {T:TypeId} {R:α→List Value→Prop} {l:List α} (css:List (List Value)) (hrow:w.heap[B]?=some (.cells css.flatten.toArray T (0,0))) (hl:css.length=l.length) (hz:∀ cs ∈ css,cs.length=z)
  (hR:∀ (i:Nat) (x:α) (cs:List Value),l[i]?=some x→css[i]?=some cs→R x cs) (hm:l.length≤maxLen):SlOf w w.heap.size z R l (.slice (some ⟨B,0,none⟩) l.length l.length):=by
 have news:=World.news_of_block hrow
 refine .inr ⟨⟨B,0,none⟩,l.length,rfl,Nat.le_refl _,hm,fun _=>heap_lt hrow,fun i x hx=>?_⟩
 have hi:i < css.length:=by rw[hl];exact (List.getElem?_eq_some_iff.1 hx).1
 refine⟨css[i],hz _ (List.getElem_mem hi),hR i x _ hx (List.getElem?_eq_getElem hi),fun j c hj=>?_⟩
 exact news (i * z+j) c (flat_at css i j css[i] c hz (List.getElem?_eq_getElem hi) hj)
def vT (s:ByteArray):Tm:=.mk 1 s 0 []
theorem vT_c (w:World) (s:ByteArray) (hs:s.size≤maxLen):TmC w w.heap.size (vT s) [.int .i64 1,.string s,.int .i64 0,.slice none 0 0]:=.nil 1 s 0 (by unfold I64;omega) hs (by unfold I64;omega)
def zT:Tm:=.mk 0 ⟨#[]⟩ 0 []
theorem zT_c (w:World):TmC w w.heap.size zT [.int .i64 0,.string ⟨#[]⟩,.int .i64 0,.slice none 0 0]:=.nil 0 ⟨#[]⟩ 0 (by unfold I64;omega) (by decide) (by unfold I64;omega)
theorem row_more {w:World} {i:Nat} {x:Obj} (h:w.heap[i]?=some x) (o:Obj):(w.alloc o).heap[i]?=some x:=(Below.heap_alloc w o i (heap_lt h)).trans h
theorem row_cells {w:World} {b:Nat} {cs:Array Value} {T:TypeId} (h:w.heap[b]?=some (.cells cs T (0,0))) (i:Nat):w.cell? ⟨b,i,none⟩=cs[i]?:=by unfold World.cell?;rw[h];rfl
open Go.RowKit Go.Maps
def hasB (ms:List Nat) (k:Nat):Bool:=Maps.has (setG ms) (kG k)
theorem hasB_iff {ms:List Nat} {k:Nat}:hasB ms k=true ↔ k ∈ ms:=hasG_nat
theorem hasB_not {ms:List Nat} {k:Nat} (h:k ∉ ms):hasB ms k=false:=hasG_not h
set_option maxRecDepth 100000 in
theorem hasG_c (M m k:Nat) (ms:List Nat) (w:World) (h:SetG w M m ms) (hk:k < 1000000) :
  Calls Tryz.prog 26 #[.map (some M),.int .i64 (k:Int)] w fun e w'=>e=.returned (.bool (hasB ms k))∧Below w.heap.size w w':=by
 have HM:=hid h
 have Hkey:=hid (keyG hk)
 unfold hasB
 obtain⟨b,hb⟩:∃ b,Maps.has (setG ms) (kG k)=b:=⟨_,rfl⟩
 have Hb:=hid hb
 rw[hb]
 clear h hb
 go_enter Tryz.func26,Tryz.ntmps26
 go_wp2_with (first
  | (at_lookup;refine wpList_lookup_own_unit _ rfl _ _ 66 rfl 3 87 lawG Tryz.underlying66 (zeroG _) M m (setG ms) rfl HM.out _ (kG k) rfl Hkey.out ?_;rw[Hb.out];go_frame)
  | go_in)
 go_ret
 exact⟨rfl,(Below.refl _ _).alloc (Nat.le_refl _) _⟩
set_option maxRecDepth 100000 in
theorem addG_c (M m k:Nat) (ms:List Nat) (w:World) (h:SetG w M m ms) (hk:k < 1000000) (hm:m < maxLen) :
  Calls Tryz.prog 53 #[.map (some M),.int .i64 (k:Int)] w fun e w'=>e=.returned (.tuple #[])∧SetG w' M (m+1) (ms++[k])∧w.grownBy w' (some M):=by
 obtain⟨w2,hr,hm2,hg2⟩:=World.ownsMap.update h lawG Tryz.underlying66 hm (keyG hk) (unitElem_mk (H:=Unit))
 have HN:Hid (SetG w2 M (m+1) (ms++[k])):=hid (by
  unfold SetG
  rw[setG_snoc]
  exact hm2)
 have HG:=hid hg2
 clear h hm2 hg2
 go_enter Tryz.func53,Tryz.ntmps53
 go_wp2
 go_end0
 exact⟨rfl,HN.out,HG.out⟩
end Go.Proofs.YtakpgcmfjlbcgaaGreatDoor
