/- Laid@2, Ynum@2, Yrv4@2, Yrt@2, Yrt2@2, Yrt3@2 -/
import Derived.Test.YtfmldnbcjbflbaaGreatDoorQ22
import Derived.Test.YtfmldnbcjbflbaaGreatDoorQ20
set_option linter.unusedSimpArgs false
set_option linter.unusedVariables false
namespace Go.Proofs.YtfmldnbcjbflbaaGreatDoor
open Lib(hid)
open Go.RowKit Go.Deep
def setC (b:Nat):Nat→List Value→World→World
 | _,[],w=>w
 | k,x::xs,w=>setC b (k+1) xs (w.setCell ⟨b,k,none⟩ x)
def wrC (cs:Array Value):Nat→List Value→Array Value
 | _,[]=>cs
 | k,x::xs=>wrC (cs.setIfInBounds k x) (k+1) xs
theorem wrC_size:∀ (xs:List Value) (k:Nat) (cs:Array Value),(wrC cs k xs).size=cs.size
 | [],_,_=>rfl
 | x::xs,k,cs=>by rw[wrC,wrC_size xs];simp
theorem wrC_get:∀ (xs:List Value) (k:Nat) (cs:Array Value) (i:Nat),k+xs.length≤cs.size→(wrC cs k xs)[i]?=if k≤i∧i < k+xs.length then xs[i - k]? else cs[i]?
 | [],k,cs,i,_=>by rw[wrC,if_neg (by simp)]
 | x::xs,k,cs,i,h=>by
  rw[List.length_cons] at h
  rw[wrC,wrC_get xs (k+1) _ i (by simp;omega),List.length_cons]
  by_cases h1:k+1≤i∧i < k+1+xs.length
  ·rw[if_pos h1,if_pos (by omega),show i - k=(i - (k+1))+1 by omega,List.getElem?_cons_succ]
  ·rw[if_neg h1]
   by_cases h2:i=k
   ·subst h2
    rw[if_pos (by omega),Nat.sub_self,List.getElem?_cons_zero,Array.getElem?_setIfInBounds_self_of_lt (by omega)]
   ·rw[if_neg (by omega),Array.getElem?_setIfInBounds_ne (by omega)]
theorem set_row {w:World} {b:Nat} {cs:Array Value} {T:TypeId} {fr:Nat × Nat} (hb:w.heap[b]?=some (.cells cs T fr)) (i:Nat) (v:Value):(w.setCell ⟨b,i,none⟩ v).heap[b]?=some (.cells (cs.setIfInBounds i v) T fr):=by
 simp[World.setCell,Array.getElem?_modify,hb]
theorem setC_row {b:Nat} {T:TypeId} {fz:Nat × Nat}:∀ (xs:List Value) (k:Nat) (w:World) (cs:Array Value),w.heap[b]?=some (.cells cs T fz)→(setC b k xs w).heap[b]?=some (.cells (wrC cs k xs) T fz)
 | [],_,_,_,h=>h
 | x::xs,k,w,cs,h=>by rw[setC,wrC];exact setC_row xs (k+1) _ _ (set_row h k x)
theorem setC_grown {b:Nat}:∀ (xs:List Value) (k:Nat) (w:World),w.grownBy (setC b k xs w) (some b)∧(setC b k xs w).heap.size=w.heap.size
 | [],_,w=>⟨⟨rfl,rfl,rfl,Nat.le_refl _,fun _ _ _=>rfl⟩,rfl⟩
 | x::xs,k,w=>by
  rw[setC]
  obtain⟨h1,h2⟩:=setC_grown (b:=b) xs (k+1) (w.setCell ⟨b,k,none⟩ x)
  have hs:(w.setCell ⟨b,k,none⟩ x).heap.size=w.heap.size:=by simp[World.setCell]
  refine⟨⟨h1.os,h1.tape,h1.output,by rw[h2,hs];exact Nat.le_refl _,fun i hi hne=>(h1.block i (by rw[hs];exact hi) hne).trans (Below.heap_setCell w ⟨b,k,none⟩ x i (fun e=>hne (by rw[e])))⟩,h2.trans hs⟩
theorem own_put {W:World} {base g n cp z:Nat} {e:TypeId} {xs news:List Value} (h:W.ownsRow base e z (.slice (some ⟨g,0,none⟩) n cp) n xs) {k:Nat} (hk:k+news.length≤xs.length) :
  (setC g k news W).ownsRow base e z (.slice (some ⟨g,0,none⟩) n cp) n (putAt xs k news):=by
 obtain⟨h1,h2⟩:=h
 rcases h2 with ⟨h3,_⟩ | ⟨g',cap,cur,hv,hb,hh,hc,hm,hsz,ht⟩
 ·cases h3
 ·cases hv
  have hle:n * z≤cur.size:=by rw[hsz];exact Nat.mul_le_mul_right z hc
  refine⟨by rw[putAt_len hk];exact h1,.inr ⟨g,cp,wrC cur k news,rfl,hb,setC_row news _ W cur hh,hc,hm,by rw[wrC_size];exact hsz,?_⟩⟩
  refine List.ext_getElem? fun i=>?_
  rw[List.getElem?_take,putAt_get hk]
  have hti:=congrArg (fun l=>l[i]?) ht
  simp only[List.getElem?_take] at hti
  by_cases hi:i < n * z
  ·rw[if_pos hi,Array.getElem?_toList,wrC_get news _ _ _ (by omega)]
   rw[if_pos hi,Array.getElem?_toList] at hti
   by_cases hk2:k≤i∧i < k+news.length
   ·rw[if_pos hk2,if_pos hk2]
   ·rw[if_neg hk2,if_neg hk2,hti]
  ·rw[if_neg hi,if_neg (by omega),List.getElem?_eq_none (by omega)]
theorem own_at {W:World} {base g n cp z:Nat} {e:TypeId} {xs:List Value} (h:W.ownsRow base e z (.slice (some ⟨g,0,none⟩) n cp) n xs):(∀ j u,xs[j]?=some u→W.cell? ⟨g,j,none⟩=some u)∧(∀ j,W.frozen? ⟨g,j,none⟩=false)∧g < W.heap.size∧base≤g:=by
 obtain⟨h1,h2⟩:=h
 rcases h2 with ⟨h3,_⟩ | ⟨g',cap,cur,hv,hb,hh,hc,hm,hsz,ht⟩
 ·cases h3
 ·cases hv
  refine⟨fun j u hu=>?_,fun j=>?_,(Array.getElem?_eq_some_iff.1 hh).1,hb⟩
  ·rw[← ht,List.getElem?_take] at hu
   split at hu
   ·unfold World.cell?
    rw[hh]
    simpa using hu
   ·cases hu
  ·unfold World.frozen?
   rw[hh]
   simp
open Go.RowKit Go.Extern Go.Extern.Rtype Go.Extern.Stop Go.Stop
set_option maxRecDepth 100000 in
set_option maxHeartbeats 2000000 in
theorem is_other (b c:Addr) (w:World) (hne:b≠c) {cb cc:Array Value} {tb tc:TypeId} (hb:w.heap[b.block]?=some (.cells cb tb (0,0))) (hc:w.heap[c.block]?=some (.cells cc tc (0,0))) :
  Calls Tryz.prog 60 #[.iface 191 (.pointer (some b)),.iface 191 (.pointer (some c))] w fun e w'=>e=.returned (.bool false)∧w=w':=by
 obtain⟨i,hi,hcmp⟩:=Option.map_eq_some_iff.1 isComp
 obtain⟨j,hj,hjs⟩:=Option.map_eq_some_iff.1 isSize
 have h39:=@run_callFunc_extern Tryz.prog 93 _ Extern.ReflectliteType.typeOf Tryz.func93 (by kernel_rfl) (by kernel_rfl) (by kernel_rfl) (by kernel_rfl)
 have tT:=isTypeOf
 have cT:=isCalled
 have mR:=isMethodComparable
 have nE:=noIsE
 have uE:=noUnwrapE
 have vE:=noUnwrapsE
 have heq:=run_eql_iface_ptr_other (P:=Tryz.prog) w Tryz.underlying62 Tryz.underlying191 hi hcmp hj (by rw[hjs];decide) hne hb hc
 clear hb hc
 go_enter Tryz.func60,Tryz.ntmps60
 go_wp2
 refine wp_loop_rounds 1 ?_
 rw[rounds_succ]
 go_wp2
 go_ret
 exact⟨rfl,rfl⟩
set_option maxRecDepth 100000 in
set_option maxHeartbeats 2000000 in
theorem num_ty (n:Nat) (a b c d:Addr) (w:World) (E:YEnv n a b c d w) (D:YDiff a b c d w) :
  Calls Tryz.prog 32 #[errV a] w fun e w'=>e=.returned (.int .i64 53)∧w=w':=by
 have h1:=E.ty
 have h2:=E.tw
 have h3:=E.no
 have h4:=E.ar
 unfold errV at *
 obtain⟨ca,ta,ra⟩:=D.ra
 obtain⟨cb,tb,rb⟩:=D.rb
 obtain⟨cc,tc,rc⟩:=D.rc
 obtain⟨cd,td,rd⟩:=D.rd
 have Hab:=hid (is_other a b w D.ab ra rb)
 have Hac:=hid (is_other a c w D.ac ra rc)
 have Had:=hid (is_other a d w D.ad ra rd)
 have Hcb:=hid (is_other c b w D.cb rc rb)
 have Hdb:=hid (is_other d b w D.db rd rb)
 have Hdc:=hid (is_other d c w D.dc rd rc)
 clear ra rb rc rd E D
 go_enter Tryz.func32,Tryz.ntmps32
 go_wp2_with fail
 refine (Hab.out).mono ?_
 rintro e w' ⟨rfl,rfl⟩
 go_wp2_with fail
 refine (Hac.out).mono ?_
 rintro e w' ⟨rfl,rfl⟩
 go_wp2_with fail
 refine (Had.out).mono ?_
 rintro e w' ⟨rfl,rfl⟩
 go_wp2_with fail
 refine (is_same a w).mono ?_
 rintro e w' ⟨rfl,rfl⟩
 go_wp2
 go_ret
 exact⟨rfl,rfl⟩
set_option maxRecDepth 100000 in
set_option maxHeartbeats 2000000 in
theorem num_no (n:Nat) (a b c d:Addr) (w:World) (E:YEnv n a b c d w) (D:YDiff a b c d w) :
  Calls Tryz.prog 32 #[errV c] w fun e w'=>e=.returned (.int .i64 51)∧w=w':=by
 have h1:=E.ty
 have h2:=E.tw
 have h3:=E.no
 have h4:=E.ar
 unfold errV at *
 obtain⟨ca,ta,ra⟩:=D.ra
 obtain⟨cb,tb,rb⟩:=D.rb
 obtain⟨cc,tc,rc⟩:=D.rc
 obtain⟨cd,td,rd⟩:=D.rd
 have Hab:=hid (is_other a b w D.ab ra rb)
 have Hac:=hid (is_other a c w D.ac ra rc)
 have Had:=hid (is_other a d w D.ad ra rd)
 have Hcb:=hid (is_other c b w D.cb rc rb)
 have Hdb:=hid (is_other d b w D.db rd rb)
 have Hdc:=hid (is_other d c w D.dc rd rc)
 clear ra rb rc rd E D
 go_enter Tryz.func32,Tryz.ntmps32
 go_wp2_with fail
 refine (Hcb.out).mono ?_
 rintro e w' ⟨rfl,rfl⟩
 go_wp2_with fail
 refine (is_same c w).mono ?_
 rintro e w' ⟨rfl,rfl⟩
 go_wp2
 go_ret
 exact⟨rfl,rfl⟩
set_option maxRecDepth 100000 in
set_option maxHeartbeats 2000000 in
theorem num_ar (n:Nat) (a b c d:Addr) (w:World) (E:YEnv n a b c d w) (D:YDiff a b c d w) :
  Calls Tryz.prog 32 #[errV d] w fun e w'=>e=.returned (.int .i64 52)∧w=w':=by
 have h1:=E.ty
 have h2:=E.tw
 have h3:=E.no
 have h4:=E.ar
 unfold errV at *
 obtain⟨ca,ta,ra⟩:=D.ra
 obtain⟨cb,tb,rb⟩:=D.rb
 obtain⟨cc,tc,rc⟩:=D.rc
 obtain⟨cd,td,rd⟩:=D.rd
 have Hab:=hid (is_other a b w D.ab ra rb)
 have Hac:=hid (is_other a c w D.ac ra rc)
 have Had:=hid (is_other a d w D.ad ra rd)
 have Hcb:=hid (is_other c b w D.cb rc rb)
 have Hdb:=hid (is_other d b w D.db rd rb)
 have Hdc:=hid (is_other d c w D.dc rd rc)
 clear ra rb rc rd E D
 go_enter Tryz.func32,Tryz.ntmps32
 go_wp2_with fail
 refine (Hdb.out).mono ?_
 rintro e w' ⟨rfl,rfl⟩
 go_wp2_with fail
 refine (Hdc.out).mono ?_
 rintro e w' ⟨rfl,rfl⟩
 go_wp2_with fail
 refine (is_same d w).mono ?_
 rintro e w' ⟨rfl,rfl⟩
 go_wp2
 go_ret
 exact⟨rfl,rfl⟩
set_option maxRecDepth 100000 in
set_option maxHeartbeats 2000000 in
theorem num_tw (n:Nat) (a b c d:Addr) (w:World) (E:YEnv n a b c d w) (D:YDiff a b c d w) :
  Calls Tryz.prog 32 #[errV b] w fun e w'=>e=.returned (.int .i64 50)∧w=w':=by
 have h1:=E.ty
 have h2:=E.tw
 have h3:=E.no
 have h4:=E.ar
 unfold errV at *
 obtain⟨ca,ta,ra⟩:=D.ra
 obtain⟨cb,tb,rb⟩:=D.rb
 obtain⟨cc,tc,rc⟩:=D.rc
 obtain⟨cd,td,rd⟩:=D.rd
 have Hab:=hid (is_other a b w D.ab ra rb)
 have Hac:=hid (is_other a c w D.ac ra rc)
 have Had:=hid (is_other a d w D.ad ra rd)
 have Hcb:=hid (is_other c b w D.cb rc rb)
 have Hdb:=hid (is_other d b w D.db rd rb)
 have Hdc:=hid (is_other d c w D.dc rd rc)
 clear ra rb rc rd E D
 go_enter Tryz.func32,Tryz.ntmps32
 go_wp2_with fail
 refine (is_same b w).mono ?_
 rintro e w' ⟨rfl,rfl⟩
 go_wp2
 go_ret
 exact⟨rfl,rfl⟩
set_option maxRecDepth 100000 in
set_option maxHeartbeats 2000000 in
theorem num_nil (n:Nat) (a b c d:Addr) (w:World) (E:YEnv n a b c d w) (D:YDiff a b c d w) :
  Calls Tryz.prog 32 #[.nilIface] w fun e w'=>e=.returned (.int .i64 0)∧w=w':=by
 have h1:=E.ty
 have h2:=E.tw
 have h3:=E.no
 have h4:=E.ar
 unfold errV at *
 obtain⟨ca,ta,ra⟩:=D.ra
 obtain⟨cb,tb,rb⟩:=D.rb
 obtain⟨cc,tc,rc⟩:=D.rc
 obtain⟨cd,td,rd⟩:=D.rd
 have Hab:=hid (is_other a b w D.ab ra rb)
 have Hac:=hid (is_other a c w D.ac ra rc)
 have Had:=hid (is_other a d w D.ad ra rd)
 have Hcb:=hid (is_other c b w D.cb rc rb)
 have Hdb:=hid (is_other d b w D.db rd rb)
 have Hdc:=hid (is_other d c w D.dc rd rc)
 clear ra rb rc rd E D
 go_enter Tryz.func32,Tryz.ntmps32
 go_wp2_with fail
 refine (is_nil b w).mono ?_
 rintro e w' ⟨rfl,rfl⟩
 go_wp2_with fail
 refine (is_nil c w).mono ?_
 rintro e w' ⟨rfl,rfl⟩
 go_wp2_with fail
 refine (is_nil d w).mono ?_
 rintro e w' ⟨rfl,rfl⟩
 go_wp2_with fail
 refine (is_nil a w).mono ?_
 rintro e w' ⟨rfl,rfl⟩
 go_wp2
 go_ret
 exact⟨rfl,rfl⟩
theorem findY_hit {s:ByteArray} {l:List De} {k:Nat} {d:De} (hd:l[k]?=some d) (hn:∀ x ∈ l.take k,relY s x=false) (hr:relY s d=true):findY s l=some k:=by
 have key:∀ (l:List De) (j k:Nat),l[k]?=some d→(∀ x ∈ l.take k,relY s x=false)→ixY s j l=((j+k:Nat):Int):=by
  intro l
  induction l with
  | nil=>intro j k h;simp at h
  | cons x l ih=>
   intro j k h hn
   cases k with
   | zero=>
    have:x=d:=by simpa using h
    subst this
    unfold ixY
    rw[if_pos hr]
    rfl
   | succ k=>
    have hx:=hn x (by simp)
    unfold ixY
    rw[hx,if_neg (by decide),ih (j+1) k (by simpa using h) (fun y hy=>hn y (by simp[hy]))]
    omega
 unfold findY
 rw[key l 0 k hd hn,if_neg (by omega)]
 simp
theorem findY_miss {s:ByteArray} {l:List De} (hn:∀ x ∈ l,relY s x=false):findY s l=none:=by
 have key:∀ (l:List De) (j:Nat),(∀ x ∈ l,relY s x=false)→ixY s j l = -1:=by
  intro l
  induction l with
  | nil=>intro j _;rfl
  | cons x l ih=>
   intro j hn
   unfold ixY
   rw[hn x (List.mem_cons_self ..),if_neg (by decide)]
   exact ih _ fun y hy=>hn y (List.mem_cons_of_mem _ hy)
 unfold findY
 rw[key l 0 hn,if_pos (by decide)]
set_option maxRecDepth 100000 in
set_option maxHeartbeats 4000000 in
theorem find5_c (s:ByteArray) (l:List De) (v:Value) (w:World) (hl:SlOf w w.heap.size 6 (DeC w w.heap.size) l v) :
  Calls Tryz.prog 34 #[v,.string s] w fun e w'=>e=.returned (findV (findY s l))∧Below w.heap.size w w':=by
 obtain⟨o1,k1,rfl,_,_,S1⟩:=SlOf.open hl
 have HB0:Hid (Below w.heap.size w w):=hid (Below.refl _ _)
 clear hl
 go_enter Tryz.func34,Tryz.ntmps34
 go_wp2
 go_loopw [6] (fun i wr=>∃ k:Nat,k≤l.length∧i=.int .i64 k∧(∀ x ∈ l.take k,relY s x=false)∧Below w.heap.size w wr) (fun i _=>l.length - (intOf i).toNat)
 case atStart=>exact⟨0,Nat.zero_le _,rfl,by simp,HB0.out⟩
 case round=>
  obtain⟨k,hk,rfl,hr,hB⟩:=hrel
  have Hr:=hid hr
  clear hr
  by_cases hlt:k < l.length
  ·have hlt':(k:Int) < (l.length:Int):=by omega
   obtain⟨x,hx⟩:∃ x,l[k]?=some x:=⟨l[k],List.getElem?_eq_getElem hlt⟩
   obtain⟨a,p0,q0,p1,q1,rfl,ha,Hc,c0,_⟩:=de_at S1 hB hx
   have hal:(a.add (k * 6)).block < wr.heap.size:=by rw[addBlock];have:=hB.size;omega
   cases hxy:relY s x with
   | true=>
    have Hz:Hid (findY s l=some k):=hid (findY_hit hx Hr.out hxy)
    have hxe:(x.rel.toList == s.toList)=true:=hxy
    clear hx
    go_wp2
    go_ret2
    exact⟨by rw[Hz.out];rfl,hB⟩
   | false=>
    have Hz:Hid (∀ x ∈ l.take (k+1),relY s x=false):=hid fun y hy=>by
     rw[List.take_add_one,hx] at hy
     rcases List.mem_append.1 hy with hy | hy
     ·exact Hr.out y hy
     ·rw[show y=x by simpa using hy];exact hxy
    have hxe:(x.rel.toList == s.toList)=false:=hxy
    clear hx
    go_wp2
    go_roundw
    case rel=>exact⟨k+1,by omega,by go_num,Hz.out,hB⟩
    case measure=>simp[intOf];omega
  ·have hlt':¬ (k:Int) < (l.length:Int):=by omega
   have Hz:Hid (findY s l=none):=hid (findY_miss fun x hx=>Hr.out x (by rw[List.take_of_length_le (by omega)];exact hx))
   go_wp2
   go_ret2
   exact⟨by rw[Hz.out];rfl,hB⟩
theorem Kp.trans {T:Nat→Prop} {a b c:World} (h:Kp T a b) (k:Kp T b c):Kp T a c:=
 ⟨k.os.trans h.os,k.tape.trans h.tape,k.output.trans h.output,Nat.le_trans h.size k.size,fun i hi ht=>(k.block i (Nat.lt_of_lt_of_le hi h.size) ht).trans (h.block i hi ht)⟩
theorem Kp.ofBelow {T:Nat→Prop} {a b:World} (h:Below a.heap.size a b):Kp T a b:=⟨h.os,h.tape,h.output,h.size,fun i hi _=>h.block i hi⟩
theorem Kp.below {T:Nat→Prop} {a b:World} {B:Nat} (h:Kp T a b) (hB:B≤a.heap.size) (hT:∀ i,i < B→¬ T i):Below B a b:=⟨h.os,h.tape,h.output,h.size,fun i hi=>h.block i (Nat.lt_of_lt_of_le hi hB) (hT i hi)⟩
structure TyS (B g:Nat) (w:World) (vs:List ByteArray) (vv:Value) (ts:List Int):Prop where
 vars:SlOf w B 1 StrC vs vv
 own:w.ownsRow B 3 1 (.slice (some ⟨g,0,none⟩) ts.length ts.length) ts.length (ts.map (Value.int .i64))
 len:ts.length=vs.length
 base:B≤w.heap.size
theorem TyS.row {B g:Nat} {w:World} {vs:List ByteArray} {vv:Value} {ts:List Int} (h:TyS B g w vs vv ts):B≤g∧g < w.heap.size:=⟨(own_at h.own).2.2.2,(own_at h.own).2.2.1⟩
theorem TyS.cell {B g:Nat} {w:World} {vs:List ByteArray} {vv:Value} {ts:List Int} (h:TyS B g w vs vv ts) {i:Nat} {v:Int} (hi:ts[i]?=some v):w.cell? ⟨g,i,none⟩=some (.int .i64 v):=
 (own_at h.own).1 i _ (by rw[List.getElem?_map,hi];rfl)
theorem TyS.kept {B g:Nat} {w w':World} {vs:List ByteArray} {vv:Value} {ts:List Int} (h:TyS B g w vs vv ts) (hb:Below w.heap.size w w'):TyS B g w' vs vv ts:=
 ⟨SlOf.str h.vars (hb.mono h.base) (Nat.le_refl _),own_below h.own hb,h.len,Nat.le_trans h.base hb.size⟩
theorem TyS.vars' {B g:Nat} {w:World} {vs:List ByteArray} {vv:Value} {ts:List Int} (h:TyS B g w vs vv ts):SlOf w w.heap.size 1 StrC vs vv:=SlOf.str h.vars (Below.refl _ _) h.base
theorem putAt_one {xs:List Value} {i:Nat} {c:Value} (h:i < xs.length):putAt xs i [c]=xs.set i c:=by
 refine List.ext_getElem? fun j=>?_
 rw[putAt_get (by simp;omega),List.getElem?_set]
 by_cases e:i=j
 ·subst e
  rw[if_pos (by simp),if_pos rfl,if_pos h]
  simp
 ·rw[if_neg (by simp;omega),if_neg e]
theorem TyS.set {B g:Nat} {w:World} {vs:List ByteArray} {vv:Value} {ts:List Int} (h:TyS B g w vs vv ts) {i:Nat} (hi:i < ts.length) (k:Int):TyS B g (w.setCell ⟨g,i,none⟩ (.int .i64 k)) vs vv (ts.set i k)∧Kp (fun b=>b=g) w (w.setCell ⟨g,i,none⟩ (.int .i64 k)):=by
 have hp:=own_put h.own (k:=i) (news:=[.int .i64 k]) (by simp;omega)
 rw[putAt_one (by simpa using hi),← List.map_set] at hp
 have hg:=(setC_grown (b:=g) [.int .i64 k] i w).1
 have hk:Kp (fun b=>b=g) w (w.setCell ⟨g,i,none⟩ (.int .i64 k)):=(Kp.refl _ _).grown hg (fun b e=>by cases e;exact .inr rfl)
 have hr:=h.row
 refine⟨⟨SlOf.str h.vars (hk.below h.base fun i hi e=>by omega) (Nat.le_refl _),by rw[List.length_set];exact hp,by rw[List.length_set];exact h.len,Nat.le_trans h.base hk.size⟩,hk⟩
theorem tm_in {n₀:Nat} {w wr:World} {l:List Tm} {o:Option Addr} {k:Nat} {t:Tm} (S:Hid (SlIn w n₀ 4 (TmC w n₀) l o)) (hB:Below n₀ w wr) (ht:l[k]?=some t) :
  ∃ a o' cap',o=some a∧a.block < n₀∧Hid (TmC wr n₀ t [.int .i64 t.op,.string t.s,.int .i64 t.n,.slice o' t.l.length cap']) ∧
   wr.cell? (a.add (k * 4))=some (.int .i64 t.op)∧wr.cell? ⟨(a.add (k * 4)).block,(a.add (k * 4)).off+1,none⟩=some (.string t.s)∧wr.cell? ⟨(a.add (k * 4)).block,(a.add (k * 4)).off+2,none⟩=some (.int .i64 t.n)∧wr.cell? ⟨(a.add (k * 4)).block,(a.add (k * 4)).off+3,none⟩=some (.slice o' t.l.length cap'):=by
 obtain⟨a,cs,rfl,ha,_,h1,h2⟩:=S.out k t ht
 obtain⟨o',cap',rfl,_⟩:=h1.look
 exact⟨a,o',cap',rfl,ha,hid (h1.under hB),(h2.below ha hB).four⟩
set_option maxRecDepth 100000 in
set_option maxHeartbeats 4000000 in
theorem rtypeOf_c (t:Tm) (w:World) (cs:List Value) (B g:Nat) (vs:List ByteArray) (vv:Value) (ts:List Int) (hc:TmC w B t cs) (hT:TyS B g w vs vv ts) (hv:t.op=1→t.s ∈ vs) :
  Calls Tryz.prog 100 #[.agg cs.toArray,vv,.slice (some ⟨g,0,none⟩) ts.length ts.length] w fun e w'=>e=.returned (.int .i64 (tyE vs ts t))∧Below w.heap.size w w':=by
 have HV1:Hid (t.op=1→∃ (i:Nat) (v:Int),placeV vs t.s=i∧ts[i]?=some v∧tyE vs ts t=v):=hid fun h=>by
  obtain⟨i,v,h1,_,h3,h4⟩:=typed_get hT.len (hv h)
  exact⟨i,v,h1,h3,(tyE_var h).trans h4⟩
 have HV2:Hid (t.op≠1→(t.op=3→tyE vs ts t=2)∧(t.op≠3→(t.op=4→tyE vs ts t=0)∧(t.op≠4→tyE vs ts t=1))):=hid fun h=>by
  unfold tyE
  rw[if_neg h]
  refine⟨fun h3=>if_pos h3,fun h3=>?_⟩
  rw[if_neg h3]
  exact⟨fun h4=>if_pos h4,fun h4=>if_neg h4⟩
 obtain⟨op,s,nn,l⟩:=t
 obtain⟨p1,q1,rfl,_,hzs,_,_⟩:=hc.look
 simp only[Tm.op_mk,Tm.s_mk,Tm.n_mk,Tm.l_mk] at hv HV1 HV2 ⊢
 have HB0:Hid (∀ (x:Obj),Below w.heap.size w (w.alloc x)):=hid fun x=>(Below.refl _ _).alloc (Nat.le_refl _) _
 obtain⟨X,hX⟩:∃ X,tyE vs ts (.mk op s nn l)=X:=⟨_,rfl⟩
 rw[hX] at HV1 HV2 ⊢
 have HT:=hid hT
 clear hc hX hT hv
 by_cases h1:op=1
 ·obtain⟨i,v,hp,hi,hX⟩:=HV1.out h1
  subst hX
  have HP:Hid (∀ (W:World),Below w.heap.size w W→Calls Tryz.prog 83 #[vv,.string s] W fun e w'=>e=.returned (.int .i64 i)∧Below W.heap.size W w'):=hid fun W hb=>by
   have:=place1_c vs vv s W (HT.out.kept hb).vars'
   rw[hp] at this
   exact this
  have HC:=hid (fun (W:World) (hb:Below w.heap.size w W)=>(HT.out.kept hb).cell hi)
  have hlt:i < ts.length:=(List.getElem?_eq_some_iff.1 hi).1
  have hlt':(i:Int) < (ts.length:Int):=by omega
  have h0:(0:Int)≤(i:Int):=by omega
  obtain⟨ov,kv,rfl,_⟩:=SlOf.uni HT.out.vars
  clear HV1 HV2 hp hi
  subst h1
  go_enter Tryz.func100,Tryz.ntmps100
  go_wp2_with fail
  refine (HP.out _ (HB0.out _)).mono ?_
  rintro e w1 ⟨rfl,b1⟩
  have B1:=hid ((HB0.out _).trans (b1.mono (by simp)))
  have c0:=HC.out _ B1.out
  clear b1
  go_wp2
  go_ret
  exact⟨rfl,B1.out⟩
 ·have hb1:(op == 1)=false:=by simpa using h1
  have Hz:=hid (HV2.out h1)
  clear HV1 HV2
  by_cases h3:op=3
  ·have HZ:Hid (X=2):=hid (Hz.out.1 h3)
   subst h3
   clear Hz
   go_enter Tryz.func100,Tryz.ntmps100
   go_wp2
   go_ret
   exact⟨by rw[HZ.out];rfl,HB0.out _⟩
  ·have hb3:(op == 3)=false:=by simpa using h3
   by_cases h4:op=4
   ·have HZ:Hid (X=0):=hid ((Hz.out.2 h3).1 h4)
    subst h4
    clear Hz
    go_enter Tryz.func100,Tryz.ntmps100
    go_wp2
    go_ret
    exact⟨by rw[HZ.out];rfl,HB0.out _⟩
   ·have hb4:(op == 4)=false:=by simpa using h4
    have HZ:Hid (X=1):=hid ((Hz.out.2 h3).2 h4)
    clear Hz
    go_enter Tryz.func100,Tryz.ntmps100
    go_wp2
    go_ret
    exact⟨by rw[HZ.out];rfl,HB0.out _⟩
theorem bad_cases (ds:List De) (a:Am):(findY a.rel ds=none∧badA ds a=1)∨∃ (i:Nat) (d:De),findY a.rel ds=some i∧ds[i]?=some d∧badA ds a=if d.types.length=a.l.length then 0 else 2:=by
 unfold badA
 cases hf:findY a.rel ds with
 | none=>exact .inl ⟨rfl,rfl⟩
 | some i=>
  obtain⟨d,hd⟩:∃ d,ds[i]?=some d:=by
   have hx:∀ (l:List De) (k j:Nat),ixY a.rel k l=(j:Int)→k≤j∧j < k+l.length:=by
    intro l
    induction l with
    | nil=>intro k j h;unfold ixY at h;omega
    | cons x l ih=>
     intro k j h
     unfold ixY at h
     split at h
     ·simp;omega
     ·have:=ih (k+1) j h
      simp;omega
   unfold findY at hf
   split at hf
   ·cases hf
   ·rename_i h0
    have e:ixY a.rel 0 ds=(i:Int):=by
     have:=Option.some.inj hf
     omega
    have:=hx ds 0 i e
    exact⟨ds[i]'(by omega),List.getElem?_eq_getElem (by omega)⟩
  exact .inr ⟨i,d,rfl,hd,by simp only[hd]⟩
set_option maxRecDepth 100000 in
set_option maxHeartbeats 4000000 in
theorem rknown_c (ds:List De) (v:Value) (t:Am) (w:World) (cs:List Value) (hd:SlOf w w.heap.size 6 (DeC w w.heap.size) ds v) (hc:AmC w w.heap.size t cs) :
  Calls Tryz.prog 64 #[v,.agg cs.toArray] w fun e w'=>e=.returned (.int .i64 (atE (badA ds t)))∧Below w.heap.size w w':=by
 have HB0:Hid (∀ (x:Obj),Below w.heap.size w (w.alloc x)):=hid fun x=>(Below.refl _ _).alloc (Nat.le_refl _) _
 have HF:=hid (fun (W:World) (hb:Below w.heap.size w W)=>find5_c t.rel ds v W (SlOf.decl hd hb hb.size))
 have hbad:=bad_cases ds t
 obtain⟨rel,l⟩:=t
 obtain⟨v0,rfl,hzr,t1⟩:=hc
 simp only at HF hbad t1 ⊢
 obtain⟨p1,q1,rfl,hc1,hm1,_⟩:=SlOf.open t1
 obtain⟨o1,k1,rfl,_,_,S1⟩:=SlOf.open hd
 obtain⟨X,hX⟩:∃ X,badA ds ⟨rel,l⟩=X:=⟨_,rfl⟩
 rw[hX] at hbad ⊢
 clear t1 hd hX
 rcases hbad with ⟨hf,hX⟩ | ⟨i,d,hf,hi,hX⟩
 ·rw[hf] at HF
  subst hX
  unfold findV at HF
  go_enter Tryz.func64,Tryz.ntmps64
  go_wp2_with fail
  refine (HF.out _ (HB0.out _)).mono ?_
  rintro e w1 ⟨rfl,b1⟩
  have B1:=hid ((HB0.out _).trans (b1.mono (by simp)))
  clear b1
  go_wp2
  go_ret
  exact⟨rfl,B1.out⟩
 ·rw[hf] at HF
  unfold findV at HF
  have HX:=hid hX
  have hil:i < ds.length:=(List.getElem?_eq_some_iff.1 hi).1
  have hil':(i:Int) < (ds.length:Int):=by omega
  have hi0:(0:Int)≤(i:Int):=by omega
  have Hi:=hid hi
  clear hX hi hf
  go_enter Tryz.func64,Tryz.ntmps64
  go_wp2_with fail
  refine (HF.out _ (HB0.out _)).mono ?_
  rintro e w1 ⟨rfl,b1⟩
  have B1:=hid ((HB0.out _).trans (b1.mono (by simp)))
  have x1:w1.cell? ⟨w.heap.size,1,none⟩=some (.slice p1 l.length q1):=(b1.cell (p:=⟨w.heap.size,1,none⟩) (by simp)).trans (by go_simp)
  have hz1:w.heap.size < w1.heap.size:=by have:=b1.size;simp at this;omega
  obtain⟨a,p0,q0,p2,q2,rfl,ha,Hc,c0,c1,c2,c3,c4,c5⟩:=de_at S1 B1.out Hi.out
  have hal:(a.add (i * 6)).block < w1.heap.size:=by rw[addBlock];omega
  clear b1 c0 c1 c3 c4 c5
  cases hne:((d.types.length:Int) != (l.length:Int)) with
  | true=>
   have hX:X=2:=by rw[HX.out,if_neg (by simp at hne;omega)]
   subst hX
   go_wp2_with fail
   go_quiet (fail)
   go_wp2
   go_ret
   exact⟨rfl,below_drewN B1.out⟩
  | false=>
   have hX:X=0:=by rw[HX.out,if_pos (by simp at hne;omega)]
   subst hX
   go_wp2_with fail
   go_quiet (fail)
   go_wp2
   go_ret
   exact⟨rfl,below_drewN B1.out⟩
def LrnR (J:ByteArray→Int→Prop) (vs:List ByteArray) (N:List Int→Prop) (ts:List Int) (B g:Nat) (vv:Value) (w:World) (e:Ending) (w':World):Prop:=
 ∃ (ts':List Int) (m:Bool),e=.returned (.bool m)∧Lrn J vs N ts ts' m∧TyS B g w' vs vv ts'∧Kp (fun b=>b=g) w w'
theorem takes_all {α:Type} {l:List α} {k:Nat} {x:α} {P:α→Prop} (h:l[k]?=some x) (h1:∀ y ∈ l.take k,P y) (h2:P x):∀ y ∈ l.take (k+1),P y:=fun y hy=>by
 rw[List.take_add_one,h] at hy
 rcases List.mem_append.1 hy with hy | hy
 ·exact h1 y hy
 ·rw[show y=x by simpa using hy];exact h2
set_option maxRecDepth 100000 in
set_option maxHeartbeats 4000000 in
theorem rlearn_c (J:ByteArray→Int→Prop) (vs:List ByteArray) (vv:Value) (B g:Nat):∀ (n:Nat) (t:Tm) (k:Int) (ts:List Int) (w:World) (cs:List Value),SizeOf.sizeOf t≤n→TmC w B t cs→TyS B g w vs vv ts →
  (∀ u ∈ subT t,u.op=1→u.s ∈ vs∧u.l=[])→(t.op=1→k≠0→J t.s k)→(∀ u ∈ subTs t.l,u.op=1→J u.s 1) →
  Calls Tryz.prog 99 #[.agg cs.toArray,.int .i64 k,vv,.slice (some ⟨g,0,none⟩) ts.length ts.length] w (LrnR J vs (fun ts=>Full (knP vs ts) t k) ts B g vv w):=by
 intro n
 induction n with
 | zero=>
  intro t k ts w cs hs
  have:0 < SizeOf.sizeOf t:=by obtain⟨o,s,n,l⟩:=t;simp only[Tm.mk.sizeOf_spec];omega
  omega
 | succ n ih=>
  intro t k ts w cs hs hc hT hv hJ hJ2
  have IH:=hid (fun (x:Tm) (hx:x ∈ t.l) (ts:List Int) (W:World) (cs:List Value) (hc:TmC W B x cs) (hT:TyS B g W vs vv ts)=>ih x 1 ts W cs (by have:=size_part hx;omega) hc hT (fun u hu=>hv u (subT_part hx u hu)) (fun h1 _=>hJ2 x (mem_subTs.2 ⟨x,hx,mem_self⟩) h1) (fun u hu=>hJ2 u (mem_subTs.2 ⟨x,hx,mem_subT.2 (.inr hu)⟩)))
  have HV1:Hid (t.op=1→t.l=[]∧(k≠0→J t.s k)∧∃ (i:Nat) (v:Int),placeV vs t.s=i∧vs[i]?=some t.s∧ts[i]?=some v∧typedV vs ts t.s=v):=hid fun h=>by
   obtain⟨hm,hl⟩:=hv t mem_self h
   obtain⟨i,v,h1,h2,h3,h4⟩:=typed_get hT.len hm
   exact⟨hl,hJ h,i,v,h1,h2,h3,h4⟩
  have HF:Hid (t.op≠1→∀ ts,(∀ c ∈ t.l,Full (knP vs ts) c 1)→Full (knP vs ts) t k):=hid fun h ts hc=>⟨fun e=>absurd e h,fun u hu=>by
   obtain⟨c,hm,hu⟩:=mem_subTs.1 hu
   rcases mem_subT.1 hu with rfl | hu
   ·exact (hc _ hm).1
   ·exact (hc _ hm).2 u hu⟩
  have HF1:Hid (t.op=1→t.l=[]→∀ ts,(k=0∨typedV vs ts t.s≠0)→Full (knP vs ts) t k):=hid fun h hl ts h1=>⟨fun _=>h1,fun u hu=>by rw[hl] at hu;simp[subTs] at hu⟩
  have HT:=hid hT
  have hrow:=hT.row
  have hbase:=hT.base
  clear ih hv hJ hJ2 hs hT
  obtain⟨op,s,nn,l⟩:=t
  obtain⟨p1,q1,rfl,_,hzs,_,t1⟩:=hc.look
  simp only[Tm.op_mk,Tm.s_mk,Tm.n_mk,Tm.l_mk] at t1 HV1 HF HF1 IH ⊢
  have HB0:Hid (∀ (x:Obj),Below w.heap.size w (w.alloc x)):=hid fun x=>(Below.refl _ _).alloc (Nat.le_refl _) _
  obtain⟨o1,cap1,e1,hc1,hm1,S1⟩:=SlOf.open t1
  cases e1
  clear hc t1
  by_cases h1:op=1
  ·obtain⟨hl,hJ,i,v,hp,hvi,hi,hty⟩:=HV1.out h1
   have hF1:=HF1.out h1 hl
   have HP:Hid (∀ (W:World),Below w.heap.size w W→Calls Tryz.prog 83 #[vv,.string s] W fun e w'=>e=.returned (.int .i64 i)∧Below W.heap.size W w'):=hid fun W hb=>by
    have:=place1_c vs vv s W (HT.out.kept hb).vars'
    rw[hp] at this
    exact this
   have HC:=hid (fun (W:World) (hb:Below w.heap.size w W)=>(HT.out.kept hb).cell hi)
   have HFz:=hid (fun (W:World) (hb:Below w.heap.size w W)=>(own_at (HT.out.kept hb).own).2.1 i)
   have hlt:i < ts.length:=(List.getElem?_eq_some_iff.1 hi).1
   have hlt':(i:Int) < (ts.length:Int):=by omega
   have h0:(0:Int)≤(i:Int):=by omega
   have HJ:=hid hJ
   have HF2:=hid hF1
   have Hty:=hid hty
   have Hvi:=hid hvi
   have Hi:=hid hi
   obtain⟨ov,kv,rfl,_⟩:=SlOf.uni HT.out.vars
   clear HV1 HF HF1 hp hi hJ hF1 hty hvi IH S1
   subst h1
   by_cases hk:k=0
   ·have HN:Hid (Full (knP vs ts) (.mk 1 s nn l) k):=hid (HF2.out ts (.inl hk))
    subst hk
    go_enter Tryz.func99,Tryz.ntmps99
    go_wp2_with fail
    refine (HP.out _ (HB0.out _)).mono ?_
    rintro e w1 ⟨rfl,b1⟩
    have B1:=hid ((HB0.out _).trans (b1.mono (by simp)))
    clear b1
    go_wp2
    go_ret
    exact⟨ts,false,rfl,.none HN.out,HT.out.kept B1.out,.ofBelow B1.out⟩
   ·have hk0:(k == 0)=false:=by simpa using hk
    by_cases hv0:v=0
    ·have HL:Hid (∀ N,Lrn J vs N ts (ts.set i k) true):=hid fun N=>.set Hvi.out (by rw[← hv0];exact Hi.out) hk (HJ.out hk)
     subst hv0
     go_enter Tryz.func99,Tryz.ntmps99
     go_wp2_with fail
     refine (HP.out _ (HB0.out _)).mono ?_
     rintro e w1 ⟨rfl,b1⟩
     have B1:=hid ((HB0.out _).trans (b1.mono (by simp)))
     have c0:=HC.out _ B1.out
     have f0:=HFz.out _ B1.out
     have hgl:g < w1.heap.size:=by have:=B1.out.size;omega
     have HSt:=hid ((HT.out.kept B1.out).set hlt k)
     clear b1
     go_wp2
     go_ret
     exact⟨ts.set i k,true,rfl,HL.out _,HSt.out.1,(Kp.ofBelow B1.out).trans HSt.out.2⟩
    ·have hv1:(v != 0)=true:=by simpa using hv0
     have HN:Hid (Full (knP vs ts) (.mk 1 s nn l) k):=hid (HF2.out ts (.inr (by rw[Hty.out];exact hv0)))
     go_enter Tryz.func99,Tryz.ntmps99
     go_wp2_with fail
     refine (HP.out _ (HB0.out _)).mono ?_
     rintro e w1 ⟨rfl,b1⟩
     have B1:=hid ((HB0.out _).trans (b1.mono (by simp)))
     have c0:=HC.out _ B1.out
     have hgl:g < w1.heap.size:=by have:=B1.out.size;omega
     clear b1
     go_wp2
     go_ret
     exact⟨ts,false,rfl,.none HN.out,HT.out.kept B1.out,.ofBelow B1.out⟩
  ·have hb1:(op == 1)=false:=by simpa using h1
   have HFa:=hid (HF.out h1)
   obtain⟨ov,kv,rfl,_⟩:=SlOf.uni HT.out.vars
   clear HV1 HF HF1
   go_enter Tryz.func99,Tryz.ntmps99
   go_wp2
   go_loopw [10,11] (fun mv i wr=>∃ (j:Nat) (ts':List Int) (m:Bool),j≤l.length∧i=.int .i64 j∧mv=.bool m∧Lrn J vs (fun ts=>∀ c ∈ l.take j,Full (knP vs ts) c 1) ts ts' m∧TyS B g wr vs (.slice ov vs.length kv) ts'∧Kp (fun b=>b=g) (w.alloc (.cells #[.int .i64 op,.string s,.int .i64 nn,.slice p1 l.length q1] 51)) wr) (fun _ i _=>l.length - (intOf i).toNat)
   case atStart=>exact⟨0,ts,false,Nat.zero_le _,rfl,rfl,.none (by simp),HT.out.kept (HB0.out _),Kp.refl _ _⟩
   case round=>
    obtain⟨j,ts',m,hj,rfl,rfl,hL,hTr,hK⟩:=hrel
    have hB:Below B w wr:=((HB0.out _).mono hbase).trans (hK.below (by simp;omega) fun i hi e=>by omega)
    have hKs:=hK.size
    simp only[World.size_alloc] at hKs
    have hz0:w.heap.size < wr.heap.size:=by omega
    have x0:wr.cell? ⟨w.heap.size,3,none⟩=some (.slice p1 l.length q1):=by
     have q:=(hK.block w.heap.size (by simp) (by omega)).trans (World.alloc_heap_new w _)
     exact row_cells q 3
    have hlen:ts'.length=ts.length:=hL.len
    have HL:=hid hL
    have HTr:=hid hTr
    have HK:=hid hK
    clear hL hTr hK
    by_cases hlt:j < l.length
    ·have hlt3:(j:Int) < (l.length:Int):=by omega
     obtain⟨t,ht⟩:∃ t,l[j]?=some t:=⟨l[j],List.getElem?_eq_getElem hlt⟩
     obtain⟨a,p3,q3,rfl,ha,Hc,c0,c1,c2,c3⟩:=tm_in S1 hB ht
     have hal:(a.add (j * 4)).block < wr.heap.size:=by rw[addBlock];omega
     have HC:=IH.out t (List.mem_of_getElem? ht) ts' wr _ Hc.out HTr.out
     rw[hlen] at HC
     have HC:=hid HC
     have Ht:=hid ht
     clear ht hB
     go_wp2_with fail
     refine HC.out.mono ?_
     rintro e3 w3 ⟨ts3,m3,rfl,hL3,hT3,hK3⟩
     have hx:Lrn J vs (fun ts=>∀ c ∈ l.take (j+1),Full (knP vs ts) c 1) ts ts3 (m || m3):=(HL.out.comp hL3).mono fun h=>takes_all Ht.out h.1 h.2
     have HL3:=hid hx
     have HT3:=hid hT3
     have HK3:=hid (HK.out.trans hK3)
     clear hL3 hT3 hK3 HC hx
     cases m with
     | true=>
      go_wp2
      go_roundw
      case rel=>
       exact⟨j+1,ts3,true,hlt,by go_num,rfl,HL3.out,HT3.out,HK3.out⟩
      case measure=>simp[intOf];omega
     | false=>
      go_wp2
      go_roundw
      case rel=>exact⟨j+1,ts3,m3,hlt,by go_num,rfl,HL3.out,HT3.out,HK3.out⟩
      case measure=>simp[intOf];omega
    ·have hlt3:¬ (j:Int) < (l.length:Int):=by omega
     obtain rfl:j=l.length:=by omega
     go_wp2
     go_ret
     refine⟨ts',m,rfl,HL.out.mono fun h=>HFa.out _ (by rw[List.take_of_length_le (Nat.le_refl _)] at h;exact h),HTr.out,?_⟩
     exact (Kp.ofBelow (HB0.out _)).trans HK.out
theorem int_in {n₀:Nat} {w wr:World} {l:List Int} {o:Option Addr} {k:Nat} {t:Int} (S:Hid (SlIn w n₀ 1 IntC l o)) (hB:Below n₀ w wr) (ht:l[k]?=some t) :
  ∃ a,o=some a∧a.block < n₀∧I64 t∧wr.cell? (a.add k)=some (.int .i64 t):=by
 obtain⟨a,cs,rfl,ha,_,⟨rfl,hz⟩,h2⟩:=S.out k t ht
 have:=(h2.below ha hB).n1
 rw[Nat.mul_one] at this
 exact⟨a,rfl,ha,hz,this⟩
theorem bad_zero {ds:List De} {a:Am} (h:badA ds a=0):∃ (i:Nat) (d:De),findY a.rel ds=some i∧ds[i]?=some d∧d.types.length=a.l.length∧plc ds a=a.l.zip d.types:=by
 rcases bad_cases ds a with ⟨_,h1⟩ | ⟨i,d,h1,h2,h3⟩
 ·rw[h] at h1;cases h1
 ·refine⟨i,d,h1,h2,?_,?_⟩
  ·by_cases e:d.types.length=a.l.length
   ·exact e
   ·rw[if_neg e] at h3;omega
  ·unfold plc
   rw[h1]
   simp only[h2]
def AllF (vs:List ByteArray) (L:List (Tm × Int)) (ts:List Int):Prop:=∀ x ∈ L,Full (knP vs ts) x.1 x.2
theorem AllF.step {vs:List ByteArray} {L:List (Tm × Int)} {j:Nat} {x:Tm × Int} {ts:List Int} (h:L[j]?=some x) (h1:AllF vs (L.take j) ts) (h2:Full (knP vs ts) x.1 x.2):AllF vs (L.take (j+1)) ts:=takes_all h h1 h2
set_option maxRecDepth 100000 in
set_option maxHeartbeats 4000000 in
theorem rlearnAtom_c (J:ByteArray→Int→Prop) (vs:List ByteArray) (vv:Value) (B g:Nat) (ds:List De) (v:Value) (t:Am) (ts:List Int) (w:World) (cs:List Value) (hd:SlOf w B 6 (DeC w B) ds v) (hc:AmC w B t cs) (hT:TyS B g w vs vv ts) (hbd:badA ds t=0)
  (hv:∀ u ∈ subTs t.l,u.op=1→u.s ∈ vs∧u.l=[]) (hJ:∀ x ∈ plc ds t,x.1.op=1→x.2≠0→J x.1.s x.2) (hJ2:∀ x ∈ t.l,∀ u ∈ subTs x.l,u.op=1→J u.s 1) :
  Calls Tryz.prog 65 #[v,.agg cs.toArray,vv,.slice (some ⟨g,0,none⟩) ts.length ts.length] w (LrnR J vs (AllF vs (plc ds t)) ts B g vv w):=by
 obtain⟨i,d,hf,hi,hlen,hplc⟩:=bad_zero hbd
 rw[hplc] at hJ ⊢
 have HF:=hid (fun (W:World) (hb:Below w.heap.size w W)=>find5_c t.rel ds v W (SlOf.decl hd (hb.mono hT.base) (Nat.le_trans hT.base hb.size)))
 rw[hf] at HF
 unfold findV at HF
 have HL:=hid (fun (x:Tm) (hx:x ∈ t.l) (k:Int) (hk:x.op=1→k≠0→J x.s k) (ts:List Int) (W:World) (cs:List Value) (hc:TmC W B x cs) (hT:TyS B g W vs vv ts)=>rlearn_c J vs vv B g _ x k ts W cs (Nat.le_refl _) hc hT (fun u hu=>hv u (mem_subTs.2 ⟨x,hx,hu⟩)) hk (hJ2 x hx))
 obtain⟨rel,l⟩:=t
 obtain⟨v0,rfl,hzr,t1⟩:=hc
 simp only at HF HL t1 hlen hJ ⊢
 have HB0:Hid (∀ (x:Obj),Below w.heap.size w (w.alloc x)):=hid fun x=>(Below.refl _ _).alloc (Nat.le_refl _) _
 obtain⟨p1,q1,rfl,hc1,hm1,S1⟩:=SlOf.open t1
 obtain⟨od,kd,rfl,hc2,hm2,S2⟩:=SlOf.open hd
 have HT:=hid hT
 have hrow:=hT.row
 have hbase:=hT.base
 have HJ:=hid hJ
 have Hi:=hid hi
 have Hlen:=hid hlen
 have hil:i < ds.length:=(List.getElem?_eq_some_iff.1 hi).1
 have hil':(i:Int) < (ds.length:Int):=by omega
 have hi0:(0:Int)≤(i:Int):=by omega
 obtain⟨ov,kv,rfl,_⟩:=SlOf.uni HT.out.vars
 clear t1 hd hT hJ hJ2 hv hbd hplc hf hi hlen
 go_enter Tryz.func65,Tryz.ntmps65
 go_wp2_with fail
 refine (HF.out _ (HB0.out _)).mono ?_
 rintro e w1 ⟨rfl,b1⟩
 have q1':w1.heap[w.heap.size]?=some (.cells #[.string rel,.slice p1 l.length q1] 34 (0,0)):=(b1.block _ (by simp)).trans (World.alloc_heap_new w _)
 have B1:=hid ((HB0.out _).trans (b1.mono (by simp)))
 have Q1:=hid q1'
 have hz1:w.heap.size < w1.heap.size:=heap_lt q1'
 clear b1 q1' HF
 go_wp2
 go_loopw [11,12] (fun mv iv wr=>∃ (j:Nat) (ts':List Int) (m:Bool),j≤l.length∧iv=.int .i64 j∧mv=.bool m∧Lrn J vs (AllF vs ((l.zip d.types).take j)) ts ts' m∧TyS B g wr vs (.slice ov vs.length kv) ts'∧Kp (fun b=>b=g) w1 wr) (fun _ iv _=>l.length - (intOf iv).toNat)
 case atStart=>exact⟨0,ts,false,Nat.zero_le _,rfl,rfl,.none (fun x hx=>by simp at hx),HT.out.kept B1.out,Kp.refl _ _⟩
 case round=>
  obtain⟨j,ts',m,hj,rfl,rfl,hL,hTr,hK⟩:=hrel
  have hB:Below B w wr:=(B1.out.mono hbase).trans (hK.below (Nat.le_trans hbase B1.out.size) fun i hi e=>by omega)
  have hKs:=hK.size
  have qr:=(hK.block w.heap.size hz1 (by omega)).trans Q1.out
  have hz0:w.heap.size < wr.heap.size:=heap_lt qr
  have x0:wr.cell? ⟨w.heap.size,1,none⟩=some (.slice p1 l.length q1):=row_cells qr 1
  have hlen:ts'.length=ts.length:=hL.len
  have HLr:=hid hL
  have HTr:=hid hTr
  have HK:=hid hK
  clear hL hTr hK qr
  by_cases hlt:j < l.length
  ·have hlt3:(j:Int) < (l.length:Int):=by omega
   have hltd:j < d.types.length:=by have:=Hlen.out;omega
   have hltd3:(j:Int) < (d.types.length:Int):=by omega
   have hj0:(0:Int)≤(j:Int):=by omega
   obtain⟨t,ht⟩:∃ t,l[j]?=some t:=⟨l[j],List.getElem?_eq_getElem hlt⟩
   obtain⟨k,hk⟩:∃ k,d.types[j]?=some k:=⟨d.types[j],List.getElem?_eq_getElem hltd⟩
   have hzip:(l.zip d.types)[j]?=some (t,k):=by rw[List.getElem?_zip_eq_some];exact⟨ht,hk⟩
   obtain⟨a,p3,q3,rfl,ha,Hc,c0,c1,c2,c3⟩:=tm_in S1 hB ht
   have hal:(a.add (j * 4)).block < wr.heap.size:=by rw[addBlock];omega
   obtain⟨b,p4,q4,p5,q5,rfl,hb,Hd,hcd⟩:=de_in S2 hB Hi.out
   have hbl:(b.add (i * 6)).block < wr.heap.size:=by rw[addBlock];omega
   have d2:=hcd.n6.2.2.1
   obtain⟨v5,u5,e5,_,_,_,hty⟩:=Hd.out
   cases e5
   obtain⟨o6,k6,e6,_,_,S6⟩:=SlOf.open hty
   cases e6
   obtain⟨f,rfl,hf,_,f0⟩:=int_in S6 (Below.refl _ _) hk
   have hfl:(f.add j).block < wr.heap.size:=by rw[addBlock];omega
   have HC:=HL.out t (List.mem_of_getElem? ht) k (HJ.out _ (List.mem_of_getElem? hzip)) ts'
   rw[hlen] at HC
   have HC:=hid HC
   have Ht:=hid hzip
   have HcB:=hid Hc.out
   have hS0:wr.drew.cell? ⟨w.heap.size,1,none⟩=some (.slice (some a) l.length q1)∧wr.drew.cell? (a.add (j * 4))=some (.int .i64 t.op)∧wr.drew.cell? ⟨(a.add (j * 4)).block,(a.add (j * 4)).off+1,none⟩=some (.string t.s)∧wr.drew.cell? ⟨(a.add (j * 4)).block,(a.add (j * 4)).off+2,none⟩=some (.int .i64 t.n)∧wr.drew.cell? ⟨(a.add (j * 4)).block,(a.add (j * 4)).off+3,none⟩=some (.slice p3 t.l.length q3)∧wr.drew.cell? ⟨(b.add (i * 6)).block,(b.add (i * 6)).off+2,none⟩=some (.slice (some f) d.types.length q5)∧wr.drew.cell? (f.add j)=some (.int .i64 k):=⟨x0,c0,c1,c2,c3,d2,f0⟩
   have HKp:Hid (∀ W:World,Kp (fun b=>b=g) wr.drew W→W.cell? ⟨w.heap.size,1,none⟩=some (.slice (some a) l.length q1)∧W.cell? (a.add (j * 4))=some (.int .i64 t.op)∧W.cell? ⟨(a.add (j * 4)).block,(a.add (j * 4)).off+1,none⟩=some (.string t.s)∧W.cell? ⟨(a.add (j * 4)).block,(a.add (j * 4)).off+2,none⟩=some (.int .i64 t.n)∧W.cell? ⟨(a.add (j * 4)).block,(a.add (j * 4)).off+3,none⟩=some (.slice p3 t.l.length q3)∧W.cell? ⟨(b.add (i * 6)).block,(b.add (i * 6)).off+2,none⟩=some (.slice (some f) d.types.length q5)∧W.cell? (f.add j)=some (.int .i64 k)):=hid fun W hW=>
    have q:∀ p:Addr,p.block < wr.heap.size→p.block≠g→W.cell? p=wr.drew.cell? p:=fun p h1 h2=>World.cell?_of_block (hW.block _ h1 h2)
    ⟨(q _ hz0 (by show ¬ w.heap.size=g;omega)).trans x0,(q _ hal (by rw[addBlock];omega)).trans c0,(q ⟨(a.add (j * 4)).block,(a.add (j * 4)).off+1,none⟩ hal (by show ¬ (a.add (j * 4)).block=g;rw[addBlock];omega)).trans c1,(q ⟨(a.add (j * 4)).block,(a.add (j * 4)).off+2,none⟩ hal (by show ¬ (a.add (j * 4)).block=g;rw[addBlock];omega)).trans c2,(q ⟨(a.add (j * 4)).block,(a.add (j * 4)).off+3,none⟩ hal (by show ¬ (a.add (j * 4)).block=g;rw[addBlock];omega)).trans c3,(q ⟨(b.add (i * 6)).block,(b.add (i * 6)).off+2,none⟩ hbl (by show ¬ (b.add (i * 6)).block=g;rw[addBlock];omega)).trans d2,(q _ hfl (by rw[addBlock];omega)).trans f0⟩
   clear ht hk hzip hcd hty Hd S6
   go_wp2_with fail
   go_region_held3 (fun W=>W.cell? ⟨w.heap.size,1,none⟩=some (.slice (some a) l.length q1)∧W.cell? (a.add (j * 4))=some (.int .i64 t.op)∧W.cell? ⟨(a.add (j * 4)).block,(a.add (j * 4)).off+1,none⟩=some (.string t.s)∧W.cell? ⟨(a.add (j * 4)).block,(a.add (j * 4)).off+2,none⟩=some (.int .i64 t.n)∧W.cell? ⟨(a.add (j * 4)).block,(a.add (j * 4)).off+3,none⟩=some (.slice p3 t.l.length q3)∧W.cell? ⟨(b.add (i * 6)).block,(b.add (i * 6)).off+2,none⟩=some (.slice (some f) d.types.length q5)∧W.cell? (f.add j)=some (.int .i64 k)) (first | exact hk1 | exact hS0)
    ((go_at_call 99;refine (HC.out _ _ (HcB.out.under (Below.refl _ _).drew) (HTr.out.kept (Below.refl _ _).drew)).mono ?_;rintro e3 w3 ⟨ts3,m3,rfl,hL3,hT3,hK3⟩;have hk1:=HKp.out _ hK3))
   have hx:Lrn J vs (AllF vs ((l.zip d.types).take (j+1))) ts ts3 (m || m3):=(HLr.out.comp hL3).mono fun h=>AllF.step Ht.out h.1 h.2
   have HL3:=hid hx
   have HT3:=hid hT3
   have HK3:=hid (HK.out.trans (⟨hK3.os,hK3.tape,hK3.output,hK3.size,hK3.block⟩:Kp (fun b=>b=g) wr w3))
   clear hL3 hT3 hK3 HC hx
   cases m with
   | true=>
    go_wp2
    go_roundw
    case rel=>exact⟨j+1,ts3,true,hlt,by go_num,rfl,HL3.out,HT3.out,HK3.out⟩
    case measure=>simp[intOf];omega
   | false=>
    go_wp2
    go_roundw
    case rel=>exact⟨j+1,ts3,m3,hlt,by go_num,rfl,HL3.out,HT3.out,HK3.out⟩
    case measure=>simp[intOf];omega
  ·have hlt3:¬ (j:Int) < (l.length:Int):=by omega
   obtain rfl:j=l.length:=by omega
   go_wp2
   go_ret
   refine⟨ts',m,rfl,HLr.out.mono fun h=>?_,HTr.out,(Kp.ofBelow B1.out).trans HK.out⟩
   rw[List.take_of_length_le (by rw[List.length_zip];exact Nat.min_le_left _ _)] at h
   exact h
end Go.Proofs.YtfmldnbcjbflbaaGreatDoor
