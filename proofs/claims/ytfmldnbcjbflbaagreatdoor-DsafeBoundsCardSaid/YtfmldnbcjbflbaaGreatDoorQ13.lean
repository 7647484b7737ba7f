/- Ynum@012, Ypl@012, Ytp@012, Ysh0@012 -/
import Derived.Laws.AppendOwn
import Derived.Stop.Asserts
import Derived.Test.YtfmldnbcjbflbaaGreatDoorQ12
import Derived.Test.YtfmldnbcjbflbaaGreatDoorQ7
import Derived.Test.YtfmldnbcjbflbaaGreatDoorQ9
set_option linter.unusedSimpArgs false
set_option linter.unusedVariables false
namespace Go.Proofs.YtfmldnbcjbflbaaGreatDoor
open Lib(hid)
open Go.RowKit Go.Extern Go.Extern.Rtype Go.Extern.Stop Go.Stop
theorem noIsE (v:Value) (xT:TypeId) (w:World):(Instr.typeAssert (.iface 191 v) xT 165 true).run Tryz.prog w=.ok (.tuple #[.nilIface,.bool false]) w:=run_typeAssert_lacksB Tryz.underlying165 (by kernel_rfl) (by kernel_rfl) v xT w
theorem noUnwrapE (v:Value) (xT:TypeId) (w:World):(Instr.typeAssert (.iface 191 v) xT 168 true).run Tryz.prog w=.ok (.tuple #[.nilIface,.bool false]) w:=run_typeAssert_lacksB Tryz.underlying168 (by kernel_rfl) (by kernel_rfl) v xT w
theorem noUnwrapsE (v:Value) (xT:TypeId) (w:World):(Instr.typeAssert (.iface 191 v) xT 170 true).run Tryz.prog w=.ok (.tuple #[.nilIface,.bool false]) w:=run_typeAssert_lacksB Tryz.underlying170 (by kernel_rfl) (by kernel_rfl) v xT w
structure YDiff (a b c d:Addr) (w:World):Prop where
 ab:a≠b
 ac:a≠c
 ad:a≠d
 cb:c≠b
 db:d≠b
 dc:d≠c
 ra:∃ cs t,w.heap[a.block]?=some (.cells cs t (0,0))
 rb:∃ cs t,w.heap[b.block]?=some (.cells cs t (0,0))
 rc:∃ cs t,w.heap[c.block]?=some (.cells cs t (0,0))
 rd:∃ cs t,w.heap[d.block]?=some (.cells cs t (0,0))
structure EnvY (e a b c d:Addr) (w:World):Prop where
 tr:TErr e w
 y:YEnv w.heap.size a b c d w
 df:YDiff a b c d w
theorem heap_lt {w:World} {i:Nat} {o:Obj} (h:w.heap[i]?=some o):i < w.heap.size:=(Array.getElem?_eq_some_iff.1 h).1
theorem YDiff.below {a b c d:Addr} {w w':World} (h:YDiff a b c d w) (hb:Below w.heap.size w w'):YDiff a b c d w':=by
 have k:∀ {x:Addr},(∃ cs t,w.heap[x.block]?=some (.cells cs t (0,0)))→∃ cs t,w'.heap[x.block]?=some (.cells cs t (0,0)):=fun ⟨cs,t,h⟩=>⟨cs,t,(hb.block _ (heap_lt h)).trans h⟩
 exact⟨h.ab,h.ac,h.ad,h.cb,h.db,h.dc,k h.ra,k h.rb,k h.rc,k h.rd⟩
theorem YEnv.more {n m:Nat} {a b c d:Addr} {w:World} (h:YEnv n a b c d w) (hm:n≤m):YEnv m a b c d w:=⟨h.ty,h.tw,h.no,h.ar,by have:=h.big;omega⟩
theorem EnvY.below {e a b c d:Addr} {w w':World} (h:EnvY e a b c d w) (hb:Below w.heap.size w w'):EnvY e a b c d w':=
 ⟨h.tr.below hb,(h.y.below hb).more hb.size,h.df.below hb⟩
theorem sl_row {α:Type} {w:World} {base:Nat} {T:TypeId} {v:Value} {l:List α} {f:α→Value} {R:α→List Value→Prop} (h:w.ownsRow base T 1 v l.length (l.map f)) (hR:∀ x ∈ l,R x [f x]):SlOf w w.heap.size 1 R l v:=by
 rcases h.2 with ⟨rfl,h0⟩ | ⟨g,cap,cur,hv,hb,hg,hn,hc,hcur,ht⟩
 ·exact .inl ⟨rfl,List.eq_nil_of_length_eq_zero h0⟩
 ·refine .inr ⟨⟨g,0,none⟩,cap,hv,hn,hc,fun _=>(Array.getElem?_eq_some_iff.1 hg).1,fun i x hx=>⟨[f x],rfl,hR x (List.mem_of_getElem? hx),fun j c hj=>?_⟩⟩
  have h1:=h.cells (g:=g) (by rw[hv];rfl) i (f x) (by simp[hx])
  cases j with
  | zero=>
   have e:f x=c:=by simpa using hj
   subst e
   simpa using h1
  | succ j=>simp at hj
theorem drop_int {l:List Int} {k:Nat} {t:Int} (h:l[k]?=some t):l.drop k=t::l.drop (k+1):=by
 rw[List.drop_eq_getElem_cons (List.getElem?_eq_some_iff.1 h).1,(List.getElem?_eq_some_iff.1 h).2]
set_option maxRecDepth 100000 in
set_option maxHeartbeats 4000000 in
theorem sameInts_c (l m:List Int) (v u:Value) (w:World) (h1:SlOf w w.heap.size 1 IntC l v) (h2:SlOf w w.heap.size 1 IntC m u) :
  Calls Tryz.prog 17 #[v,u] w fun e w'=>e=.returned (.bool (decide (l=m)))∧Below w.heap.size w w':=by
 obtain⟨o1,k1,rfl,_,_,S1⟩:=SlOf.open h1
 obtain⟨o2,k2,rfl,_,_,S2⟩:=SlOf.open h2
 have HB0:Hid (Below w.heap.size w w):=hid (Below.refl _ _)
 clear h1 h2
 by_cases hl:l.length=m.length
 ·have hl':((l.length:Int) != (m.length:Int))=false:=by simp[hl]
  have Hl:=hid hl
  clear hl
  go_enter Tryz.func17,Tryz.ntmps17
  go_wp2
  go_loopw [5] (fun i wr=>∃ k:Nat,k≤l.length∧i=.int .i64 k∧(l=m ↔ l.drop k=m.drop k)∧Below w.heap.size w wr) (fun i _=>l.length - (intOf i).toNat)
  case atStart=>exact⟨0,Nat.zero_le _,rfl,by simp,HB0.out⟩
  case round=>
   obtain⟨k,hk,rfl,hr,hB⟩:=hrel
   have Hr:=hid hr
   clear hr
   by_cases hlt:k < l.length
   ·have hlt':(k:Int) < (l.length:Int):=by omega
    have hlm:k < m.length:=by have:=Hl.out;omega
    have hlm':(k:Int) < (m.length:Int):=by omega
    obtain⟨x,hx⟩:∃ x,l[k]?=some x:=⟨l[k],List.getElem?_eq_getElem hlt⟩
    obtain⟨y,hy⟩:∃ y,m[k]?=some y:=⟨m[k],List.getElem?_eq_getElem hlm⟩
    obtain⟨a,rfl,ha,_,c0⟩:=int_at S1 hB hx
    obtain⟨b,rfl,hb,_,d0⟩:=int_at S2 hB hy
    have Hst:Hid (l.drop k=m.drop k ↔ x=y∧l.drop (k+1)=m.drop (k+1)):=hid (by rw[drop_int hx,drop_int hy];simp)
    clear hx hy
    have g1:decide (0≤(k:Int))=true:=by simp
    have g2:decide ((k:Int) < (l.length:Int))=true:=by simpa using hlt
    have g3:decide ((k:Int) < (m.length:Int))=true:=by simpa using hlm
    cases hxy:(x != y) with
    | true=>
     have Hz:Hid (¬ l=m):=hid fun e=>by
      have:=(Hst.out.1 (Hr.out.1 e)).1
      simp[this] at hxy
     go_wp2_with fail
     go_quiet (fail)
     go_wp2
     go_ret
     exact⟨by rw[decide_eq_false Hz.out];rfl,below_drewN hB⟩
    | false=>
     have Hz:Hid (l=m ↔ l.drop (k+1)=m.drop (k+1)):=hid (Hr.out.trans (Hst.out.trans ⟨fun h=>h.2,fun h=>⟨by simpa using hxy,h⟩⟩))
     go_wp2_with fail
     go_quiet (fail)
     go_wp2
     go_roundw
     case rel=>exact⟨k+1,by omega,by go_num,Hz.out,below_drewN hB⟩
     case measure=>simp[intOf];omega
   ·have hlt':¬ (k:Int) < (l.length:Int):=by omega
    have Hz:Hid (l=m):=hid (Hr.out.2 (by have:=Hl.out;rw[List.drop_of_length_le (by omega),List.drop_of_length_le (by omega)]))
    go_wp2
    go_ret
    exact⟨by rw[decide_eq_true Hz.out];rfl,hB⟩
 ·have hl':((l.length:Int) != (m.length:Int))=true:=by simp;omega
  have Hz:Hid (¬ l=m):=hid fun e=>hl (by rw[e])
  clear hl
  go_enter Tryz.func17,Tryz.ntmps17
  go_wp2
  go_ret
  exact⟨by rw[decide_eq_false Hz.out];rfl,HB0.out⟩
theorem place_drop (l:List ByteArray) (s:ByteArray) (k:Nat):(∀ x ∈ l.take k,(x.toList == s.toList)=false)→(∀ x,l[k]?=some x→(x.toList == s.toList)=true→placeV l s=k):=by
 intro h x hx hs
 unfold placeV
 have:l.findIdx? (fun x=>x.toList == s.toList)=some k:=by
  rw[List.findIdx?_eq_some_iff_getElem]
  obtain⟨hk,e⟩:=List.getElem?_eq_some_iff.1 hx
  refine⟨hk,by rw[e];exact hs,fun j hj=>?_⟩
  have:=h l[j] (List.mem_take_iff_getElem.2 ⟨j,by omega,rfl⟩)
  simpa using this
 rw[this]
theorem place_none (l:List ByteArray) (s:ByteArray) (h:∀ x ∈ l,(x.toList == s.toList)=false):placeV l s = -1:=by
 unfold placeV
 have:l.findIdx? (fun x=>x.toList == s.toList)=none:=by
  rw[List.findIdx?_eq_none_iff]
  exact fun x hx=>by rw[h x hx]
 rw[this]
set_option maxRecDepth 100000 in
set_option maxHeartbeats 4000000 in
theorem place1_c (l:List ByteArray) (v:Value) (s:ByteArray) (w:World) (h1:SlOf w w.heap.size 1 StrC l v) :
  Calls Tryz.prog 83 #[v,.string s] w fun e w'=>e=.returned (.int .i64 (placeV l s))∧Below w.heap.size w w':=by
 obtain⟨o1,k1,rfl,_,_,S1⟩:=SlOf.open h1
 have HB0:Hid (Below w.heap.size w w):=hid (Below.refl _ _)
 clear h1
 go_enter Tryz.func83,Tryz.ntmps83
 go_wp2
 go_loopw [5] (fun i wr=>∃ k:Nat,k≤l.length∧i=.int .i64 k∧(∀ x ∈ l.take k,(x.toList == s.toList)=false)∧Below w.heap.size w wr) (fun i _=>l.length - (intOf i).toNat)
 case atStart=>exact⟨0,Nat.zero_le _,rfl,by simp,HB0.out⟩
 case round=>
  obtain⟨k,hk,rfl,hr,hB⟩:=hrel
  have Hr:=hid hr
  clear hr
  by_cases hlt:k < l.length
  ·have hlt':(k:Int) < (l.length:Int):=by omega
   obtain⟨x,hx⟩:∃ x,l[k]?=some x:=⟨l[k],List.getElem?_eq_getElem hlt⟩
   obtain⟨a,rfl,ha,_,c0⟩:=str_at S1 hB hx
   cases hxy:(x.toList == s.toList) with
   | true=>
    have Hz:Hid (placeV l s=k):=hid (place_drop l s k Hr.out x hx hxy)
    clear hx
    go_wp2
    go_ret
    exact⟨by rw[Hz.out];rfl,hB⟩
   | false=>
    have Hz:Hid (∀ x ∈ l.take (k+1),(x.toList == s.toList)=false):=hid fun y hy=>by
     rw[List.take_add_one,hx] at hy
     rcases List.mem_append.1 hy with hy | hy
     ·exact Hr.out y hy
     ·rw[show y=x by simpa using hy];exact hxy
    clear hx
    go_wp2
    go_roundw
    case rel=>exact⟨k+1,by omega,by go_num,Hz.out,hB⟩
    case measure=>simp[intOf];omega
  ·have hlt':¬ (k:Int) < (l.length:Int):=by omega
   have Hz:Hid (placeV l s = -1):=hid (place_none l s fun x hx=>Hr.out x (by rw[List.take_of_length_le (by omega)];exact hx))
   go_wp2
   go_ret
   exact⟨by rw[Hz.out];rfl,hB⟩
set_option maxRecDepth 100000 in
theorem place_c (l:List ByteArray) (v:Value) (s:ByteArray) (w:World) (h1:SlOf w w.heap.size 1 StrC l v) :
  Calls Tryz.prog 49 #[v,.string s] w fun e w'=>e=.returned (.int .i64 (placeV l s))∧Below w.heap.size w w':=by
 have HH:=hid (place1_c l v s w h1)
 clear h1
 go_enter Tryz.func49,Tryz.ntmps49
 go_wp2_with fail
 refine HH.out.mono ?_
 rintro e w' ⟨rfl,b⟩
 go_wp2
 go_ret
 exact⟨rfl,b⟩
theorem rule_slice (W:World) (r:Ru) {c0 c1 c2 c3:Value} (hc:RuC W W.heap.size r [c0,c1,c2,c3]) :
  SlOf (W.alloc (.cells #[c0,c1,c2,c3] 37)) (W.alloc (.cells #[c0,c1,c2,c3] 37)).heap.size 4 (RuC (W.alloc (.cells #[c0,c1,c2,c3] 37)) (W.alloc (.cells #[c0,c1,c2,c3] 37)).heap.size) [r] (.slice (some ⟨W.heap.size,0,none⟩) 1 1):=by
 have hb:Below W.heap.size W (W.alloc (.cells #[c0,c1,c2,c3] 37)):=(Below.refl _ _).alloc (Nat.le_refl _) _
 have hrow:=World.alloc_heap_new W (.cells #[c0,c1,c2,c3] 37)
 have news:=World.news_of_block hrow
 refine .inr ⟨⟨W.heap.size,0,none⟩,1,rfl,Nat.le_refl _,by unfold maxLen;omega,fun _=>by simp,fun i z hz=>?_⟩
 match i,hz with
 | 0,hz=>
  have e:r=z:=by simpa using hz
  subst e
  refine⟨[c0,c1,c2,c3],rfl,(hc.below hb).more hb.size,fun j c hj=>?_⟩
  have:=news j c hj
  simpa using this
 | i+1,hz=>simp at hz
theorem info_int:(Tryz.prog.info? 3).map (fun i=>(i.zero,i.size,i.bytes))=some (some (.int .i64 0),1,8):=by kernel_rfl
theorem news_one (W:World) (v:Value) (T:TypeId):∀ j u,[v][j]?=some u→(W.alloc (.cells #[v] T)).cell? ((⟨W.heap.size,0,none⟩:Addr).add j)=some u:=World.news_of_block (World.alloc_heap_new W (.cells #[v] T))
theorem grown_past {a b:World} {o:Obj} {row:Option Nat} (k:(a.alloc o).grownBy b row):a.grownBy b row:=
 ⟨k.os,k.tape,k.output,Nat.le_trans (by simp) k.size,fun i hi hne=>(k.block i (by simp;omega) hne).trans (Below.heap_alloc a o i hi)⟩
theorem own_shape {w:World} {base e size n:Nat} {v:Value} {xs:List Value} (h:w.ownsRow base e size v n xs):∃ o cap,v=.slice o n cap:=by
 rcases h.2 with ⟨rfl,h0⟩ | ⟨g,cap,cur,hv,hb,_⟩
 ·subst h0;exact⟨_,_,rfl⟩
 ·exact⟨_,_,hv⟩
def varsA (r:Ru):List ByteArray:=if rightR r=true then varsV (termsR r) else []
theorem flat_at {z:Nat}:∀ (css:List (List Value)) (i j:Nat) (cs:List Value) (c:Value),(∀ x ∈ css,x.length=z)→css[i]?=some cs→cs[j]?=some c→css.flatten[i * z+j]?=some c
 | [],i,j,cs,c,_,h,_=>by simp at h
 | x::css,0,j,cs,c,hz,h,hc=>by
  simp only[List.getElem?_cons_zero,Option.some.injEq] at h
  subst h
  rw[List.flatten_cons,Nat.zero_mul,Nat.zero_add,List.getElem?_append_left (List.getElem?_eq_some_iff.1 hc).1]
  exact hc
 | x::css,i+1,j,cs,c,hz,h,hc=>by
  rw[List.flatten_cons,List.getElem?_append_right (by rw[hz x (List.mem_cons_self ..),Nat.succ_mul];omega),hz x (List.mem_cons_self ..),show (i+1) * z+j - z=i * z+j by rw[Nat.succ_mul];omega]
  exact flat_at css i j cs c (fun y hy=>hz y (List.mem_cons_of_mem _ hy)) (by simpa using h) hc
theorem sl_cells {α:Type} {w:World} {B z:Nat} {T:TypeId} {R:α→List Value→Prop} {l:List α} (css:List (List Value)) (hrow:w.heap[B]?=some (.cells css.flatten.toArray T (0,0))) (hl:css.length=l.length) (hz:∀ cs ∈ css,cs.length=z)
  (hR:∀ (i:Nat) (x:α) (cs:List Value),l[i]?=some x→css[i]?=some cs→R x cs) (hm:l.length≤maxLen):SlOf w w.heap.size z R l (.slice (some ⟨B,0,none⟩) l.length l.length):=by
 have news:=World.news_of_block hrow
 refine .inr ⟨⟨B,0,none⟩,l.length,rfl,Nat.le_refl _,hm,fun _=>heap_lt hrow,fun i x hx=>?_⟩
 have hi:i < css.length:=by rw[hl];exact (List.getElem?_eq_some_iff.1 hx).1
 refine⟨css[i],hz _ (List.getElem_mem hi),hR i x _ hx (List.getElem?_eq_getElem hi),fun j c hj=>?_⟩
 exact news (i * z+j) c (flat_at css i j css[i] c hz (List.getElem?_eq_getElem hi) hj)
def vT (s:ByteArray):Tm:=.mk 1 s 0 []
theorem vT_c (w:World) (s:ByteArray) (hs:s.size≤maxLen):TmC w w.heap.size (vT s) [.int .i64 1,.string s,.int .i64 0,.slice none 0 0]:=.nil 1 s 0 (by unfold I64;omega) hs (by unfold I64;omega)
def zT:Tm:=.mk 0 ⟨#[]⟩ 0 []
theorem zT_c (w:World):TmC w w.heap.size zT [.int .i64 0,.string ⟨#[]⟩,.int .i64 0,.slice none 0 0]:=.nil 0 ⟨#[]⟩ 0 (by unfold I64;omega) (by decide) (by unfold I64;omega)
theorem row_more {w:World} {i:Nat} {x:Obj} (h:w.heap[i]?=some x) (o:Obj):(w.alloc o).heap[i]?=some x:=(Below.heap_alloc w o i (heap_lt h)).trans h
theorem row_cells {w:World} {b:Nat} {cs:Array Value} {T:TypeId} (h:w.heap[b]?=some (.cells cs T (0,0))) (i:Nat):w.cell? ⟨b,i,none⟩=cs[i]?:=by unfold World.cell?;rw[h];rfl
def pS:ByteArray:=⟨#[112]⟩
def xS:ByteArray:=⟨#[120]⟩
def yS:ByteArray:=⟨#[121]⟩
end Go.Proofs.YtfmldnbcjbflbaaGreatDoor
