/- Lk@012, Dlex@012, Dslice@012, Parr@012, Lc@012, Dlaws@012, Dmath@012, Tlen@012, Lg@012, Twshow@012 -/
import Derived.Maps.AppendAt
import Derived.Test.YtdgbajnhhhjbcaaGreatDoorQ21
import Derived.Test.YtdgbajnhhhjbcaaGreatDoorQ22
set_option linter.unusedSimpArgs false
namespace Go.Proofs.YtdgbajnhhhjbcaaGreatDoor
open Lib(hid)
open Go.RowKit
def keyU (l:List UInt8):List Key × Bool:=((lexU l).1.map fun t=>((t.1:Int),t.2),(lexU l).2)
mutual
def okN:Tm→Bool
 | .mk o _ n l=>okNs l && (!(o == 2) || decide (-9223372036854775808 < n∧n≤9223372036854775807))
def okNs:List Tm→Bool
 | []=>true
 | t::l=>okN t && okNs l
end
def Reads (s:List UInt8) (ks:List Key) (R:List UInt8→Prop):Prop:=∀ r,R r→keyU (s++r)=(ks++(keyU r).1,(keyU r).2)
def Any (_:List UInt8):Prop:=True
theorem Reads.app {s t:List UInt8} {ks js:List Key} {R S:List UInt8→Prop} (h:Reads s ks R) (k:Reads t js S) (hR:∀ r,S r→R (t++r)):Reads (s++t) (ks++js) S:=fun r hr=>by
 rw[List.append_assoc,h (t++r) (hR r hr),k r hr,List.append_assoc]
theorem Reads.weak {s:List UInt8} {ks:List Key} {R S:List UInt8→Prop} (h:Reads s ks R) (hR:∀ r,S r→R r):Reads s ks S:=fun r hr=>h r (hR r hr)
end Go.Proofs.YtdgbajnhhhjbcaaGreatDoor
namespace Go.Proofs.YtdgbajnhhhjbcaaGreatDoor
open Lib(hid)
open Go.RowKit Go.Shelf
attribute [local go_sem] Oper.semAt_some
def tokRow (t:Tk):List Value:=[.int .i64 (t.kind:Int),.string ⟨t.s.toArray⟩,.int .i64 (t.line:Int)]
def tokCells (ts:List Tk):List Value:=ts.flatMap tokRow
def LexPost (w:World) (r:List Tk × Nat × Nat) (e:Ending) (w':World):Prop:=
 ∃ v,e=.returned (.tuple #[v,.int .i64 (r.2.1:Int),.int .i64 (r.2.2:Int)])∧w'.ownsRow w.heap.size 89 3 v r.1.length (tokCells r.1)∧Below w.heap.size w w'
theorem lexR_long {l:List UInt8} (h:65536 < l.length):lexR l=([],0,21):=by unfold lexR;rw[if_pos h]
theorem lex_long (s:ByteArray) (w:World) (h:65536 < s.size) (hs:s.size≤1073741823) :
  Calls Tryz.prog 16 #[.string s] w (LexPost w (lexR s.data.toList)):=by
 have Hr:Hid (lexR s.data.toList=([],0,21)):=hid (lexR_long (by rw[data_len];exact h))
 have h':(65536:Int) < (s.size:Int):=by omega
 go_enter Tryz.func16,Tryz.ntmps16
 go_wp2
 go_step3
 go_wp2
 try rw[Exit.noGoto_ret]
 go_ret3
 unfold LexPost
 rw[Hr.out]
 exact⟨_,rfl,World.ownsRow_nil _ _ _ _,Below.refl _ _⟩
theorem prefix_at {α:Type} {p q:List α} {x:α} (h:p++[x] <+: q):q[p.length]?=some x:=by
 obtain⟨r,rfl⟩:=h
 simp
theorem lexR_bad {l:List UInt8} (hl:¬ 65536 < l.length) {p:List (Tk × Bool)} {x:Tk × Bool} (hp:p++[x] <+: seqD (l.length+1) 1 l) (hlen:p.length≤20000) (hx:x.2=true):lexR l=([],x.1.line,20):=by
 have h:=prefix_at hp
 rw[seqD_lexF] at h
 change ((lexL l).1.map (fun t=>(t,false))++behind (lexL l).2)[p.length]?=some x at h
 rcases Nat.lt_or_ge p.length (lexL l).1.length with hlt | hge
 ·rw[List.getElem?_append_left (by simpa using hlt),List.getElem?_map,List.getElem?_eq_getElem hlt] at h
  simp only[Option.map_some,Option.some.injEq] at h
  rw[← h] at hx
  cases hx
 ·rw[List.getElem?_append_right (by simpa using hge)] at h
  cases he:(lexL l).2 with
  | none=>rw[he] at h;simp[behind] at h
  | some e=>
   rw[he] at h
   simp only[behind,List.length_map] at h
   have h0:p.length - (lexL l).1.length=0:=by
    rcases Nat.eq_zero_or_pos (p.length - (lexL l).1.length) with h1 | h1
    ·exact h1
    ·rw[List.getElem?_eq_none (by simp;omega)] at h
     cases h
   rw[h0] at h
   simp only[List.getElem?_cons_zero,Option.some.injEq] at h
   unfold lexR
   rw[if_neg hl,if_neg (by omega),he,← h]
theorem lexR_many {l:List UInt8} (hl:¬ 65536 < l.length) {p:List (Tk × Bool)} {x:Tk × Bool} (hp:p++[x] <+: seqD (l.length+1) 1 l) (hlen:p.length=20000) (hx:x.2=false):lexR l=([],x.1.line,21):=by
 have h:=prefix_at hp
 rw[seqD_lexF] at h
 change ((lexL l).1.map (fun t=>(t,false))++behind (lexL l).2)[p.length]?=some x at h
 rcases Nat.lt_or_ge p.length (lexL l).1.length with hlt | hge
 ·rw[List.getElem?_append_left (by simpa using hlt),List.getElem?_map,List.getElem?_eq_getElem hlt] at h
  simp only[Option.map_some,Option.some.injEq] at h
  unfold lexR
  rw[if_neg hl,if_pos (by omega),List.getD_eq_getElem?_getD,← hlen,List.getElem?_eq_getElem hlt,← h]
  rfl
 ·rw[List.getElem?_append_right (by simpa using hge)] at h
  have:x ∈ behind (lexL l).2:=List.mem_of_getElem? h
  cases he:(lexL l).2 with
  | none=>rw[he] at this;simp[behind] at this
  | some e=>
   rw[he] at this
   simp only[behind,List.mem_singleton] at this
   rw[this] at hx
   cases hx
theorem lexR_good {l:List UInt8} (hl:¬ 65536 < l.length) (hall:∀ x ∈ seqD (l.length+1) 1 l,x.2=false) (hlen:(seqD (l.length+1) 1 l).length≤20000):lexR l=((seqD (l.length+1) 1 l).map (·.1),0,0):=by
 rw[seqD_lexF] at hall hlen ⊢
 change ∀ x ∈ (lexL l).1.map (fun t=>(t,false))++behind (lexL l).2,x.2=false at hall
 change ((lexL l).1.map (fun t=>(t,false))++behind (lexL l).2).length≤20000 at hlen
 change _=(((lexL l).1.map (fun t=>(t,false))++behind (lexL l).2).map (·.1),0,0)
 cases he:(lexL l).2 with
 | none=>
  rw[he] at hlen
  simp only[behind,List.append_nil,List.length_map] at hlen ⊢
  unfold lexR
  rw[if_neg hl,if_neg (by omega),he]
  simp[Function.comp_def]
 | some e=>
  rw[he] at hall
  have:=hall (⟨0,[],e⟩,true) (by simp[behind])
  cases this
def tokA (x:Tk × Bool):Value:=if x.2=true then .agg #[.int .i64 0,.string ⟨#[]⟩,.int .i64 0] else tokV x.1
def errA (b:Addr) (x:Tk × Bool):Value:=if x.2=true then leV (x.1.line:Int) b else .nilIface
def rowA (x:Tk × Bool):Array Value:=if x.2=true then #[.int .i64 0,.string ⟨#[]⟩,.int .i64 0] else #[.int .i64 (x.1.kind:Int),.string ⟨x.1.s.toArray⟩,.int .i64 (x.1.line:Int)]
def LeftBy (b c:Addr) (n0:Nat) (pre:List (Tk × Bool)) (W:World):Prop:=
 ∃ (p:List (Tk × Bool)) (x:Tk × Bool),pre=p++[x]∧p.length≤20000∧((x.2=true∧Boxed W (n0+1) 75 (leV (x.1.line:Int) b))∨(x.2=false∧p.length=20000∧Boxed W (n0+1) 75 (leV (x.1.line:Int) c)))
theorem infoTok:(Tryz.prog.info? 89).map (fun i=>(i.zero,i.size,i.bytes))=some (some (.agg #[.int .i64 0,.string ⟨#[]⟩,.int .i64 0]),3,32):=by kernel_rfl
theorem tok_new (W:World) (t:Tk):∀ j u,(tokRow t)[j]?=some u→(W.alloc (.cells #[.int .i64 (t.kind:Int),.string ⟨t.s.toArray⟩,.int .i64 (t.line:Int)] 89)).cell? ((⟨W.heap.size,0,none⟩:Addr).add j)=some u:=by
 intro j u hj
 have hadd:(⟨W.heap.size,0,none⟩:Addr).add j=⟨W.heap.size,j,none⟩:=by unfold Addr.add;split <;> simp_all
 rw[hadd,(cell_row (World.alloc_heap_new W _) j).1]
 simpa[tokRow] using hj
theorem tok_one (t:Tk):∀ u ∈ tokRow t,u.oneCell'=true:=by
 intro u hu
 simp only[tokRow,List.mem_cons,List.not_mem_nil,or_false] at hu
 rcases hu with rfl | rfl | rfl <;> rfl
set_option maxRecDepth 100000 in
set_option maxHeartbeats 8000000 in
theorem lex_short (s:ByteArray) (a b c:Addr) (w:World) (h:¬ 65536 < s.size) (E:DEnv a b c w) (hb:RowAt b w) (hc:RowAt c w) :
  CallsIn Fence.wide 6 Tryz.prog 16 #[.string s] w fun e W'=>LexPost w (lexR s.data.toList) e W':=by
 have h':¬ (65536:Int) < (s.size:Int):=by omega
 have HE:=hid E
 have hV:=E.env.size
 have Hb:=hid hb
 have Hc:=hid hc
 clear E hb hc
 refine callsIn_of_wp_marks Tryz.func16 rfl trivial ?_ rfl
 simp only[Tryz.ntmps16,List.size_toArray,List.length_cons,List.length_nil,Nat.reduceAdd,Nat.reduceSub,Array.replicate_succ,Array.replicate_zero,List.push_toArray,List.append_toArray,List.nil_append,List.cons_append]
 gi_wp2_with fail
 refine wpIn_scope_wide ?_
 gi_wp2_with fail
 refine wpIn_label ?_
 gi_wp2_with fail
 refine⟨trivial,(eachToken_in _ s _).mono ?_⟩
 rintro e w3 ⟨rfl,rfl⟩
 gi_wp2_with fail
 obtain⟨n0,hn0⟩:∃ n0,w.heap.size=n0:=⟨_,rfl⟩
 obtain⟨WL,hWL⟩:∃ WL,(((w.alloc (.cells #[.slice none 0 0] 47)).alloc (.cells #[.nilIface] 75)).alloc (.cells #[.string s] 9))=WL:=⟨_,rfl⟩
 have bL:Boxed WL n0 47 (.slice none 0 0):=by
  have:=((Boxed.new w 47 (.slice none 0 0)).alloc (.cells #[.nilIface] 75)).alloc (.cells #[.string s] 9)
  rw[hWL,hn0] at this
  exact this
 have bW:Boxed WL (n0+1) 75 .nilIface:=by
  have:=(Boxed.new (w.alloc (.cells #[.slice none 0 0] 47)) 75 .nilIface).alloc (.cells #[.string s] 9)
  rw[hWL,World.size_alloc,hn0] at this
  exact this
 have hbox:BoxAt (n0+1+1) s WL:=by
  have:=World.alloc_heap_new ((w.alloc (.cells #[.slice none 0 0] 47)).alloc (.cells #[.nilIface] 75)) (.cells #[.string s] 9)
  rw[hWL] at this
  unfold BoxAt
  simpa[hn0] using this
 have hsz:WL.heap.size=n0+3:=by rw[← hWL];simp;omega
 have hBL:Below n0 w WL:=by
  rw[← hWL]
  exact (((Below.refl _ w).alloc (by omega) _).alloc (by simp;omega) _).alloc (by simp;omega) _
 rw[hWL,hn0]
 rw[hn0] at hV
 have Hn0:=hid hn0
 have Hsz:=hid hsz
 clear hWL hn0 hsz
 refine wpIn_rangeFunc_ownH rfl (by omega) (gf:=58) (lb:=#[.pointer (some ⟨n0+1+1,0,none⟩)]) rfl trivial (enters_of Tryz.func58 (by kernel_rfl) rfl)
  (eachToken_stops 5 (by omega) (n0+1+1) s (by omega) a b c WL (by have:=Hsz.out;omega) hbox (HE.out.belowB hV hBL)) (fun h k e=>k (h e)) ?hKb (Below.refl _ _) (fun x=>by unfold encD;split <;> rfl)
  (fun pre W=>((∃ v,Boxed W n0 47 v∧W.ownsRow n0 89 3 v pre.length (tokCells (pre.map (·.1)))∧True)∧Boxed W (n0+1) 75 .nilIface∧((∀ x ∈ pre,x.2=false)∧pre.length≤20000))∧Below n0 w W)
  (fun cd pre W=>(cd=.exit 0∧LeftBy b c n0 pre W)∧Below n0 w W)
  (OwnFrom.and (OwnFrom.and (Own.from (holdsRow_own n0 n0 47 89 3 (fun (pre:List (Tk × Bool))=>pre.length) (fun (pre:List (Tk × Bool))=>tokCells (pre.map (·.1))) (fun _ _=>True)) _) (OwnFrom.and (Own.from (boxed_own (n0+1) 75 (fun _=>.nilIface)) _) (ownFrom_pure _ _))) (ownFrom_below (by rw[Hn0.out];exact Nat.le_refl _) (by have:=Hsz.out;omega)))
  (fun cd=>OwnFrom.and (Own.from (fun pre A B row hs hg hr=>by
   obtain⟨hcd,p,x,hp,hl,hx⟩:=hs
   refine⟨hcd,p,x,hp,hl,?_⟩
   rcases hx with ⟨h1,h2⟩ | ⟨h1,h2,h3⟩
   ·exact .inl ⟨h1,boxed_own (n0+1) 75 (fun (_:Unit)=>leV (x.1.line:Int) b) () A B row h2 hg hr⟩
   ·exact .inr ⟨h1,h2,boxed_own (n0+1) 75 (fun (_:Unit)=>leV (x.1.line:Int) c) () A B row h3 hg hr⟩) _) (ownFrom_below (by rw[Hn0.out];exact Nat.le_refl _) (by have:=Hsz.out;omega)))
  ⟨⟨⟨_,bL,World.ownsRow_nil _ _ _ _,trivial⟩,bW,by simp,by simp⟩,hBL⟩
  (fun x a' W=>∃ Bx,n0+1 < Bx∧W.heap[Bx]?=some (.cells (rowA x) 89 (0,0))∧a'={ tmps:=#[.string s,undef,.slice none 0 0,.int .i64 0,.int .i64 0,.pointer (some ⟨n0,0,none⟩),.pointer (some ⟨n0+1,0,none⟩),.pointer (some ⟨Bx,0,none⟩),errA b x,undef,.string s,.int .i64 s.size,.bool (decide ((65536:Int) < (s.size:Int))),.string s,.func (.func 58) #[] #[.pointer (some ⟨n0+1+1,0,none⟩)],tokA x,errA b x,undef,undef,undef,undef,undef,undef,undef,undef,undef,undef,undef,undef,undef,undef,undef,undef,undef,undef,undef,undef,undef,undef,undef,undef,undef],defers:=[] })
  (fun x a' _ X Y row hs hg hr=>by obtain⟨Bx,h1,h2,h3⟩:=hs;exact⟨Bx,h1,(grownBy_keeps_cells hg (fun r e=>(hr r e).2) h2 rfl).trans h2,h3⟩)
  ?assign ?body ?done ?stop
 case hKb=>
  intro W l o o' hl hl2 ho hw E
  exact E.belowB hV (belowK_b (w:=WL) (by have:=Hsz.out;omega) W l o o' hl hl2 ho hw)
 case assign=>
  rintro l pre ⟨t,bad⟩ W K ⟨⟨⟨v,hv,hrow,_⟩,hw,hp⟩,hB⟩ hK
  have hlt:=hw.lt
  have key:∀ o:Obj,KeepsFrom WL.heap.size W (W.alloc o)∧KeepsD a b c W (W.alloc o)∧(((∃ v,Boxed (W.alloc o) n0 47 v∧(W.alloc o).ownsRow n0 89 3 v pre.length (tokCells (pre.map (·.1)))∧True)∧Boxed (W.alloc o) (n0+1) 75 .nilIface∧((∀ x ∈ pre,x.2=false)∧pre.length≤20000))∧Below n0 w (W.alloc o)):=fun o=>
   ⟨(KeepsOthers.alloc _ _).from _,fun E=>E.below ((Below.refl _ _).alloc (Nat.le_refl _) _),⟨⟨v,hv.alloc _,hrow.alloc _,trivial⟩,hw.alloc _,hp⟩,hB.alloc (by omega) _⟩
  have Key:=hid key
  clear key hv hrow hw hp hB
  cases bad with
  | true=>
   simp only[encD,if_true] at hK ⊢
   gi_wp2
   exact hK _ _ (Key.out _).1 (Key.out _).2.1 (Key.out _).2.2 ⟨W.heap.size,hlt,World.alloc_heap_new W _,rfl⟩
  | false=>
   simp only[encD,tokV,Bool.false_eq_true,if_false] at hK ⊢
   gi_wp2
   exact hK _ _ (Key.out _).1 (Key.out _).2.1 (Key.out _).2.2 ⟨W.heap.size,hlt,World.alloc_heap_new W _,rfl⟩
 case body=>
  rintro l pre ⟨t,bad⟩ a' W hl hr ⟨⟨⟨v,hv,hrow,_⟩,hw,hall,hlen⟩,hB⟩ ⟨Bx,hBx,bX,rfl⟩ hlt
  have hwc:=hw.cell
  have hwf:=hw.frozen
  have hvc:=hv.cell
  have hvf:=hv.frozen
  clear hr hl hlt
  cases bad with
  | true=>
   simp only[errA,tokA,if_true]
   clear hvc hvf
   gi_wp2
   exact⟨(KeepsOthers.setCell _ _ _).from _,⟨⟨rfl,pre,(t,true),rfl,hlen,.inl ⟨rfl,hw.set _⟩⟩,hB.setCell (p:=⟨n0+1,0,none⟩) (by show n0≤n0+1;omega) _⟩⟩
  | false=>
   simp only[errA,tokA,Bool.false_eq_true,if_false]
   have E1:=HE.out.belowB hV hB
   have hm:=E1.many
   have x0:=(cell_row bX 0).1
   have x1:=(cell_row bX 1).1
   have x2:=(cell_row bX 2).1
   simp only[rowA,Bool.false_eq_true,if_false] at x0 x1 x2 bX
   obtain⟨i0,hi,hz0,hz1,hz2⟩:=info_parts infoTok
   by_cases hfull:pre.length=20000
   ·rcases hrow.2 with ⟨rfl,h0⟩ | ⟨g,cap,cur,rfl,hgn,hgb,_⟩
    ·omega
    ·have hf:((pre.length:Int) == 20000)=true:=by simp;omega
     have Hf:=hid hfull
     clear hfull hi hz0 hz1 hz2
     gi_wp2
     exact⟨(KeepsOthers.setCell _ _ _).from _,⟨⟨rfl,pre,(t,false),rfl,hlen,.inr ⟨rfl,Hf.out,hw.set _⟩⟩,hB.setCell (p:=⟨n0+1,0,none⟩) (by show n0≤n0+1;omega) _⟩⟩
   ·have hf:((pre.length:Int) == 20000)=false:=by simp;omega
    have HL1:Hid (pre.length+1≤maxLen):=hid (by unfold maxLen;omega)
    have HL2:Hid ((pre.length+1) * 32≤140737488355328):=hid (by omega)
    have HL3:Hid (n0≤(W.alloc (.cells #[.int .i64 (t.kind:Int),.string ⟨t.s.toArray⟩,.int .i64 (t.line:Int)] 89)).heap.size):=hid (by have:=hw.lt;simp;omega)
    have HL4:Hid (n0≤W.heap.size):=hid (by have:=hw.lt;omega)
    have hall':∀ x ∈ pre++[(t,false)],x.2=false:=by
     intro x hx
     rcases List.mem_append.1 hx with hx | hx
     ·exact hall x hx
     ·obtain rfl:=List.mem_singleton.1 hx;rfl
    have hlen':(pre++[(t,false)]).length≤20000:=by rw[List.length_append];simp only[List.length_cons,List.length_nil];omega
    clear hfull hall hlen
    rcases hrow.2 with ⟨rfl,h0⟩ | ⟨g,cap,cur,rfl,hgn,hgb,_⟩
    ·have H0:=hid h0
     clear h0
     gi_wp2_with (gi_at_builtin;refine wpListIn_append_own _ rfl _ _ 47 rfl n0 89 i0 _ 3 32 Tryz.underlying47 hi hz0 hz1 hz2 rfl (by decide) _ pre.length _ rfl (hrow.alloc _) ⟨W.heap.size,0,none⟩ 1 1 (tokRow t) rfl rfl (tok_new W t) (tok_one t) HL1.out HL2.out HL3.out ?_;intro v' w1 hown' hgrow _;obtain⟨g',cap',rfl⟩:=ownsRow_succ hown';obtain⟨hv1,hv2,hr2,hk2,hb2⟩:=hv.appended (by decide) hrow HL4.out (Nat.le_refl _) hown' hgrow;have hw1:=((hw.alloc _).kept hgrow (hw.not_row (by decide) hrow)).other (B':=n0) (by omega) (.slice (some ⟨g',0,none⟩) (pre.length+1) cap');have hc1:=hv1.cell;have hf1:=hv1.frozen)
     exact⟨hk2.from _,fun E=>E.belowB hV hb2,⟨⟨_,hv2,by simpa[tokCells,tokRow] using hr2,trivial⟩,hw1,hall',hlen'⟩,hB.trans hb2⟩
    ·clear hgn hgb
     gi_wp2_with (gi_at_builtin;refine wpListIn_append_own _ rfl _ _ 47 rfl n0 89 i0 _ 3 32 Tryz.underlying47 hi hz0 hz1 hz2 rfl (by decide) _ pre.length _ rfl (hrow.alloc _) ⟨W.heap.size,0,none⟩ 1 1 (tokRow t) rfl rfl (tok_new W t) (tok_one t) HL1.out HL2.out HL3.out ?_;intro v' w1 hown' hgrow _;obtain⟨g',cap',rfl⟩:=ownsRow_succ hown';obtain⟨hv1,hv2,hr2,hk2,hb2⟩:=hv.appended (by decide) hrow HL4.out (Nat.le_refl _) hown' hgrow;have hw1:=((hw.alloc _).kept hgrow (hw.not_row (by decide) hrow)).other (B':=n0) (by omega) (.slice (some ⟨g',0,none⟩) (pre.length+1) cap');have hc1:=hv1.cell;have hf1:=hv1.frozen)
     exact⟨hk2.from _,fun E=>E.belowB hV hb2,⟨⟨_,hv2,by simpa[tokCells,tokRow] using hr2,trivial⟩,hw1,hall',hlen'⟩,hB.trans hb2⟩
 case done=>
  rintro D ys W hD rfl ⟨⟨⟨v,hv,hrow,_⟩,hw,hall,hlen⟩,hB⟩ hK
  have hr:=lexR_good (l:=s.data.toList) (by rw[data_len];exact h) (by rw[data_len];exact hall) (by rw[data_len];exact hlen)
  rw[data_len] at hr
  have Hr:=hid hr
  have hwc:=(hw.alloc (.cells #[.int .i64 0,.nilIface] 91)).cell
  have hvc:=(hv.alloc (.cells #[.int .i64 0,.nilIface] 91)).cell
  have hK':(W.alloc (.cells #[.int .i64 0,.nilIface] 91)).heap[D]?=some (.deferred (some [])):=(Below.heap_alloc _ _ _ (Array.getElem?_eq_some_iff.1 hK).1).trans hK
  clear hr hall hlen
  gi_wp2_with fail
  refine⟨trivial,(callsIn_wide.2 (as_nil _ _)).mono ?_⟩
  rintro e w4 ⟨rfl,rfl⟩
  gi_wp2
  rw[Exit.noGoto_ret]
  refine⟨by simp,.inl ⟨_,_,rfl,run_takeDeferred hK',?_⟩⟩
  refine⟨_,results_tmp3 rfl _ _ _,?_⟩
  unfold LexPost
  rw[Hr.out,Hn0.out]
  refine⟨v,rfl,ownsRow_putObj (by simpa using hrow.alloc _) _ hK' rfl,?_⟩
  exact (hB.alloc (by have:=hw.lt;omega) _).trans (belowK_b (w:=w) (by rw[Hn0.out];exact Nat.le_refl _) _ D _ _ (by have:=Hsz.out;rw[Hn0.out];omega) hK' rfl rfl)
 case stop=>
  rintro D cd pre W hD hp ⟨⟨rfl,p,x,rfl,hl,hx⟩,hB⟩ hK
  have E1:=HE.out.belowB hV hB
  obtain⟨o,ho⟩:∃ o:Obj,.cells #[.int .i64 0,.nilIface] 91=o:=⟨_,rfl⟩
  have hK':(W.alloc o).heap[D]?=some (.deferred (some [])):=(Below.heap_alloc _ _ _ (Array.getElem?_eq_some_iff.1 hK).1).trans hK
  have hnew:(W.alloc o).heap[W.heap.size]?=some o:=World.alloc_heap_new W o
  have hBo:=(Below.refl W.heap.size W).alloc (Nat.le_refl _) o
  have hn0W:n0+1 < W.heap.size:=by rcases hx with ⟨_,h⟩ | ⟨_,_,h⟩ <;> exact h.lt
  subst ho
  have Eo:=E1.below hBo
  rcases hx with ⟨hx,hw⟩ | ⟨hx,hfull,hw⟩
  ·have hr:=lexR_bad (l:=s.data.toList) (by rw[data_len];exact h) (by rw[data_len];exact hp) hl hx
   have Hr:=hid hr
   have hwc:=(hw.alloc (.cells #[.int .i64 0,.nilIface] 91)).cell
   have hA:=as_hit (x.1.line:Int) b W.heap.size _ hnew (by omega) Eo.typ
   have HA:=hid hA
   clear hr hA hp hx hl hnew
   gi_wp2_with fail
   refine⟨trivial,(callsIn_wide.2 HA.out).mono ?_⟩
   rintro e w4 ⟨rfl,hc4,b4⟩
   gi_wp2_with fail
   refine wpIn_wide.2 ?_
   have hl:=hid hn0W
   have E4:=Eo.belowB (B:=W.heap.size) (by omega) b4
   have E5:=E4.below ((Below.refl _ _).drew)
   have hBd:Below n0 w w4.drew:=((hB.trans (hBo.mono (by omega))).trans (b4.mono (by omega))).drew
   have Rb:RowAt b w4.drew:=Hb.out.belowB (by have h1:=Hb.out.lt;rwa [Hn0.out] at h1) hBd
   have Rc:RowAt c w4.drew:=Hc.out.belowB (by have h1:=Hc.out.lt;rwa [Hn0.out] at h1) hBd
   have hc4':w4.drew.cell? ⟨W.heap.size,0,none⟩=some (.int .i64 (x.1.line:Int)):=hc4
   have hw4:w4.drew.cell? ⟨n0+1,0,none⟩=some (leV (x.1.line:Int) b):=(b4.cell (p:=⟨n0+1,0,none⟩) hn0W).trans hwc
   have hks:W.heap.size < w4.drew.heap.size:=Nat.lt_of_lt_of_le (by simp) b4.size
   have hD4:w4.drew.heap[D]?=some (.deferred (some [])):=(b4.block D (Array.getElem?_eq_some_iff.1 hK).1).trans hK'
   have HD4:=hid hD4
   clear hwc hc4 hn0W hK hK' hD4
   go_region_held3 (fun w'=>w'.cell? ⟨W.heap.size,0,none⟩=some (.int .i64 (x.1.line:Int))∧w'.cell? ⟨n0+1,0,none⟩=some (leV (x.1.line:Int) b)) (first | exact⟨hc4',hw4⟩ | exact⟨hc5,hw5⟩) ((go_at_call 34;refine (errnoOf_tok (x.1.line:Int) a b c w4.drew E5 Rb Rc).mono ?_;rintro e w5 ⟨rfl,b5⟩;have hc5:=(b5.cell (p:=⟨W.heap.size,0,none⟩) hks).trans hc4';have hw5:=(b5.cell (p:=⟨n0+1,0,none⟩) (Nat.lt_trans hl.out hks)).trans hw4))
   go_wp2
   gi_wp2
   rw[Exit.noGoto_ret]
   have hK5:w5.heap[D]?=some (.deferred (some [])):=(b5.block D (Array.getElem?_eq_some_iff.1 HD4.out).1).trans HD4.out
   have hn0s:n0≤w4.drew.heap.size:=by have h1:=hl.out;omega
   refine⟨by simp,.inl ⟨_,_,rfl,run_takeDeferred hK5,?_⟩⟩
   refine⟨_,results_tmp3 rfl _ _ _,?_⟩
   unfold LexPost
   rw[Hr.out,Hn0.out]
   exact⟨_,rfl,World.ownsRow_nil _ _ _ _,(hBd.trans (b5.mono hn0s)).trans (belowK_b (w:=w) (by rw[Hn0.out];exact Nat.le_refl _) _ D _ _ (by have:=Hsz.out;rw[Hn0.out];omega) hK5 rfl rfl)⟩
  ·have hr:=lexR_many (l:=s.data.toList) (by rw[data_len];exact h) (by rw[data_len];exact hp) hfull hx
   have Hr:=hid hr
   have hwc:=(hw.alloc (.cells #[.int .i64 0,.nilIface] 91)).cell
   have hA:=as_hit (x.1.line:Int) c W.heap.size _ hnew (by omega) Eo.typ
   have HA:=hid hA
   clear hr hA hp hx hl hfull hnew
   gi_wp2_with fail
   refine⟨trivial,(callsIn_wide.2 HA.out).mono ?_⟩
   rintro e w4 ⟨rfl,hc4,b4⟩
   gi_wp2_with fail
   refine wpIn_wide.2 ?_
   have hl:=hid hn0W
   have E4:=Eo.belowB (B:=W.heap.size) (by omega) b4
   have E5:=E4.below ((Below.refl _ _).drew)
   have hBd:Below n0 w w4.drew:=((hB.trans (hBo.mono (by omega))).trans (b4.mono (by omega))).drew
   have hc4':w4.drew.cell? ⟨W.heap.size,0,none⟩=some (.int .i64 (x.1.line:Int)):=hc4
   have hw4:w4.drew.cell? ⟨n0+1,0,none⟩=some (leV (x.1.line:Int) c):=(b4.cell (p:=⟨n0+1,0,none⟩) hn0W).trans hwc
   have hks:W.heap.size < w4.drew.heap.size:=Nat.lt_of_lt_of_le (by simp) b4.size
   have hD4:w4.drew.heap[D]?=some (.deferred (some [])):=(b4.block D (Array.getElem?_eq_some_iff.1 hK).1).trans hK'
   have HD4:=hid hD4
   clear hwc hc4 hn0W hK hK' hD4
   go_region_held3 (fun w'=>w'.cell? ⟨W.heap.size,0,none⟩=some (.int .i64 (x.1.line:Int))∧w'.cell? ⟨n0+1,0,none⟩=some (leV (x.1.line:Int) c)) (first | exact⟨hc4',hw4⟩ | exact⟨hc5,hw5⟩) ((go_at_call 34;refine (errnoOf_many (x.1.line:Int) a b c w4.drew E5).mono ?_;rintro e w5 ⟨rfl,b5⟩;have hc5:=(b5.cell (p:=⟨W.heap.size,0,none⟩) hks).trans hc4';have hw5:=(b5.cell (p:=⟨n0+1,0,none⟩) (Nat.lt_trans hl.out hks)).trans hw4))
   go_wp2
   gi_wp2
   rw[Exit.noGoto_ret]
   have hK5:w5.heap[D]?=some (.deferred (some [])):=(b5.block D (Array.getElem?_eq_some_iff.1 HD4.out).1).trans HD4.out
   have hn0s:n0≤w4.drew.heap.size:=by have h1:=hl.out;omega
   refine⟨by simp,.inl ⟨_,_,rfl,run_takeDeferred hK5,?_⟩⟩
   refine⟨_,results_tmp3 rfl _ _ _,?_⟩
   unfold LexPost
   rw[Hr.out,Hn0.out]
   exact⟨_,rfl,World.ownsRow_nil _ _ _ _,(hBd.trans (b5.mono hn0s)).trans (belowK_b (w:=w) (by rw[Hn0.out];exact Nat.le_refl _) _ D _ _ (by have:=Hsz.out;rw[Hn0.out];omega) hK5 rfl rfl)⟩
theorem lex_c (s:ByteArray) (a b c:Addr) (w:World) (hs:s.size≤1073741823) (E:DEnv a b c w) (hb:RowAt b w) (hc:RowAt c w) :
  Calls Tryz.prog 16 #[.string s] w (LexPost w (lexR s.data.toList)):=by
 by_cases h:65536 < s.size
 ·exact lex_long s w h hs
 ·exact callsIn_wide.1 (lex_short s a b c w h E hb hc)
end Go.Proofs.YtdgbajnhhhjbcaaGreatDoor
namespace Go.Proofs.YtdgbajnhhhjbcaaGreatDoor
open Lib(hid)
open Go.RowKit Go.Shelf
def tokI (t:Tk):TokI:=⟨t.kind,⟨t.s.toArray⟩,t.line⟩
theorem tokCells_at:∀ (ts:List Tk) (i:Nat) (t:Tk),ts[i]?=some t→(tokCells ts)[i * 3]?=some (.int .i64 (t.kind:Int))∧(tokCells ts)[i * 3+1]?=some (.string ⟨t.s.toArray⟩)∧(tokCells ts)[i * 3+2]?=some (.int .i64 (t.line:Int))
 | [],i,t,h=>by simp at h
 | u::ts,0,t,h=>by
  simp only[List.getElem?_cons_zero,Option.some.injEq] at h
  subst h
  simp[tokCells,tokRow]
 | u::ts,i+1,t,h=>by
  have ih:=tokCells_at ts i t (by simpa using h)
  have e:tokCells (u::ts)=tokRow u++tokCells ts:=by simp[tokCells]
  have hl:(tokRow u).length=3:=rfl
  rw[e]
  refine⟨?_,?_,?_⟩
  ·rw[List.getElem?_append_right (by omega),hl,show (i+1) * 3 - 3=i * 3 by omega];exact ih.1
  ·rw[List.getElem?_append_right (by omega),hl,show (i+1) * 3+1 - 3=i * 3+1 by omega];exact ih.2.1
  ·rw[List.getElem?_append_right (by omega),hl,show (i+1) * 3+2 - 3=i * 3+2 by omega];exact ih.2.2
theorem SliceOf.of_own {w:World} {base:Nat} {v:Value} {ts:List Tk} (h:w.ownsRow base 89 3 v ts.length (tokCells ts)):SliceOf w w.heap.size v (ts.map tokI):=by
 rcases h.2 with ⟨rfl,h0⟩ | ⟨g,cap,cur,hv,hb,hg,hn,hc,hcur,ht⟩
 ·exact .inl ⟨rfl,by rw[List.eq_nil_of_length_eq_zero h0];rfl⟩
 ·refine .inr ⟨⟨g,0,none⟩,cap,by rw[hv,List.length_map],by rw[List.length_map];exact hn,hc,(Array.getElem?_eq_some_iff.1 hg).1,fun i t hi=>?_⟩
  rw[List.getElem?_map,Option.map_eq_some_iff] at hi
  obtain⟨u,hu,rfl⟩:=hi
  have hcs:=h.cells (g:=g) (by rw[hv];rfl)
  obtain⟨c0,c1,c2⟩:=tokCells_at ts i u hu
  exact⟨hcs _ _ c0,hcs _ _ c1,hcs _ _ c2⟩
end Go.Proofs.YtdgbajnhhhjbcaaGreatDoor
namespace Go.Proofs.YtdgbajnhhhjbcaaGreatDoor
open Lib(hid)
def NmOk (l:List TokI):Prop:=∀ t ∈ l,isNm t=true→nameB t.s.data.toList=true
theorem NmOk.tail {t:TokI} {r:List TokI} (h:NmOk (t::r)):NmOk r:=fun u hu=>h u (List.mem_cons_of_mem _ hu)
theorem NmOk.drop {l:List TokI} (n:Nat) (h:NmOk l):NmOk (l.drop n):=fun u hu=>h u (List.mem_of_mem_drop hu)
end Go.Proofs.YtdgbajnhhhjbcaaGreatDoor
namespace Go.Proofs.YtdgbajnhhhjbcaaGreatDoor
open Lib(hid)
open Go.RowKit
def NuOk (l:List TokI):Prop:=∀ t ∈ l,t.kind=2→∃ n:Nat,n≤9223372036854775807∧t.s.data.toList=Lib.decDigits n
theorem NuOk.tail {t:TokI} {l:List TokI} (h:NuOk (t::l)):NuOk l:=fun u hu=>h u (by simp[hu])
mutual
def lenT:Tm→Nat
 | .mk o s n l=>if o=1 then s.data.toList.length else if o=2 then (Lib.itoa n).length else if o=3 then (quoteL s.data.toList).length else if o=4 then 1 else 5+lenTs l
def lenTs:List Tm→Nat
 | []=>0
 | t::l=>lenT t+lenTs l
end
end Go.Proofs.YtdgbajnhhhjbcaaGreatDoor
namespace Go.Proofs.YtdgbajnhhhjbcaaGreatDoor
open Lib(hid)
open Go.RowKit
structure LEnv (a b c:Addr) (w:World):Prop where
 env:DEnv a b c w
 rb:RowAt b w
 rc:RowAt c w
theorem LEnv.below {a b c:Addr} {w w':World} (h:LEnv a b c w) (hb:Below w.heap.size w w'):LEnv a b c w':=⟨h.env.below hb,h.rb.below hb,h.rc.below hb⟩
theorem lexE_c (s:ByteArray) (a b c:Addr) (w:World) (hs:s.size≤1073741823) (E:LEnv a b c w) :
  Calls Tryz.prog 16 #[.string s] w (LexPost w (lexR s.data.toList)):=lex_c s a b c w hs E.env E.rb E.rc
instance:DecidableEq Tk:=fun x y=>decidable_of_iff (x.kind=y.kind∧x.s=y.s∧x.line=y.line) ⟨fun ⟨h1,h2,h3⟩=>by cases x;cases y;simp_all,fun h=>by subst h;exact⟨rfl,rfl,rfl⟩⟩
end Go.Proofs.YtdgbajnhhhjbcaaGreatDoor
namespace Go.Proofs.YtdgbajnhhhjbcaaGreatDoor
open Lib(hid)
open Go.RowKit
theorem lexU_fst (l:List UInt8):(lexU l).1=(lexL l).1.map fun t=>(t.kind,t.s):=by rw[← pairs_lexL];rfl
theorem tok_short {l s:List UInt8} {k z:Nat} (h:tokL l=some (k,s,z)):s.length≤l.length:=by
 have h1:=congrArg List.length (tok_text h)
 have h2:s.length≤(textL k s).length:=by
  unfold textL
  split
  ·rw[quoteL_length]
   have h3:∀ t:List UInt8,t.length≤(t.flatMap sign).length:=by
    intro t
    induction t with
    | nil=>simp
    | cons c t ih=>
     have hc:=sign_ne c
     have h1:1≤(sign c).length:=by
      cases h:sign c with
      | nil=>exact absurd h hc
      | cons=>simp
     simp only[List.flatMap_cons,List.length_append,List.length_cons]
     omega
   have:=h3 s
   omega
  ·exact Nat.le_refl _
 rw[List.length_take] at h1
 omega
theorem lexF_short:∀ (f n:Nat) (l:List UInt8),∀ t ∈ (lexF f n l).1,t.s.length≤l.length
 | 0,n,l=>by simp[lexF]
 | f+1,n,l=>by
  by_cases h:l.drop (gap false l)=[]
  ·rw[lexF_nil f n l h];simp
  cases ht:tokL (l.drop (gap false l)) with
  | none=>rw[lexF_bad f n l h ht];simp
  | some a=>
   obtain⟨k,s,z⟩:=a
   rw[lexF_tok f n l h ht]
   intro t hm
   rcases List.mem_cons.1 hm with rfl | hm
   ·have:=tok_short ht
    simp only[List.length_drop] at this ⊢
    omega
   ·have:=lexF_short f _ _ t hm
    have hr:=rest_len h ht
    omega
theorem lexL_short (l:List UInt8):∀ t ∈ (lexL l).1.map tokI,t.s.size≤l.length:=by
 intro t ht
 obtain⟨u,hu,rfl⟩:=List.mem_map.1 ht
 have:=lexF_short _ _ _ u hu
 show u.s.toArray.size≤_
 rw[List.size_toArray]
 exact this
end Go.Proofs.YtdgbajnhhhjbcaaGreatDoor
namespace Go.Proofs.YtdgbajnhhhjbcaaGreatDoor
open Lib(hid)
open Go.RowKit
inductive N64:Tm→Prop where
 | mk (op:Int) (s:ByteArray) (n:Int) (l:List Tm):I64 n→(∀ (i:Nat) (t:Tm),l[i]?=some t→N64 t)→N64 (.mk op s n l)
theorem N64.n {t:Tm} (h:N64 t):I64 t.n:=by cases h with | mk _ _ _ _ h _=>exact h
theorem N64.l {t:Tm} (h:N64 t):∀ u ∈ t.l,N64 u:=by
 cases h with
 | mk _ _ _ l _ h2=>
  intro u hu
  obtain⟨i,hi⟩:=List.mem_iff_getElem?.1 hu
  exact h2 i u hi
end Go.Proofs.YtdgbajnhhhjbcaaGreatDoor
namespace Go.Proofs.YtdgbajnhhhjbcaaGreatDoor
open Lib(hid)
open Go.RowKit
theorem good_name {t:Nat × List UInt8} (h:Good t) (hk:t.1=1):t.2=[95]∨nameB t.2=true:=by
 obtain⟨l,z,_,ht⟩:=h
 unfold tokL at ht
 rw[Option.map_eq_some_iff] at ht
 obtain⟨a,ha,h⟩:=ht
 simp only[Prod.mk.injEq] at h
 obtain⟨h1,rfl,_⟩:=h
 rw[h1,hk] at ha
 unfold meanL at ha
 rw[if_neg (show ¬ (1:Nat)=3 by decide),if_pos (show (1:Nat)=1 from rfl),Option.ite_none_right_eq_some] at ha
 have h2:=ha.1
 rw[Option.some.inj ha.2,Bool.or_eq_true] at h2
 rcases h2 with h2 | h2
 ·exact .inl (by simpa using h2)
 ·exact .inr h2
theorem good_num {t:Nat × List UInt8} (h:Good t) (hk:t.1=2):∃ n:Nat,n≤9223372036854775807∧t.2=Lib.decDigits n:=by
 obtain⟨l,z,hl,ht⟩:=h
 have hp:=tok_pos hl ht
 unfold tokL at ht
 rw[Option.map_eq_some_iff] at ht
 obtain⟨a,ha,h⟩:=ht
 simp only[Prod.mk.injEq] at h
 obtain⟨h1,rfl,h3⟩:=h
 have hs:=h1.trans hk
 rw[hs] at ha
 unfold meanL at ha
 rw[if_neg (show ¬ (2:Nat)=3 by decide),if_neg (show ¬ (2:Nat)=1 by decide),if_pos (show (2:Nat)=2 from rfl),Option.ite_none_right_eq_some] at ha
 have h2:=ha.1
 rw[Option.some.inj ha.2] at h2
 have he:=Option.some.inj ha.2
 cases hn:numL t.2 with
 | none=>rw[hn] at h2;cases h2
 | some n=>
  obtain⟨b1,b2,b3⟩:=numL_back hn
  unfold Lib.itoa at b1
  by_cases hneg:n < 0
  ·exfalso
   rw[if_pos hneg] at b1
   cases l with
   | nil=>exact hl rfl
   | cons c t=>
    rw[h3] at he
    obtain⟨y,rfl⟩:∃ y,z=y+1:=⟨z - 1,by omega⟩
    rw[List.take_succ_cons] at he
    rw[← he] at b1
    have hc:c=45:=(List.cons.inj b1).1.symm
    subst hc
    rw[shapeL_cons,if_neg (by decide),if_neg (by decide),if_neg (by decide),if_neg (by intro e;exact absurd e.1 (by decide))] at hs
    exact absurd hs (show ¬ (4:Nat)=2 by decide)
  ·rw[if_neg hneg] at b1
   exact⟨n.toNat,by omega,b1.symm⟩
theorem lexL_good (l:List UInt8):∀ t ∈ (lexL l).1,Good (t.kind,t.s):=by
 intro t ht
 have:=lexU_good l (t.kind,t.s)
 rw[lexU_fst] at this
 exact this (List.mem_map.2 ⟨t,ht,rfl⟩)
theorem lexL_line (l:List UInt8):∀ t ∈ (lexL l).1,t.line≤1+l.length:=by
 have h:=(lexF_rise (l.length+1) 1 l).1
 have hc:lines l≤l.length:=by unfold lines;exact List.count_le_length
 have each:∀ (ts:List Tk) (n m:Nat),Rise n m ts→∀ t ∈ ts,t.line≤m:=by
  intro ts
  induction ts with
  | nil=>intro _ _ _ t ht;cases ht
  | cons u ts ih=>
   intro n m h t ht
   rcases List.mem_cons.1 ht with rfl | ht
   ·exact h.2.1
   ·exact ih _ _ h.2.2 t ht
 intro t ht
 have:=each _ _ _ h t ht
 omega
theorem lexR_mem {l:List UInt8} {ts:List Tk} {a b:Nat} (h:lexR l=(ts,a,b)):(ts=(lexL l).1∧l.length≤65536∧ts.length≤20000)∨ts=[]:=by
 unfold lexR at h
 split at h
 ·cases h;exact .inr rfl
 next h1=>
  split at h
  ·cases h;exact .inr rfl
  next h2=>
   split at h
   ·cases h;exact .inr rfl
   ·cases h;exact .inl ⟨rfl,by omega,by omega⟩
theorem lexR_tok {l:List UInt8} {ts:List Tk} {a b:Nat} (h:lexR l=(ts,a,b)):ts.length≤20000∧(∀ t ∈ ts.map tokI,GoodT t)∧NmOk (ts.map tokI)∧NuOk (ts.map tokI):=by
 rcases lexR_mem h with ⟨rfl,hl,hn⟩ | rfl
 ·have hk:∀ t ∈ (lexL l).1,1≤t.kind∧t.kind≤5:=lexF_kinds _ _ _
  have num:∀ t ∈ (lexL l).1,(tokI t).kind=2→∃ n:Nat,n≤9223372036854775807∧(tokI t).s.data.toList=Lib.decDigits n:=fun t ht h2=>good_num (lexL_good l t ht) (by have h2:(t.kind:Int)=2:=h2;show t.kind=2;omega)
  have nam:∀ t ∈ (lexL l).1,(tokI t).kind=1→(tokI t).s.data.toList=[95]∨nameB (tokI t).s.data.toList=true:=fun t ht h2=>good_name (lexL_good l t ht) (by have h2:(t.kind:Int)=1:=h2;show t.kind=1;omega)
  refine⟨hn,?_,?_,?_⟩
  ·intro t ht
   have hsz:=lexL_short l t ht
   obtain⟨u,hu,rfl⟩:=List.mem_map.1 ht
   have h1:=hk u hu
   have h2:=lexL_line l u hu
   refine⟨?_,by omega,?_,nam u hu,num u hu⟩
   ·show I64 (u.kind:Int)
    unfold I64;omega
   ·show I64 (u.line:Int)
    unfold I64;omega
  ·intro t ht h1
   obtain⟨u,hu,rfl⟩:=List.mem_map.1 ht
   unfold isNm at h1
   rw[Bool.and_eq_true] at h1
   rcases nam u hu (by simpa using h1.1) with e | e
   ·rw[e] at h1;simp at h1
   ·exact e
  ·intro t ht h2
   obtain⟨u,hu,rfl⟩:=List.mem_map.1 ht
   exact num u hu h2
 ·exact⟨by simp,(fun t ht=>by cases ht),(fun t ht=>by cases ht),(fun t ht=>by cases ht)⟩
end Go.Proofs.YtdgbajnhhhjbcaaGreatDoor
namespace Go.Proofs.YtdgbajnhhhjbcaaGreatDoor
open Lib(hid)
open Go.RowKit
def shV (b:Bool) (x:List UInt8):Value:=if b=true then .tuple #[.string ⟨x.toArray⟩,.int .i64 0] else .tuple #[.string ⟨#[]⟩,.int .i64 30]
set_option maxRecDepth 100000 in
set_option maxHeartbeats 4000000 in
theorem pshow_c (t:Pg) (a:Addr) (w:World) (cs:List Value) (hc:PgC w w.heap.size t cs) (E:TEnv a w) (hl:rightP t=true→(showP t).length≤1073741824) :
  Calls Tryz.prog 9 #[.agg cs.toArray] w fun e w'=>e=.returned (shV (rightP t) (showP t))∧Below w.heap.size w w':=by
 have HC0:=fun (W:World) (hb:Below w.heap.size w W)=>right_c t a W cs ((hc.below hb).more hb.size) (E.below hb).err
 have HW0:=fun (h:rightP t=true) (W:World) (hb:Below w.heap.size w W) (W':World) (hb':Bd W.heap.size W.heap.size [] W') (hk:Below W.heap.size W W')=>writeProg_c t W.heap.size W.heap.size [] W' cs a h hb' (((hc.below hb).more hb.size).below hk) ((E.below hb).below hk) (E.below hb).size hk.size (by simpa using hl h)
 have HB:=hid (fun (W:World)=>Lib.IsBuilderF.of (Lib.fresh_isBuilder 59 5 W))
 obtain⟨o0,k0,o1,k1,rfl,_,_⟩:=hc.look
 have HC:=hid HC0
 have HW:=hid HW0
 clear hc HC0 HW0 E hl
 have HB0:Hid (∀ (x:Obj),Below w.heap.size w (w.alloc x)):=hid fun x=>(Below.refl _ _).alloc (Nat.le_refl _) _
 go_enter Tryz.func9,Tryz.ntmps9
 go_wp2_with fail
 refine (HC.out _ (HB0.out _)).mono ?_
 rintro e w1 ⟨rfl,b1⟩
 have B1:=hid ((HB0.out (.cells #[.slice o0 t.decls.length k0,.slice o1 t.rules.length k1] 25)).trans (b1.mono (by simp)))
 obtain⟨hc1,hf1⟩:=kept b1
 have hz1:w.heap.size < w1.heap.size:=by have:=b1.size;simp at this;omega
 clear b1
 cases hr:rightP t with
 | false=>
  have Hr:=hid hr
  clear hr
  go_wp2
  go_ret2
  exact⟨by rw[Hr.out];rfl,B1.out⟩
 | true=>
  have Hr:=hid hr
  clear hr
  go_wp2_with fail
  refine (HW.out Hr.out w1 B1.out _ (HB.out w1) ((Below.refl _ _).alloc (Nat.le_refl _) _)).mono ?_
  rintro e w2 ⟨rfl,b2,k2⟩
  have hz2:w1.heap.size < w2.heap.size:=by have:=k2.below.size;simp at this;omega
  have K2:=hid ((((Below.refl w1.heap.size w1).alloc (Nat.le_refl _) (.cells #[.pointer none,.slice none 0 0] 59))).trans k2.below)
  have Hb2:=hid b2
  clear b2 k2 hc1 hf1
  go_wp2_with fail
  refine (bstr_c _ _ _ w2 Hb2.out (Nat.le_of_lt hz2)).mono ?_
  rintro e w5 ⟨rfl,b5,k5⟩
  have K5:=hid (B1.out.trans ((K2.out.mono (Nat.le_of_lt hz1)).trans (k5.below.mono (Nat.le_of_lt hz1))))
  clear b5 k5
  go_wp2
  go_ret2
  exact⟨by rw[Hr.out];rfl,K5.out⟩
end Go.Proofs.YtdgbajnhhhjbcaaGreatDoor
