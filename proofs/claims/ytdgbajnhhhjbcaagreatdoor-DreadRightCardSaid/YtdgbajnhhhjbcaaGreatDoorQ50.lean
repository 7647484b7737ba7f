/- Lk@01, Lg@01 -/
import Derived.Test.YtdgbajnhhhjbcaaGreatDoorQ25
set_option linter.unusedSimpArgs false
set_option linter.unusedVariables false
namespace Go.Proofs.YtdgbajnhhhjbcaaGreatDoor
open Go.RowKit
theorem keyU_blank (c:UInt8) (l:List UInt8) (hc:blankB c=true):keyU (c::l)=keyU l:=by unfold keyU;rw[lexU_blank c l hc]
theorem keyU_one {s:List UInt8} {k:Nat} {u:List UInt8} (r:List UInt8) (hs:s≠[]) (h:tokL (s++r)=some (k,u,s.length)):keyU (s++r)=(((k:Int),u)::(keyU r).1,(keyU r).2):=by
 cases s with
 | nil=>exact absurd rfl hs
 | cons c t=>
  have hh:=tok_head (c:=c) (t:=t++r) h
  have hg:gap false (c::t++r)=0:=by simp[gap,hh.2,hh.1]
  have e0:(c::t++r).drop (gap false (c::t++r))=c::t++r:=by rw[hg];rfl
  unfold keyU
  rw[lexU_tok _ (by rw[e0];simp) (by rw[e0];exact h),e0,List.drop_left]
  rfl
def npB:List UInt8→Bool
 | []=>true
 | c::_=>!partB c
theorem runN_all (p:UInt8→Bool) (r:List UInt8) (hr:∀ c l,r=c::l→p c=false):∀ s:List UInt8,s.all p=true→runN p (s++r)=s.length
 | [],_=>by
  cases r with
  | nil=>rfl
  | cons c l=>simp[runN,hr c l rfl]
 | c::s,h=>by
  rw[List.all_cons,Bool.and_eq_true] at h
  rw[List.cons_append,runN,if_pos h.1,runN_all p r hr s h.2,List.length_cons]
  omega
theorem np_run {r:List UInt8} (h:npB r=true):∀ c l,r=c::l→partB c=false:=by
 rintro c l rfl
 simpa[npB] using h
theorem okAt_part {i:Nat} {c:UInt8} (h:okAt i c=true):partB c=true:=by
 unfold okAt at h
 unfold partB
 rw[Bool.or_eq_true] at h ⊢
 rcases h with h | h
 ·exact .inl h
 ·rw[Bool.and_eq_true] at h
  exact .inr h.2
theorem okFrom_part:∀ (l:List UInt8) (i:Nat),okFrom i l=true→l.all partB=true
 | [],_,_=>rfl
 | c::l,i,h=>by
  unfold okFrom at h
  rw[Bool.and_eq_true] at h
  rw[List.all_cons,Bool.and_eq_true]
  exact⟨okAt_part h.1,okFrom_part l (i+1) h.2⟩
theorem letB_dig {c:UInt8} (h:letB (c.toNat:Int)=true):digB (c.toNat:Int)=false:=by
 unfold letB at h
 unfold digB
 simp only[decide_eq_true_eq,decide_eq_false_iff_not] at h ⊢
 omega
theorem tok_word1 {c:UInt8} {t r:List UInt8} (hc:letB (c.toNat:Int)=true) (ha:(c::t).all partB=true) (hm:(decide (c::t=[95]) || nameB (c::t))=true) (hr:npB r=true):tokL (c::t++r)=some (1,c::t,(c::t).length):=by
 have hp:partB c=true:=by unfold partB;rw[hc];rfl
 have hs:shapeL (c::t++r)=(1,(c::t).length):=by
  rw[List.cons_append,shapeL_cons,if_neg (by rw[letB_dig hc];decide),if_pos hp,← List.cons_append,runN_all partB r (np_run hr) _ ha]
 unfold tokL
 rw[hs]
 simp only[List.take_left]
 unfold meanL
 rw[if_neg (by decide),if_pos rfl,if_pos hm]
 rfl
theorem tok_name1 {s r:List UInt8} (h:nameB s=true) (hr:npB r=true):tokL (s++r)=some (1,s,s.length):=by
 have h0:=h
 unfold nameB at h
 rw[Bool.and_eq_true,decide_eq_true_eq] at h
 cases s with
 | nil=>exact absurd rfl h.1.1
 | cons c t=>
  have h2:=h.2
  unfold okFrom at h2
  rw[Bool.and_eq_true] at h2
  have hc:letB (c.toNat:Int)=true:=by
   have:=h2.1
   unfold okAt at this
   simpa using this
  exact tok_word1 hc (okFrom_part _ 0 h.2) (by rw[h0];simp) hr
theorem nameB_none {s:List UInt8} (h:nameB s=true):s≠[]:=by
 rintro rfl
 unfold nameB at h
 simp at h
theorem keyU_name {s:List UInt8} (h:nameB s=true) {r:List UInt8} (hr:npB r=true):keyU (s++r)=((1,s)::(keyU r).1,(keyU r).2):=keyU_one r (nameB_none h) (tok_name1 h hr)
theorem keyU_any {r:List UInt8} (hr:npB r=true):keyU ([95]++r)=((1,[95])::(keyU r).1,(keyU r).2):=keyU_one r (by simp) (tok_word1 (c:=95) (t:=[]) (by decide) (by decide) (by decide) hr)
theorem keyU_dec (u:Nat) (hu:u≤9223372036854775807) {r:List UInt8} (hr:npB r=true):keyU (Lib.decDigits u++r)=((2,Lib.decDigits u)::(keyU r).1,(keyU r).2):=by
 refine keyU_one r (dec_ne u) ?_
 obtain⟨c,t,hct⟩:∃ c t,Lib.decDigits u=c::t:=by
  cases h:Lib.decDigits u with
  | nil=>exact absurd h (dec_ne u)
  | cons c t=>exact⟨c,t,rfl⟩
 have hd:∀ x ∈ Lib.decDigits u,digB (x.toNat:Int)=true:=fun x hx=>by
  have:=dec_digits u x hx
  unfold digB
  simp only[decide_eq_true_eq]
  omega
 have ha:(Lib.decDigits u).all partB=true:=List.all_eq_true.2 fun x hx=>by unfold partB;rw[hd x hx];simp
 have hn:numL (Lib.decDigits u)=some (u:Int):=by
  have:=numL_itoa (u:Int) (by omega) (by omega)
  unfold Lib.itoa at this
  rw[if_neg (by omega)] at this
  simpa using this
 have hs:shapeL (Lib.decDigits u++r)=(2,(Lib.decDigits u).length):=by
  rw[← runN_all partB r (np_run hr) _ ha,hct,List.cons_append,shapeL_cons,if_pos (hd c (by rw[hct];simp))]
 unfold tokL
 rw[hs]
 simp only[List.take_left]
 have hm:meanL 2 (Lib.decDigits u)=some (Lib.decDigits u):=by unfold meanL;simp[hn]
 rw[hm]
 rfl
theorem keyU_quote (s r:List UInt8):keyU (quoteL s++r)=((3,s)::(keyU r).1,(keyU r).2):=keyU_one r (by simp[quoteL]) (tok_quote s r)
theorem tok_sign1 {c:UInt8} {r:List UInt8} (hc:shortB c=true) (hd:digB (c.toNat:Int)=false) (hp:partB c=false) (h34:c≠34) (h46:c≠46∨runN smallB r=0) (hl:longB ((c::r).take 2)=false):tokL ([c]++r)=some (4,[c],1):=by
 have hs:shapeL (c::r)=(4,1):=by
  rw[shapeL_cons,if_neg (by rw[hd];decide),if_neg (by rw[hp];decide),if_neg h34,if_neg (by rintro⟨h1,h2⟩;rcases h46 with h | h;exact h h1;omega)]
  unfold signN
  rw[if_neg (by rw[hl];decide)]
 show tokL (c::r)=_
 unfold tokL
 rw[hs]
 have hm:meanL 4 [c]=some [c]:=by unfold meanL;simp[hc]
 show (meanL 4 [c]).map _=_
 rw[hm]
 rfl
theorem long_no {c:UInt8} (hc:c≠58∧c≠33∧c≠60∧c≠62) (r:List UInt8):longB ((c::r).take 2)=false:=by
 cases r with
 | nil=>simp[longB]
 | cons d r=>simp[longB,hc.1,hc.2.1,hc.2.2.1,hc.2.2.2]
theorem long_np {c d:UInt8} (hd:d≠45∧d≠61) (r:List UInt8):longB ((c::d::r).take 2)=false:=by simp[longB,hd.1,hd.2]
theorem keyU_sign {c:UInt8} (hc:c=40∨c=41∨c=123∨c=125∨c=44∨c=61∨c=43∨c=45∨c=42) (r:List UInt8):keyU ([c]++r)=((4,[c])::(keyU r).1,(keyU r).2):=by
 refine keyU_one r (by simp) (tok_sign1 ?_ ?_ ?_ ?_ ?_ (long_no ?_ r)) <;> rcases hc with rfl | rfl | rfl | rfl | rfl | rfl | rfl | rfl | rfl <;> first | decide | (left;decide)
theorem keyU_sign2 {c:UInt8} (hc:c=58∨c=33∨c=60) {d:UInt8} (hd:d≠45∧d≠61) (r:List UInt8):keyU ([c]++d::r)=((4,[c])::(keyU (d::r)).1,(keyU (d::r)).2):=by
 refine keyU_one (d::r) (by simp) (tok_sign1 ?_ ?_ ?_ ?_ ?_ (long_np hd r)) <;> rcases hc with rfl | rfl | rfl <;> first | decide | (left;decide)
theorem keyU_dot (r:List UInt8):keyU ([46]++10::r)=((4,[46])::(keyU r).1,(keyU r).2):=by
 rw[keyU_one (s:=[46]) (10::r) (by simp) (tok_sign1 (by decide) (by decide) (by decide) (by decide) (.inr (by simp[runN,smallB])) (long_no (by decide) _)),keyU_blank 10 r (by decide)]
 rfl
theorem keyU_long {s:List UInt8} (hs:s=[58,45]∨s=[33,61]∨s=[60,61]) (r:List UInt8):keyU (s++r)=((4,s)::(keyU r).1,(keyU r).2):=by
 refine keyU_one r (by rcases hs with rfl | rfl | rfl <;> simp) ?_
 rcases hs with rfl | rfl | rfl <;> (unfold tokL;rw[List.cons_append,shapeL_cons,if_neg (by decide),if_neg (by decide),if_neg (by decide),if_neg (fun e=>absurd e.1 (by decide))];rfl)
theorem small_nil {r:List UInt8} (h:∀ c l,r=c::l→smallB c=false) (s:List UInt8) (hs:s.all smallB=true):runN smallB (s++r)=s.length:=runN_all smallB r h s hs
theorem keyU_word {w:List UInt8} (hw:w=[100,101,99,108]∨w=[105,110,112,117,116]∨w=[111,117,116,112,117,116]) (r:List UInt8):keyU (46::w++32::r)=((5,46::w)::(keyU r).1,(keyU r).2):=by
 have ht:tokL (46::w++32::r)=some (5,46::w,(46::w).length):=by
  have hr:runN smallB (w++32::r)=w.length:=small_nil (by rintro c l h;cases h;decide) w (by rcases hw with rfl | rfl | rfl <;> decide)
  have hs:shapeL (46::w++32::r)=(5,(46::w).length):=by
   rw[List.cons_append,shapeL_cons,if_neg (by decide),if_neg (by decide),if_neg (by decide),if_pos ⟨rfl,by rw[hr];rcases hw with rfl | rfl | rfl <;> decide⟩,hr,List.length_cons,Nat.add_comm]
  unfold tokL
  rw[hs]
  simp only[List.take_left]
  have hm:meanL 5 (46::w)=some (46::w):=by rcases hw with rfl | rfl | rfl <;> decide
  rw[hm]
  rfl
 rw[keyU_one (s:=46::w) (32::r) (by simp) ht,keyU_blank 32 r (by decide)]
 rfl
def okA (a:Am):Bool:=a.l.all okN
def okLt (l:Lt):Bool:=okA l.a && okN l.x && okN l.y
def okR (r:Ru):Bool:=okA r.head && r.body.all okLt
def NP (r:List UInt8):Prop:=npB r=true
theorem reads_blank {s:List UInt8} {ks:List Key} {R:List UInt8→Prop} (h:Reads s ks R):Reads (32::s) ks R:=fun r hr=>by
 rw[List.cons_append,keyU_blank 32 _ (by decide)]
 exact h r hr
theorem reads_sign {c:UInt8} (hc:c=40∨c=41∨c=123∨c=125∨c=44∨c=61∨c=43∨c=45∨c=42):Reads [c] [(4,[c])] Any:=fun r _=>keyU_sign hc r
theorem reads_name {s:List UInt8} (h:nameB s=true):Reads s [(1,s)] NP:=fun _ hr=>keyU_name h hr
theorem np_sign {c:UInt8} (h:partB c=false) (r:List UInt8):NP (c::r):=by show (!partB c)=true;rw[h];rfl
theorem reads_num {n:Int} (h0:-9223372036854775808 < n) (h1:n≤9223372036854775807):Reads (Lib.itoa n) (numK n) NP:=fun r hr=>by
 unfold Lib.itoa numK
 by_cases hn:n < 0
 ·rw[if_pos hn,if_pos hn]
  have e:(45::Lib.decDigits n.natAbs)++r=[45]++(Lib.decDigits n.natAbs++r):=rfl
  first
   | rw[e,keyU_sign (by simp) _,keyU_dec _ (by omega) hr];rfl
   | (simp only[List.cons_append,List.nil_append];rw[show (45::(Lib.decDigits n.natAbs++r))=[45]++(Lib.decDigits n.natAbs++r) from rfl,keyU_sign (by simp) _,keyU_dec _ (by omega) hr];rfl)
 ·rw[if_neg hn,if_neg hn,keyU_dec _ (by omega) hr]
  rfl
theorem reads_two {s t:List UInt8} {ks js:List Key} {c:UInt8} (h:Reads s ks NP) (k:Reads t js NP) (hc:c=43∨c=45∨c=42):Reads ([40]++s++[32]++[c]++[32]++t++[41]) ([(4,[40])]++(ks++([(4,[c])]++(js++[(4,[41])])))) Any:=by
 have h1:Reads (t++[41]) (js++[(4,[41])]) Any:=k.app (reads_sign (by simp)) fun r _=>np_sign (by decide) r
 have h2:Reads ([c]++(32::(t++[41]))) ([(4,[c])]++(js++[(4,[41])])) Any:=(reads_sign (by rcases hc with rfl | rfl | rfl <;> simp)).app (reads_blank h1) fun _ _=>trivial
 have h3:Reads (s++(32::([c]++(32::(t++[41]))))) (ks++([(4,[c])]++(js++[(4,[41])]))) Any:=h.app (reads_blank h2) fun r _=>np_sign (by decide) _
 have h4:=(reads_sign (c:=40) (by simp)).app h3 fun _ _=>trivial
 have e:[40]++s++[32]++[c]++[32]++t++[41]=[40]++(s++(32::([c]++(32::(t++[41]))))):=by simp
 rw[e]
 exact h4
theorem sgnT_val (o:Int):sgnT o=43∨sgnT o=45∨sgnT o=42:=by
 unfold sgnT
 split
 ·exact .inl rfl
 split
 ·exact .inr (.inl rfl)
 ·exact .inr (.inr rfl)
theorem show_five {h:Nat} {o:Int} {s:ByteArray} {n:Int} {a b:Tm} (ho:o=5∨o=6∨o=7):showT (h+1) (.mk o s n [a,b])=[40]++showT h a++[32]++[sgnT o]++[32]++showT h b++[41]:=by
 rcases ho with rfl | rfl | rfl <;> simp[showT,Tm.op,Tm.l]
theorem reads_term:∀ (h:Nat) (t:Tm),rightT h t=true→okN t=true→Reads (showT h t) (keysT h t) NP
 | 0,_,h,_=>by cases h
 | h+1,.mk o s n ts,ht,hodd=>by
  unfold okN at hodd
  rw[Bool.and_eq_true] at hodd
  by_cases h2:twoB o=true
  ·have ho:o=5∨o=6∨o=7:=by
    unfold twoB at h2
    simpa[or_assoc] using h2
   obtain⟨a,b,rfl,rfl,rfl,ra,ta,rb,tb⟩:=right_two h2 ht
   have hab:=hodd.1
   simp only[okNs,Bool.and_true,Bool.and_eq_true] at hab
   rw[keysT5 ho,show_five ho]
   exact (reads_two (reads_term h a ta hab.1) (reads_term h b tb hab.2) (sgnT_val o)).weak fun _ _=>trivial
  ·have hl:=right_leaf h2 ht
   by_cases h1:o=1
   ·subst h1
    rw[keysT1 (show Tm.op (.mk 1 s n ts)=1 from rfl)]
    have:=leaf_var hl
    exact reads_name (leaf_var hl).1
   by_cases h22:o=2
   ·subst h22
    rw[keysT2 (show Tm.op (.mk 2 s n ts)=2 from rfl)]
    have hn:=hodd.2
    simp only[beq_self_eq_true,Bool.not_true,Bool.false_or,decide_eq_true_eq] at hn
    exact reads_num hn.1 hn.2
   by_cases h3:o=3
   ·subst h3
    rw[keysT3 (show Tm.op (.mk 3 s n ts)=3 from rfl)]
    exact fun r _=>keyU_quote _ r
   by_cases h4:o=4
   ·subst h4
    rw[keysT4 (show Tm.op (.mk 4 s n ts)=4 from rfl)]
    exact fun r hr=>keyU_any hr
   ·exfalso
    unfold leafB at hl
    rw[if_neg (show ¬ Tm.op (.mk o s n ts)=1 from h1),if_neg (show ¬ Tm.op (.mk o s n ts)=2 from h22),if_neg (show ¬ Tm.op (.mk o s n ts)=3 from h3),if_neg (show ¬ Tm.op (.mk o s n ts)=4 from h4)] at hl
    cases hl
theorem reads_join {α:Type} {f:α→List UInt8} {g:α→List Key}:∀ {l:List α},l≠[]→(∀ x ∈ l,Reads (f x) (g x) NP)→Reads (joinL [44,32] (l.map f)) (joinK (l.map g)) NP
 | [],h,_=>absurd rfl h
 | [x],_,h=>h x (by simp)
 | x::y::l,_,h=>by
  have ih:=reads_join (l:=y::l) (by simp) fun z hz=>h z (by simp[hz])
  have h1:Reads ([44]++(32::joinL [44,32] ((y::l).map f))) ([(4,[44])]++joinK ((y::l).map g)) NP:=(reads_sign (by simp)).app (reads_blank ih) fun _ _=>trivial
  have h2:=(h x (by simp)).app h1 fun r _=>np_sign (by decide) _
  have e1:joinL [44,32] ((x::y::l).map f)=f x++([44]++(32::joinL [44,32] ((y::l).map f))):=by simp[joinL]
  have e2:joinK ((x::y::l).map g)=g x++([(4,[44])]++joinK ((y::l).map g)):=by simp[joinK]
  rw[e1,e2]
  exact h2
theorem reads_atom {a:Am} (ha:rightA a=true) (hn:okA a=true):Reads (showA a) (keysA a) Any:=by
 obtain⟨h1,h2,_,h4⟩:=right_atom ha
 unfold okA at hn
 rw[List.all_eq_true] at h4 hn
 have k1:Reads (joinL [44,32] (a.l.map (showT 20))++[41]) (joinK (a.l.map (keysT 20))++[(4,[41])]) Any:=
  (reads_join h2 fun x hx=>reads_term 20 x (h4 x hx) (hn x hx)).app (reads_sign (by simp)) fun r _=>np_sign (by decide) r
 have k2:=(reads_sign (c:=40) (by simp)).app k1 fun _ _=>trivial
 have k3:=(reads_name h1).app k2 fun r _=>np_sign (by decide) _
 have e1:showA a=a.rel.data.toList++([40]++(joinL [44,32] (a.l.map (showT 20))++[41])):=by simp[showA]
 rw[e1]
 exact k3
theorem reads_braced {a:Am} (ha:rightA a=true) (hn:okA a=true):Reads ([58,32,123,32]++showA a++[32,125]) (keysB a) Any:=by
 have h1:Reads (showA a++(32::[125])) (keysA a++[(4,[125])]) Any:=(reads_atom ha hn).app (reads_blank (reads_sign (by simp))) fun _ _=>trivial
 have h2:Reads ([123]++(32::(showA a++(32::[125])))) ([(4,[123])]++(keysA a++[(4,[125])])) Any:=(reads_sign (by simp)).app (reads_blank h1) fun _ _=>trivial
 intro r hr
 have h3:=keyU_sign2 (c:=58) (by simp) (d:=32) (by decide) ([123]++(32::(showA a++(32::[125])))++r)
 rw[keyU_blank 32 _ (by decide),h2 r hr] at h3
 have e:[58,32,123,32]++showA a++[32,125]++r=[58]++32::([123]++(32::(showA a++(32::[125])))++r):=by simp
 rw[e,h3]
 rfl
theorem word_held {op:Int} (h:3≤op∧op≤6) {s:List UInt8} {ks:List Key} {R:List UInt8→Prop} (hs:Reads s ks R):Reads (wordL op++(32::s)) ((4,wordL op)::ks) R:=by
 have:op=3∨op=4∨op=5∨op=6:=by omega
 rcases this with rfl | rfl | rfl | rfl
 ·exact (reads_sign (c:=61) (by simp)).app (reads_blank hs) fun _ _=>trivial
 ·exact Reads.app (s:=[33,61]) (ks:=[(4,[33,61])]) (R:=Any) (fun r _=>keyU_long (by simp) r) (reads_blank hs) fun _ _=>trivial
 ·intro r hr
  have h3:=keyU_sign2 (c:=60) (by simp) (d:=32) (by decide) (s++r)
  rw[keyU_blank 32 _ (by decide),hs r hr] at h3
  exact h3
 ·exact Reads.app (s:=[60,61]) (ks:=[(4,[60,61])]) (R:=Any) (fun r _=>keyU_long (by simp) r) (reads_blank hs) fun _ _=>trivial
theorem word_name (op:Int) (h:¬ op≤6):nameB (wordL op)=true:=by
 unfold wordL
 rw[if_neg (by omega),if_neg (by omega),if_neg (by omega),if_neg (by omega)]
 split
 ·decide
 split
 ·decide
 split
 ·decide
 ·decide
theorem reads_part {l:Lt} (hl:rightL l=true) (hn:okLt l=true):Reads (showL l) (keysL l) NP:=by
 obtain⟨op,a,x,y⟩:=l
 unfold okLt at hn
 simp only[Bool.and_eq_true] at hn
 obtain⟨⟨hna,hnx⟩,hny⟩:=hn
 unfold rightL at hl
 unfold showL keysL
 by_cases h1:op=1
 ·subst h1
  rw[if_pos (show Lt.op ⟨1,a,x,y⟩=1∨Lt.op ⟨1,a,x,y⟩=2 from .inl rfl)] at hl
  simp only[Bool.and_eq_true] at hl
  rw[if_pos (show Lt.op ⟨1,a,x,y⟩=1 from rfl),if_pos (show Lt.op ⟨1,a,x,y⟩=1 from rfl)]
  exact (reads_atom hl.1.1 hna).weak fun _ _=>trivial
 rw[if_neg (show ¬ Lt.op ⟨op,a,x,y⟩=1 from h1),if_neg (show ¬ Lt.op ⟨op,a,x,y⟩=1 from h1)]
 by_cases h2:op=2
 ·subst h2
  rw[if_pos (show Lt.op ⟨2,a,x,y⟩=1∨Lt.op ⟨2,a,x,y⟩=2 from .inr rfl)] at hl
  simp only[Bool.and_eq_true] at hl
  rw[if_pos (show Lt.op ⟨2,a,x,y⟩=2 from rfl),if_pos (show Lt.op ⟨2,a,x,y⟩=2 from rfl)]
  have ha:=reads_atom hl.1.1 hna
  obtain⟨c,t,hct,hc⟩:∃ c t,showA a=c::t∧c≠45∧c≠61:=by
   have hnm:=(right_atom hl.1.1).1
   unfold showA
   cases hr:a.rel.data.toList with
   | nil=>exact absurd hr (nameB_none hnm)
   | cons c t=>
    refine⟨c,_,rfl,?_⟩
    rw[hr] at hnm
    unfold nameB okFrom at hnm
    simp only[Bool.and_eq_true] at hnm
    have:=okAt_part hnm.2.1
    constructor <;> (rintro rfl;revert this;decide)
  intro r _
  have h3:=keyU_sign2 (c:=33) (by simp) hc (t++r)
  have e:c::(t++r)=showA a++r:=by rw[hct];rfl
  rw[e,ha r trivial] at h3
  have e2:[33]++(Lt.a ⟨2,a,x,y⟩ |> showA)++r=[33]++(showA a++r):=by simp
  rw[e2]
  exact h3
 rw[if_neg (show ¬ (Lt.op ⟨op,a,x,y⟩=1∨Lt.op ⟨op,a,x,y⟩=2) from fun h=>h.elim h1 h2)] at hl
 rw[if_neg (show ¬ Lt.op ⟨op,a,x,y⟩=2 from h2),if_neg (show ¬ Lt.op ⟨op,a,x,y⟩=2 from h2)]
 by_cases h6:3≤op∧op≤6
 ·rw[if_pos (show 3≤Lt.op ⟨op,a,x,y⟩∧Lt.op ⟨op,a,x,y⟩≤6 from h6)] at hl
  simp only[Bool.and_eq_true] at hl
  obtain⟨⟨⟨⟨_,hx⟩,hy⟩,_⟩,_⟩:=hl
  rw[if_pos (show Lt.op ⟨op,a,x,y⟩≤6 from h6.2),if_pos (show Lt.op ⟨op,a,x,y⟩≤6 from h6.2)]
  have k:=(reads_term 20 x hx hnx).app (reads_blank (word_held h6 (reads_term 20 y hy hny))) fun r _=>np_sign (by decide) _
  have e:showT 20 x++[32]++wordL op++[32]++showT 20 y=showT 20 x++(32::(wordL op++(32::showT 20 y))):=by simp
  show Reads (showT 20 x++[32]++wordL op++[32]++showT 20 y) _ _
  rw[e]
  exact k
 rw[if_neg (show ¬ (3≤Lt.op ⟨op,a,x,y⟩∧Lt.op ⟨op,a,x,y⟩≤6) from h6)] at hl
 by_cases h7:op=7
 ·subst h7
  rw[if_pos (show Lt.op ⟨7,a,x,y⟩=7 from rfl)] at hl
  rw[if_neg (show ¬ Lt.op ⟨7,a,x,y⟩≤6 from (by decide:¬ (7:Int)≤6)),if_neg (show ¬ Lt.op ⟨7,a,x,y⟩≤6 from (by decide:¬ (7:Int)≤6)),if_pos (show Lt.op ⟨7,a,x,y⟩=7 from rfl),if_pos (show Lt.op ⟨7,a,x,y⟩=7 from rfl)]
  simp only[Bool.and_eq_true] at hl
  obtain⟨⟨⟨ha,hx⟩,_⟩,_⟩:=hl
  have k1:=(reads_name (word_name 7 (by decide))).app (reads_blank (reads_braced ha hna)) fun r _=>np_sign (by decide) _
  have k2:=(reads_term 20 x hx hnx).app (reads_blank ((reads_sign (c:=61) (by simp)).app (reads_blank k1) fun _ _=>trivial)) fun r _=>np_sign (by decide) _
  have e:showT 20 x++[32,61,32]++wordL 7++[]++[32,58,32,123,32]++showA a++[32,125]=showT 20 x++(32::([61]++(32::(wordL 7++(32::([58,32,123,32]++showA a++[32,125])))))):=by simp
  show Reads (showT 20 x++[32,61,32]++wordL 7++[]++[32,58,32,123,32]++showA a++[32,125]) _ _
  rw[e]
  exact k2.weak fun _ _=>trivial
 ·rw[if_neg (show ¬ Lt.op ⟨op,a,x,y⟩=7 from h7)] at hl
  by_cases h8:8≤op∧op≤10
  ·rw[if_pos (show 8≤Lt.op ⟨op,a,x,y⟩∧Lt.op ⟨op,a,x,y⟩≤10 from h8)] at hl
   have h6':¬ op≤6:=by omega
   rw[if_neg (show ¬ Lt.op ⟨op,a,x,y⟩≤6 from h6'),if_neg (show ¬ Lt.op ⟨op,a,x,y⟩≤6 from h6'),if_neg (show ¬ Lt.op ⟨op,a,x,y⟩=7 from h7),if_neg (show ¬ Lt.op ⟨op,a,x,y⟩=7 from h7)]
   simp only[Bool.and_eq_true] at hl
   obtain⟨⟨⟨⟨ha,hx⟩,_⟩,hy⟩,_⟩:=hl
   have k0:=(reads_term 20 y hy hny).app (reads_blank (reads_braced ha hna)) fun r _=>np_sign (by decide) _
   have k1:=(reads_name (word_name op h6')).app (reads_blank k0) fun r _=>np_sign (by decide) _
   have k2:=(reads_term 20 x hx hnx).app (reads_blank ((reads_sign (c:=61) (by simp)).app (reads_blank k1) fun _ _=>trivial)) fun r _=>np_sign (by decide) _
   have e:showT 20 x++[32,61,32]++wordL op++([32]++showT 20 y)++[32,58,32,123,32]++showA a++[32,125]=showT 20 x++(32::([61]++(32::(wordL op++(32::(showT 20 y++(32::([58,32,123,32]++showA a++[32,125])))))))):=by simp
   show Reads (showT 20 x++[32,61,32]++wordL op++([32]++showT 20 y)++[32,58,32,123,32]++showA a++[32,125]) _ _
   rw[e]
   exact k2.weak fun _ _=>trivial
  ·rw[if_neg (show ¬ (8≤Lt.op ⟨op,a,x,y⟩∧Lt.op ⟨op,a,x,y⟩≤10) from h8)] at hl
   cases hl
theorem reads_rule {x:Ru} (hx:rightR x=true) (hn:okR x=true):Reads (showR x++[10]) (keysR x) Any:=by
 unfold rightR at hx
 unfold okR at hn
 simp only[Bool.and_eq_true] at hx hn
 obtain⟨⟨⟨ha,_⟩,_⟩,hb⟩:=hx
 obtain⟨hna,hnb⟩:=hn
 rw[List.all_eq_true] at hb hnb
 have hd:Reads [46,10] [(4,[46])] Any:=fun r _=>keyU_dot r
 unfold showR keysR
 by_cases h0:x.body=[]
 ·rw[if_pos h0,if_pos h0]
  have k:=(reads_atom ha hna).app hd fun _ _=>trivial
  have e:showA x.head++[]++[46]++[10]=showA x.head++[46,10]:=by simp
  rw[e]
  exact k
 ·rw[if_neg h0,if_neg h0]
  have k1:=(reads_join h0 fun l hl=>reads_part (hb l hl) (hnb l hl)).app hd fun r _=>np_sign (by decide) _
  have k2:=Reads.app (s:=[58,45]) (ks:=[(4,[58,45])]) (R:=Any) (fun r _=>keyU_long (by simp) r) (reads_blank k1) fun _ _=>trivial
  have k3:=(reads_atom ha hna).app (reads_blank k2) fun _ _=>trivial
  have e:showA x.head++([32,58,45,32]++joinL [44,32] (x.body.map showL))++[46]++[10]=showA x.head++(32::([58,45]++(32::(joinL [44,32] (x.body.map showL)++[46,10])))):=by simp
  rw[e]
  exact k3
theorem type_name (n:Int):nameB (typeL n)=true:=by
 unfold typeL
 split <;> decide
theorem reads_col {x:ByteArray × Int} (hx:nameB x.1.data.toList=true):Reads (colL x) (keysC x) NP:=by
 intro r hr
 have k:=reads_name (type_name x.2) r hr
 have h3:=keyU_sign2 (c:=58) (by simp) (d:=32) (by decide) (typeL x.2++r)
 rw[keyU_blank 32 _ (by decide),k] at h3
 have e:colL x++r=x.1.data.toList++([58]++32::(typeL x.2++r)):=by simp[colL]
 rw[e,reads_name hx ([58]++32::(typeL x.2++r)) (np_sign (by decide) _),h3]
 rfl
theorem reads_mark {s:ByteArray} (hs:nameB s.data.toList=true) {w:List UInt8} (hw:w=[105,110,112,117,116]∨w=[111,117,116,112,117,116]) (b:Bool):Reads (if b=true then 46::w++[32]++s.data.toList++[10] else []) (keysM s (46::w) b) Any:=by
 unfold keysM
 cases b with
 | false=>intro r _;rfl
 | true=>
  rw[if_pos rfl,if_pos rfl]
  intro r _
  have e:46::w++[32]++s.data.toList++[10]++r=46::w++32::(s.data.toList++(10::r)):=by simp
  rw[e,keyU_word (by rcases hw with rfl | rfl <;> simp),reads_name hs _ (np_sign (by decide) _),keyU_blank 10 r (by decide)]
  rfl
theorem reads_decl {d:De} (hd:rightD d=true):Reads (showD d) (keysD d) Any:=by
 unfold rightD at hd
 simp only[Bool.and_eq_true,decide_eq_true_eq] at hd
 obtain⟨⟨⟨⟨⟨hr,h1⟩,_⟩,hl⟩,hns⟩,_⟩:=hd
 have hne:d.names.zip d.types≠[]:=by
  intro e
  have:=congrArg List.length e
  rw[List.length_zip,hl] at this
  simp at this
  have h1:1≤d.names.length:=h1
  rw[this] at h1
  simp at h1
 have hcols:∀ x ∈ d.names.zip d.types,Reads (colL x) (keysC x) NP:=fun x hx=>reads_col (by
  rw[List.all_eq_true] at hns
  exact hns x.1 (List.of_mem_zip (a:=x.1) (b:=x.2) hx).1)
 have k0:=Reads.app (reads_mark hr (w:=[105,110,112,117,116]) (.inl rfl) d.inn) (reads_mark hr (w:=[111,117,116,112,117,116]) (.inr rfl) d.out) fun _ _=>trivial
 have k1:Reads ([41]++(10::((if d.inn=true then 46::[105,110,112,117,116]++[32]++d.rel.data.toList++[10] else [])++(if d.out=true then 46::[111,117,116,112,117,116]++[32]++d.rel.data.toList++[10] else [])))) _ Any:=
  (reads_sign (by simp)).app (s:=[41]) (fun r hr=>by
   rw[List.cons_append,keyU_blank 10 _ (by decide)]
   exact k0 r hr) fun _ _=>trivial
 have k2:=(reads_join hne hcols).app k1 fun r _=>np_sign (by decide) _
 have k3:=(reads_sign (c:=40) (by simp)).app k2 fun _ _=>trivial
 have k4:=(reads_name hr).app k3 fun r _=>np_sign (by decide) _
 intro r hr'
 have k5:=k4 r hr'
 have e:showD d++r=46::[100,101,99,108]++32::((d.rel.data.toList++([40]++(joinL [44,32] ((d.names.zip d.types).map colL)++([41]++(10::((if d.inn=true then 46::[105,110,112,117,116]++[32]++d.rel.data.toList++[10] else [])++(if d.out=true then 46::[111,117,116,112,117,116]++[32]++d.rel.data.toList++[10] else [])))))))++r):=by
  unfold showD
  cases d.inn <;> cases d.out <;> simp
 rw[e,keyU_word (by simp),k5]
 simp[keysD]
theorem reads_flat {α:Type} {f:α→List UInt8} {g:α→List Key}:∀ {l:List α},(∀ x ∈ l,Reads (f x) (g x) Any)→Reads (l.flatMap f) (l.flatMap g) Any
 | [],_=>fun r _=>rfl
 | x::l,h=>by
  rw[List.flatMap_cons,List.flatMap_cons]
  exact (h x (by simp)).app (reads_flat fun y hy=>h y (by simp[hy])) fun _ _=>trivial
def okP (p:Pg):Bool:=p.rules.all okR
theorem reads_prog {p:Pg} (hp:rightP p=true) (hn:okP p=true):keyU (showP p)=(keysP p,false):=by
 unfold rightP at hp
 unfold okP at hn
 simp only[Bool.and_eq_true] at hp
 obtain⟨⟨_,hd⟩,hr⟩:=hp
 rw[List.all_eq_true] at hd hr hn
 have k:=(reads_flat fun d h=>reads_decl (hd d h)).app (reads_flat fun x h=>reads_rule (hr x h) (hn x h)) fun _ _=>trivial
 have h0:=k [] trivial
 rw[List.append_nil] at h0
 have e:keyU []=([],false):=by unfold keyU;rw[lexU_nil [] rfl];rfl
 unfold showP keysP
 rw[h0,e,List.append_nil]
theorem lexR_keys {l:List UInt8} {ks:List Key} (hl:l.length≤65536) (hk:keyU l=(ks,false)) (hn:ks.length≤20000):∃ ts,lexR l=(ts,0,0)∧(ts.map tokI).map keyOf=ks:=by
 unfold keyU at hk
 rw[lexU_fst,lexU_snd,List.map_map] at hk
 simp only[Prod.mk.injEq] at hk
 obtain⟨h1,h2⟩:=hk
 refine⟨(lexL l).1,?_,?_⟩
 ·have:(lexL l).1.length≤20000:=by
   have:=congrArg List.length h1
   rw[List.length_map] at this
   omega
  unfold lexR
  rw[if_neg (by omega),if_neg (by omega)]
  cases h:(lexL l).2 with
  | none=>rfl
  | some n=>rw[h] at h2;cases h2
 ·rw[← h1,List.map_map]
  refine List.map_congr_left fun t _=>?_
  rfl
theorem foldP_keys {p:Pg} (hp:rightP p=true) (hn:okP p=true) (hl:(showP p).length≤65536) (hk:(keysP p).length≤20000) (hd:(namesD p.decls).Nodup) :
  ∃ ts q,lexR (showP p)=(ts,0,0)∧parseP (ts.map tokI)=(q,0,0)∧sameP p q=true:=by
 obtain⟨ts,h1,h2⟩:=lexR_keys hl (reads_prog hp hn) hk
 obtain⟨q,h3,h4⟩:=parse_keys hp hd (by have:=congrArg List.length h2;rw[List.length_map] at this;omega) h2
 exact⟨ts,q,h1,h3,h4⟩
end Go.Proofs.YtdgbajnhhhjbcaaGreatDoor
