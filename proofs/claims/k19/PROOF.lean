import PyProof.Rows.All
import Wide.All
import OpenK.AllK
import Wide.FinOn
import Lean
import PyProof.EqAt
import PyProof.EqKinds
import PyProof.TupleCall
import KE.KMinKey
import PyProof.AttrMissHeap
import KE.KDictOf
import PySem.Challenge.RW_relationladder_k19_rests_by_parts
set_option Elab.async false
set_option linter.all false
set_option maxRecDepth 100000
theorem zq2{A:α->β->Prop}(x y)(h:A x y):∃x y,A x y:=⟨x,y,h⟩
theorem zq3{A:α->β->γ->Prop}(x y z)(h:A x y z):∃x y z,A x y z:=⟨x,y,z,h⟩
theorem zq4{A:α->β->γ->δ->Prop}(x y z u)(h:A x y z u):∃x y z u,A x y z u:=⟨x,y,z,u,h⟩
theorem zq5{A:α->Prop}{B:α->β->Prop}(x)(i:A x)(y)(h:B x y):∃x,A x/\∃y,B x y:=⟨x,i,y,h⟩
theorem zq6{A:α->Prop}{B:α->β->γ->Prop}(x)(i:A x)(y z)(h:B x y z):∃x,A x/\∃y z,B x y z:=⟨x,i,y,z,h⟩
theorem zq7{A:α->Prop}{B:α->β->γ->δ->Prop}(x)(i:A x)(y z u)(h:B x y z u):∃x,A x/\∃y z u,B x y z u:=⟨x,i,y,z,u,h⟩
theorem zq8{A:α->Prop}{B:α->β->γ->δ->ε->Prop}(x)(i:A x)(y z u v)(h:B x y z u v):∃x,A x/\∃y z u v,B x y z u v:=⟨x,i,y,z,u,v,h⟩
theorem zq9{A:α->Prop}{B:α->β->γ->δ->ε->ζ->Prop}(x)(i:A x)(y z u v w)(h:B x y z u v w):∃x,A x/\∃y z u v w,B x y z u v w:=⟨x,i,y,z,u,v,w,h⟩
section
open Lean
def zgi(t:Term):MacroM (List Term):=do
 let r<-`(rfl)
 let u<-`(_)
 match t.raw.isNatLit? with
 |some 0=>return[u,r]
 |some 1=>return[r]
 |some 2=>return[u,u,r,r]
 |some 3=>return[<-`(by intro z;cases z)]
 |some 4=>return[<-`(Or.inl rfl)]
 |_=>return[t]
def zgg:List Char->List Term->MacroM Term
 |b::m::c,t=>do
  let i:=b.toNat-48
  let k:=m.toNat-48
  let n:=[0,1,2,3,4,3,4,5,6,7][i]!
  let r<-zgg c (t.drop (n+k))
  let r<-((t.drop n).take k).foldrM (λy r=>`(And.intro $y $r)) r
  return if i=0 then r else Syntax.mkApp (mkCIdent (if i=1 then `Exists.intro else .mkSimple s!"zq{i}")) ((t.take n).toArray.push r)
 |_,[t]=>return t
 |_,t=>`(⟨$(t.toArray),*⟩)
def zgb(l:List Term):MacroM Term:=do
 match l with
 |[]=>`(by decide)
 |k::t=>
  let c:=if k.raw.isNatLit?.isSome then k.raw[0].getAtomVal else ""
  if c.length>1 then zgg c.toList (<-t.flatMapM zgi) else zgg [] (<-l.flatMapM zgi)
def zgp:Nat->Term->MacroM (TSyntax `rcasesPat)
 |n+1,t=>match t with
  |`(#[$s,*])=>do `(rcasesPat|⟨$(<-s.getElems.mapM λx=>do `(Parser.Tactic.rcasesPatLo|$(<-zgp n x):rcasesPat)),*⟩)
  |`($x:ident)=>`(rcasesPat|$x:ident)
  |`(_)=>`(rcasesPat|_)
  |_=>`(rcasesPat|$(mkIdent `rfl):ident)
 |_,_=>Macro.throwUnsupported
end
local macro_rules
 |`(tactic|lia)=>`(tactic|first|lia (config:={})|omega)
 |`(())=>`(by lia)
 |`(tactic|let #[$s,*]:=$e)=>do `(tactic|rcases $e:term with $(<-zgp 9 (<-`(#[$s,*]))):rcasesPat)
 |`(tactic|erw[$s,*])=>do `(tactic|refine $(<-zgb (s.getElems.map (⟨·.raw[1]⟩)).toList))
 |`(tactic|rwa[$s,*])=>do `(tactic|exact $(<-zgb (s.getElems.map (⟨·.raw[1]⟩)).toList))
 |`(#print $s:str)=>do
  let n<-(List.range (s.getString.length/10)).mapM λi=>do
   let n:=((s.getString.toList.drop (10*i)).take 10).foldl (λn c=>91*n+c.toNat-(if c.toNat>92 then 36 else 35)) 0
   `(command|def $(Lean.mkIdent (.mkSimple s!"tw{n}")):ident:=0)
  return Lean.mkNullNode (n.map (·.raw)).toArray
 |`(#[$s,*])=>zgb s.getElems.toList
 |`($n:name)=>return Lean.Syntax.mkApp (Lean.mkIdent n.getName) ([`P,`w,`K,`mg,`base].toArray.map (Lean.mkIdent ·))
open PySem.W (instObj hideAll_get Frag lookIn plainGet hasDictIn findIn isFn makesIn emptyDict keepIn fnOf codeIn nsIn CodeHd tabObj tabIn kla_obj)
open List (filterMap_cons getElem_inj getElem?_set_self getElem?_set_ne of_mem_zip take_sublist zip_cons_cons length_nil map_nil length_set reverse_cons forIn_cons all_eq_true forIn_nil getElem_of_mem take_succ sum_append any_cons cons_append reverse_reverse pairwise_singleton getElem?_reverse mem_singleton_self foldl_append map_reverse range_succ filter_sublist take_zero dropLast_concat_getLast flatMap_cons sum_cons countP_singleton nodup_cons length_zipIdx getElem?_of_mem nil_append filter_eq_nil_iff filter_filter getElem?_zipIdx)
open PySem.Heap (get?_update_self get?_push_cases)
theorem c_:type_of% @PySem.wpAny_bind:=@PySem.wpAny_bind
theorem e_:type_of% @List.getElem?_eq_getElem:=@List.getElem?_eq_getElem
theorem ge:type_of% @Nat.le_refl:=@Nat.le_refl
theorem h_:type_of% @PySem.Heap.get?_push_of_some:=@PySem.Heap.get?_push_of_some
theorem i_:type_of% @PySem.wpAny_pure:=@PySem.wpAny_pure
theorem k_:type_of% @List.length_map:=@List.length_map
theorem p_:type_of% @decide_eq_true:=@decide_eq_true
theorem q_:type_of% @List.getElem?_eq_some_iff:=@List.getElem?_eq_some_iff
theorem t_:type_of% @if_neg:=@if_neg
theorem u_:type_of% @if_pos:=@if_pos
theorem y_:type_of% @List.length_append:=@List.length_append
theorem z_:type_of% @PySem.Heap.get?_push_size:=@PySem.Heap.get?_push_size
theorem A_:type_of% @of_decide_eq_true:=@of_decide_eq_true
theorem E_:type_of% @List.mem_of_getElem?:=@List.mem_of_getElem?
theorem Ga:type_of% @List.getElem?_map:=@List.getElem?_map
theorem Gc:type_of% @List.getD_eq_getElem?_getD:=@List.getD_eq_getElem?_getD
theorem Gr:type_of% @PySem.sizeLine_eq:=@PySem.sizeLine_eq
theorem Gw:type_of% @Nat.zero_le:=@Nat.zero_le
theorem Gx:type_of% @decide_eq_false:=@decide_eq_false
theorem GA:type_of% @Nat.ne_of_lt:=@Nat.ne_of_lt
theorem GF:type_of% @List.mem_singleton:=@List.mem_singleton
theorem GG:type_of% @List.mem_cons_of_mem:=@List.mem_cons_of_mem
theorem GH:type_of% @List.mem_cons:=@List.mem_cons
theorem GK:type_of% @List.mem_map:=@List.mem_map
theorem GM:type_of% @PySem.PassesOwn.never:=@PySem.PassesOwn.never
theorem GP:type_of% @PySem.Heap.lt_size:=@PySem.Heap.lt_size
theorem GR:type_of% @List.size_toArray:=@List.size_toArray
theorem GS:type_of% @Nat.lt_of_lt_of_le:=@Nat.lt_of_lt_of_le
theorem GT:type_of% @Bool.false_ne_true:=@Bool.false_ne_true
theorem GV:type_of% @List.length_singleton:=@List.length_singleton
theorem G_:type_of% @Option.some.inj:=@Option.some.inj
theorem Kw:type_of% @List.take_add_one:=@List.take_add_one
theorem KB:type_of% @List.map_append:=@List.map_append
theorem KC:type_of% @List.mem_append_right:=@List.mem_append_right
theorem KI:type_of% @List.mem_append:=@List.mem_append
theorem KP:type_of% @Array.getElem?_eq_getElem:=@Array.getElem?_eq_getElem
theorem KQ:type_of% @List.mem_cons_self:=@List.mem_cons_self
theorem KS:type_of% @PySem.wpAny_newObj_type:=@PySem.wpAny_newObj_type
theorem KU:type_of% @List.take_length:=@List.take_length
theorem K1:type_of% @List.map_cons:=@List.map_cons
theorem K4:type_of% @Int.mul_fdiv_cancel_left:=@Int.mul_fdiv_cancel_left
theorem K5:type_of% @Int.natAbs_natCast:=@Int.natAbs_natCast
theorem K8:type_of% @Nat.pow_lt_pow_right:=@Nat.pow_lt_pow_right
theorem K_:type_of% @List.length_reverse:=@List.length_reverse
theorem La:type_of% @Int.emod_lt_of_pos:=@Int.emod_lt_of_pos
theorem Lg:type_of% @Nat.le_trans:=@Nat.le_trans
theorem Lh:type_of% @PySem.wpAny_call_entry:=@PySem.wpAny_call_entry
theorem Li:type_of% @Nat.lt_of_le_of_lt:=@Nat.lt_of_le_of_lt
theorem Lj:type_of% @Array.length_toList:=@Array.length_toList
theorem Lk:type_of% @Nat.lt_irrefl:=@Nat.lt_irrefl
theorem Ll:type_of% @PySem.wpAny_holding:=@PySem.wpAny_holding
theorem Lm:type_of% @List.not_mem_nil:=@List.not_mem_nil
theorem Lp:type_of% @Bool.and_eq_true:=@Bool.and_eq_true
theorem Lq:type_of% @Int.toNat_natCast:=@Int.toNat_natCast
theorem Lr:type_of% @Int.emod_nonneg:=@Int.emod_nonneg
theorem Ls:type_of% @congrArg:=@congrArg
theorem Lv:type_of% @Array.getElem?_toList:=@Array.getElem?_toList
theorem Lx:type_of% @List.lookup_cons:=@List.lookup_cons
theorem LF:type_of% @PySem.wpAny_mono:=@PySem.wpAny_mono
theorem LG:type_of% @PySem.wpAny_setField_rec:=@PySem.wpAny_setField_rec
theorem LH:type_of% @PyProof.Rows.callWith_type1:=@PyProof.Rows.callWith_type1
theorem LK:type_of% @List.length_take:=@List.length_take
theorem LM:type_of% @List.mem_filter:=@List.mem_filter
theorem LN:type_of% @List.getElem?_eq_none:=@List.getElem?_eq_none
theorem LP:type_of% @PySem.Heap.get?_update_other:=@PySem.Heap.get?_update_other
theorem LV:type_of% @PySem.wpAny_Call_Name_kw:=@PySem.wpAny_Call_Name_kw
theorem LW:type_of% @Bool.false_eq_true:=@Bool.false_eq_true
theorem LX:type_of% @List.filter_cons_of_neg:=@List.filter_cons_of_neg
theorem LY:type_of% @PySem.W.mg_none_of:=@PySem.W.mg_none_of
theorem L0:type_of% @List.mem_map_of_mem:=@List.mem_map_of_mem
theorem L8:type_of% @Int.emod_eq_of_lt:=@Int.emod_eq_of_lt
theorem Mb:type_of% @PySem.wpAny_callSpecial?_slot:=@PySem.wpAny_callSpecial?_slot
theorem Mf:type_of% @List.length_cons:=@List.length_cons
theorem Mg:type_of% @List.append_nil:=@List.append_nil
theorem Mh:type_of% @PySem.wpAny_field:=@PySem.wpAny_field
theorem Mi:type_of% @PySem.wpAny_seqItems:=@PySem.wpAny_seqItems
theorem Mj:type_of% @PySem.Around.under_plainId:=@PySem.Around.under_plainId
theorem Ml:type_of% @List.getElem?_range:=@List.getElem?_range
theorem Mm:type_of% @List.filter_cons_of_pos:=@List.filter_cons_of_pos
theorem Mn:type_of% @List.mem_append_left:=@List.mem_append_left
theorem Mo:type_of% @Option.map_some:=@Option.map_some
theorem Mp:type_of% @List.mem_of_mem_take:=@List.mem_of_mem_take
theorem Mt:type_of% @List.append_assoc:=@List.append_assoc
theorem Mv:type_of% @List.mem_cons:=@List.mem_cons
theorem Mw:type_of% @beq_eq_false_iff_ne:=@beq_eq_false_iff_ne
theorem Mx:type_of% @PySem.Heap.SameBut.update:=@PySem.Heap.SameBut.update
theorem MA:type_of% @PySem.wpAny_truthy_bool:=@PySem.wpAny_truthy_bool
theorem MB:type_of% @List.map_map:=@List.map_map
theorem ME:type_of% @List.mem_range:=@List.mem_range
theorem MG:type_of% @or_false:=@or_false
theorem MH:type_of% @List.eq_nil_of_length_eq_zero:=@List.eq_nil_of_length_eq_zero
theorem MM:type_of% @PySem.wpAny_ite_split:=@PySem.wpAny_ite_split
theorem MQ:type_of% @PySem.Heap.size_push:=@PySem.Heap.size_push
theorem MS:type_of% @Int.mul_assoc:=@Int.mul_assoc
theorem MW:type_of% @PySem.wpAny_pyIter_list:=@PySem.wpAny_pyIter_list
theorem MY:type_of% @Int.mul_left_comm:=@Int.mul_left_comm
theorem MZ:type_of% @Int.mul_comm:=@Int.mul_comm
theorem Nb:type_of% @List.length_filter_le:=@List.length_filter_le
theorem Ng:type_of% @List.length_range:=@List.length_range
theorem Nj:type_of% @Int.natAbs_mul:=@Int.natAbs_mul
theorem Nk:type_of% @Int.natAbs_of_nonneg:=@Int.natAbs_of_nonneg
theorem Nq:type_of% @PySem.wpAny_setState_of:=@PySem.wpAny_setState_of
theorem Nr:type_of% @List.Pairwise.map:=@List.Pairwise.map
theorem Nu:type_of% @PySem.codeAny_builtin:=@PySem.codeAny_builtin
theorem Nv:type_of% @Int.mul_ne_zero:=@Int.mul_ne_zero
theorem Ny:type_of% @PySem.Calls.callWith_builtin:=@PySem.Calls.callWith_builtin
theorem Nz:type_of% @Nat.le_mul_of_pos_left:=@Nat.le_mul_of_pos_left
theorem NA:type_of% @Nat.lt_trans:=@Nat.lt_trans
theorem NB:type_of% @Array.getElem?_eq_none:=@Array.getElem?_eq_none
theorem ND:type_of% @Nat.testBit_two_pow_mul_add:=@Nat.testBit_two_pow_mul_add
theorem NG:type_of% @PySem.plainId_quiet:=@PySem.plainId_quiet
theorem NH:type_of% @List.filter_append:=@List.filter_append
theorem NJ:type_of% @Nat.mul_lt_mul'':=@Nat.mul_lt_mul''
theorem NN:type_of% @PySem.wpAny_pyIter_tuple:=@PySem.wpAny_pyIter_tuple
theorem NO:type_of% @beq_iff_eq:=@beq_iff_eq
theorem NQ:type_of% @PySem.F.slot_tuple_iterator_next:=@PySem.F.slot_tuple_iterator_next
theorem NR:type_of% @PySem.wpAny_setField:=@PySem.wpAny_setField
theorem NU:type_of% @Prod.ext:=@Prod.ext
theorem NY:type_of% @PySem.builtinLookup_eq_fast:=@PySem.builtinLookup_eq_fast
theorem N4:type_of% @PySem.wpAny_passesOwn:=@PySem.wpAny_passesOwn
theorem N5:type_of% @List.nodup_cons:=@List.nodup_cons
theorem N6:type_of% @Int.natCast_mul:=@Int.natCast_mul
theorem N_:type_of% @PySem.wpAny_of_eq:=@PySem.wpAny_of_eq
theorem Ob:type_of% @List.take_of_length_le:=@List.take_of_length_le
theorem Oc:type_of% @List.pairwise_map:=@List.pairwise_map
theorem Oj:type_of% @Nat.mul_le_mul_left:=@Nat.mul_le_mul_left
theorem Ol:type_of% @Nat.lt_succ_self:=@Nat.lt_succ_self
theorem On:type_of% @if_false:=@if_false
theorem Oo:type_of% @PySem.wpAny_isInstance:=@PySem.wpAny_isInstance
theorem Op:type_of% @Nat.le_add_right:=@Nat.le_add_right
theorem Ot:type_of% @PySem.wpAny_tryCatch:=@PySem.wpAny_tryCatch
theorem Ou:type_of% @PySem.wpAny_askSetting:=@PySem.wpAny_askSetting
theorem Oy:type_of% @Int.mul_one:=@Int.mul_one
theorem Oz:type_of% @PySem.wpAny_letGo:=@PySem.wpAny_letGo
theorem OC:type_of% @Nat.ne_of_gt:=@Nat.ne_of_gt
theorem OD:type_of% @List.mem_filterMap:=@List.mem_filterMap
theorem OF:type_of% @PySem.Calls.spliced_cons:=@PySem.Calls.spliced_cons
theorem OI:type_of% @PySem.Obj.data_mapFields:=@PySem.Obj.data_mapFields
theorem OK:type_of% @List.reverse_perm:=@List.reverse_perm
theorem OM:type_of% @List.nodup_append:=@List.nodup_append
theorem OP:type_of% @Bool.eq_iff_iff:=@Bool.eq_iff_iff
theorem OQ:type_of% @PySem.wpAny_loadPart':=@PySem.wpAny_loadPart'
theorem OS:type_of% @PyProof.Rows.get?_update_seq:=@PyProof.Rows.get?_update_seq
theorem OT:type_of% @PyProof.Rows.listUpdate_at:=@PyProof.Rows.listUpdate_at
theorem OU:type_of% @PySem.wpAny_newList:=@PySem.wpAny_newList
theorem OY:type_of% @Option.some.injEq:=@Option.some.injEq
theorem OZ:type_of% @Nat.lt_succ_of_lt:=@Nat.lt_succ_of_lt
theorem Pb:type_of% @List.filter_cons:=@List.filter_cons
theorem Pc:type_of% @Int.add_mul:=@Int.add_mul
theorem Pi:type_of% @Nat.le_of_lt:=@Nat.le_of_lt
theorem Pq:type_of% @List.ext_getElem?:=@List.ext_getElem?
theorem Pr:type_of% @Int.zero_add:=@Int.zero_add
theorem Pu:type_of% @PySem.W.mg_of:=@PySem.W.mg_of
theorem Px:type_of% @if_true:=@if_true
theorem PF:type_of% @PySem.wpAny_rule:=@PySem.wpAny_rule
theorem PH:type_of% @List.find?_cons:=@List.find?_cons
theorem PJ:type_of% @Sum.inl.inj:=@Sum.inl.inj
theorem PR:type_of% @List.getElem_mem:=@List.getElem_mem
theorem PU:type_of% @List.nodup_nil:=@List.nodup_nil
theorem P7:type_of% @not_or:=@not_or
namespace L2
open PySem PySem.Spec PyProof.Rows
variable {us:List Value}{x name qual:Str}{u:Value}{a it C dx:Addr}{P:Program}{h h':Heap}{α:Type}{e c tg l:Expr}{pins:List (Addr×Obj)}{s s':Shared}{g':Array GenState}{t' j n:Nat}{d':Drawn}{ch fp:List Addr}{M:Model}{E Q:Value->Shared->Prop}{pos pos' p:Pos}{op:CmpOp}{f:Value->Value->Sem Value}{es:List Expr}{g:Int->Int->Int}{body:List Stmt}{R:Result->Shared->Prop}{lo:Int}{mA:Str->Option Value}{kw:List (Str×Value)}{fd:FuncData}{ps:List Str}{kindOf:Str->Option NameKind}{scope:Scope}
abbrev Key:=Sum Int Str
def iF:Key->Value->Bool
 |.inl k,v=>Value.isInt k v
 |.inr x,v=>Value.isStrOf x v
def keyH(w:World):Key->Int
 |.inl k=>hashInt k
 |.inr x=>hashStr w x
theorem aU:∀{k:Key} {v:Value},iF k v=true->(∃i t,k=Sum.inl i/\v=Value.int i t)\/(∃x t,k=Sum.inr x/\v=Value.str x t)
 |.inl i,v,h=>by
  let#[t,e]:=Value.isInt_shape (k:=i) (v:=v) h;rwa[.inl #[21,i,t,1,e]]
 |.inr x,v,h=>by
  let#[t,e]:=Value.isStrOf_shape (x:=x) (v:=v) h;rwa[.inr #[21,x,t,1,e]]
theorem vQ(i:Int)(t:Tok):iF (.inl i) (.int i t)=true:=by simp[iF,Value.isInt]
theorem vi(x:Str)(t:Tok):iF (.inr x) (.str x t)=true:=by simp[iF,Value.isStrOf]
theorem DW(a b:Int):decide ((Sum.inl a:Key)=Sum.inl b)=(a==b):=by
 by_cases e:a=b
 ·subst e;simp
 ·have h:¬(Sum.inl a:Key)=Sum.inl b:=λq=>e (PJ q)
  rw[Gx h];exact(Mw.mpr e).symm
theorem CP(a b:Str):decide ((Sum.inr a:Key)=Sum.inr b)=decide (a=b):=by
 by_cases e:a=b
 ·subst e;simp
 ·have h:¬(Sum.inr a:Key)=Sum.inr b:=λq=>e (Sum.inr.inj q)
  rw[Gx h,Gx e]
theorem C7(a:Int)(b:Str):decide ((Sum.inl a:Key)=Sum.inr b)=false:=Gx (λq=>nomatch q)
theorem C2(a:Str)(b:Int):decide ((Sum.inr a:Key)=Sum.inl b)=false:=Gx (λq=>nomatch q)
def aH(prog:Program)(w:World):PySem.KeyKind prog w Key where
 is:=iF
 hash:=keyH w
 inj:=λv a b ha hb=>by
  rcases aU ha with⟨i,t,rfl,rfl⟩|⟨x,t,rfl,rfl⟩
  ·rcases aU hb with⟨j,u,rfl,e⟩|⟨y,u,rfl,e⟩
   ·injection e with e1 _;rw[e1]
   ·rwa[nomatch e]
  ·rcases aU hb with⟨j,u,rfl,e⟩|⟨y,u,rfl,e⟩
   ·rwa[nomatch e]
   ·injection e with e1 _;rw[e1]
 byValue:=λk v h=>by
  rcases aU h with⟨i,t,rfl,rfl⟩|⟨x,t,rfl,rfl⟩<;>rfl
 pyHash:=λhv h=>by
  rcases aU hv with⟨i,t,rfl,rfl⟩|⟨x,t,rfl,rfl⟩
  ·rwa[wpAny_pyHash_int h]
  ·rwa[wpAny_pyHash_str h]
 eqBool:=λhu hv h=>by
  rcases aU hu with⟨i,t,rfl,rfl⟩|⟨x,t,rfl,rfl⟩
  ·rcases aU hv with⟨j,u,rfl,rfl⟩|⟨y,u,rfl,rfl⟩
   ·rw[DW] at h;rwa[wpAny_eqBool_int h]
   ·rw[C7] at h;rwa[SeqAt.EqAt.int_str i t y u _ _ _ _ h]
  ·rcases aU hv with⟨j,u,rfl,rfl⟩|⟨y,u,rfl,rfl⟩
   ·rw[C2] at h;rwa[SeqAt.EqAt.str_int x t j u _ _ _ _ h]
   ·rw[CP] at h;rwa[wpAny_eqBool_str h]
 «strs»:=λk x t v h=>by
  rcases aU h with⟨i,u,rfl,e⟩|⟨y,u,rfl,e⟩
  ·rwa[nomatch e]
  ·injection e with e1 _
   subst e1;cases v<;>rfl
theorem rG(prog:Program)(w:World)(k:Key)(v:Value):(aH prog w).is k v=iF k v:=rfl
theorem qh(prog:Program)(w:World)(i:Int)(t:Tok):(aH prog w).is (.inl i) (.int i t)=true:=vQ i t
theorem qL(prog:Program)(w:World)(x:Str)(t:Tok):(aH prog w).is (.inr x) (.str x t)=true:=vi x t
inductive V where
 |non|bl (b:Bool)|int (i:Int)|str (x:Str)|byt (b:Array UInt8)|flt (b:UInt64)|ref (a:Addr)|ty (n:String)
 deriving DecidableEq
variable {xs vs:List V}{v y:V}
def Fy:V->Value->Prop
 |.non,u=>u=Value.none
 |.bl b,u=>u=Value.bool b
 |.int i,u=>∃t,u=Value.int i t
 |.str x,u=>∃t,u=Value.str x t
 |.byt b,u=>∃t,u=Value.bytes b t
 |.flt b,u=>∃t,u=Value.float b t
 |.ref a,u=>u=Value.ref a
 |.ty n,u=>u=Value.type n
abbrev Fw:List V->List Value->Prop:=Paired Fy
theorem Fw.length(r:Fw xs us):xs.length=us.length:=Paired.length r
theorem Fw.get:∀{xs:List V} {us:List Value} {i:Nat} {x:V},Fw xs us->xs[i]? = some x->∃u,us[i]? = some u/\Fy x u
 |_,_,_,_,.nil,e=>by simp at e
 |_,_,0,_,.cons r _,e=>by simp at e;subst e;rwa[0,r]
 |_,_,i+1,x,.cons _ t,e=>by
  let#[u,h1,h2]:=Fw.get (i:=i) (x:=x) t (by simpa using e)
  rwa[u,by simpa using h1,h2]
theorem Fw.set{x:V}(r:Fy x u):∀{xs:List V} {us:List Value} (i:Nat),Fw xs us->Fw (xs.set i x) (us.set i u)
 |_,_,_,.nil=>.nil
 |_,_,0,.cons _ t=>.cons r t
 |_,_,i+1,.cons q t=>.cons q (Fw.set r i t)
theorem Fw.append:∀{xs ys:List V} {us ws:List Value},Fw xs us->Fw ys ws->Fw (xs++ys) (us++ws)
 |_,_,_,_,.nil,s=>s
 |_,_,_,_,.cons r t,s=>.cons r (Fw.append t s)
theorem Fw.take:∀{xs:List V} {us:List Value} (n:Nat),Fw xs us->Fw (xs.take n) (us.take n)
 |_,_,0,_=>.nil
 |_,_,_+1,.nil=>.nil
 |_,_,n+1,.cons r t=>.cons r (Fw.take n t)
theorem Fw.drop:∀{xs:List V} {us:List Value} (n:Nat),Fw xs us->Fw (xs.drop n) (us.drop n)
 |_,_,0,r=>r
 |_,_,_+1,.nil=>.nil
 |_,_,n+1,.cons _ t=>Fw.drop n t
def F9:Option V->Option Value->Prop
 |some v,some u=>Fy v u
 |none,none=>True
 |_,_=>False
def KV{κ:Type}:List (κ×V)->List (κ×Value)->Prop:=Paired λ(p:κ×V) (q:κ×Value)=>p.1=q.1/\Fy p.2 q.2
def kV:Key->V
 |.inl i=>.int i
 |.inr x=>.str x
inductive HO where
 |lst (xs:List V)
 |tup (xs:List V)
 |dK (kvs:List (Key×V))|dT (kvs:List (List Key×V))
 |set (S:Int->Bool) (n:Nat)
 |ins (C dx:Addr) (fs:List (Str×V))
 |own (x:Addr)
 |xd (fs:List (Str×V))
 |met (f x:Addr)
 |rng (lo hi:Int)
 |frz (o:Obj) (u:HO)
 |tbl (ps:Array Value)
 |ext (φ:Heap->Prop)
abbrev Hp:=Addr->Option HO
variable {H H':Hp}
def upd(H:Hp)(a:Addr)(o:HO):Hp:=λb=>if b=a then some o else H b
theorem ae{o:HO}:upd H a o a=some o:=by unfold upd;rw[u_ rfl]
theorem al{b:Addr}{o:HO}(h:b≠a):upd H a o b=H b:=by unfold upd;rw[t_ h]
theorem fA{o u:HO}:upd (upd H a o) a u=upd H a u:=by
 funext b;unfold upd;split<;>rfl
theorem aw{b:Addr}{o u:HO}(h:H a=some o)(h':H b=some u)(d:o≠u):a≠b:=by
 intro e;subst e;rw[h] at h';rwa[d (G_ h')]
theorem ah{b:Addr}{o:HO}(h:H a=some o)(h':H b=none):a≠b:=by
 intro e;subst e;rw[h] at h';cases h'
section
variable (P:Program)(w:World)
def FC(H:Hp)(h:Heap)(a:Addr):HO->Prop
 |.lst xs=>xs.length<=sizeLine/\∃(its:List Value) (n:Nat),Fw xs its/\h.get? a=some { cls:=.type "list",data:=.seq its.toArray n }
 |.tup xs=>xs.length<=sizeLine/\∃its:List Value,Fw xs its/\IsTup h a its.toArray
 |.dK kvs=>kvs.length<=sizeLine/\(a==sysModules)=false/\∃vs,KV kvs vs/\h.DictOf (aH P w) a vs
 |.dT kvs=>kvs.length<=sizeLine/\(a==sysModules)=false/\∃xs:List (List Key×Addr×Value),
   Paired (λ(p:List Key×V) (q:List Key×Addr×Value)=>p.1=q.1/\H q.2.1=some (.tup (p.1.map kV))/\Fy p.2 q.2.2) kvs xs/\
   ∃o es ep,h.get? a=some o/\o.ExactDict/\o.data=.dict es ep/\es.toList=xs.map (entryOfKey (tupleKind (aH P w)))/\(xs.map (·.1)).Nodup
 |.set S n=>h.SetOf (intKind P w) a S n
 |.ins C dx fs=>H dx=some (.own a)/\fs.length<=1000/\dx≠a/\h.get? a=some (instObj C dx)/\
   ∃mA,h.Ns1 dx mA/\(∀f,F9 (fs.lookup f) (mA f))/\PySem.Within mA (fs.map (·.1))
 |.own _=>∃o,h.get? a=some o
 |.xd fs=>∃mA,h.Ns1 a mA/\∀f,F9 (fs.lookup f) (mA f)
 |.rng lo hi=>∃t u v,h.get? a=some { cls:=.type "range",data:=.fields (List.toArray [.int lo t,.int hi u,.int 1 v]) }
 |.frz o u=>h.get? a=some o/\FC H h a u
 |.tbl ps=>h.get? a=some { cls:=.none,data:=.fields ps }
 |.met f x=>h.get? a=some (PySem.W.methodObj (.ref f) (.ref x))
 |.ext φ=>φ h/\(∃o,h.get? a=some o)/\∀h1 h2:Heap,φ h1->(∀o,h1.get? a=some o->h2.get? a=some o)->φ h2
def HOk(H:Hp)(h:Heap):Prop:=∀a o,H a=some o->FC P w H h a o
end
section
variable {w:World}{o:HO}
theorem FC.lt(x:FC P w H h a o):a<h.objs.size:=by
 cases o with
 |lst xs=>let#[_,_,_,_,e]:=x;rwa[GP e]
 |tup xs=>let#[_,_,_,p]:=x;rwa[p.lt]
 |dK kvs=>let#[_,_,_,_,o,_,_,e,_]:=x;rwa[GP e]
 |dT kvs=>let#[_,_,_,_,o,_,_,e,_]:=x;rwa[GP e]
 |set S n=>let#[o,_,_,_,e,_]:=x;rwa[GP e]
 |ins C dx fs=>let#[_,_,_,e,_]:=x;rwa[GP e]
 |own y=>let#[_,e]:=x;rwa[GP e]
 |xd fs=>let#[_,#[_,_,_,e,_],_]:=x;rwa[GP e]
 |rng lo hi=>let#[_,_,_,e]:=x;rwa[GP e]
 |frz ob u=>let#[e,_]:=x;rwa[GP e]
 |tbl ps=>rwa[GP (show h.get? a=some _ from x)]
 |met f y=>rwa[GP (show h.get? a=some _ from x)]
 |ext φ=>let#[_,#[_,e],_]:=x;rwa[GP e]
theorem Paired.mapP{β:Type}{F G:α->β->Prop}:∀{l₁:List α} {l₂:List β},Paired F l₁ l₂->(∀a b,F a b->G a b)->Paired G l₁ l₂
 |_,_,.nil,_=>.nil
 |_,_,.cons r t,f=>.cons (f _ _ r) (Paired.mapP t f)
theorem FC.stay(x:FC P w H h a o)(k:∀b u,(b=a\/H b=some (.own a))->h.get? b=some u->h'.get? b=some u)(ho:∀b,H b=some (.own a)->H' b=some (.own a))(ht:∀b xs,H b=some (.tup xs)->H' b=some (.tup xs)):FC P w H' h' a o:=by
 induction o with
 |lst xs=>let#[z,its,n,r,e]:=x;rwa[0121,z,its,n,r,k _ _ (.inl rfl) e]
 |tup xs=>let#[z,its,r,ob,e,c]:=x;rwa[0151,z,its,r,ob,k _ _ (.inl rfl) e,c]
 |dK kvs=>let#[z,y,vs,r,ob,es,ep,e,c]:=x;rwa[0271,z,y,vs,r,ob,es,ep,k _ _ (.inl rfl) e,c]
 |dT kvs=>
  let#[z,y,xs,r,ob,es,ep,e,c]:=x;rwa[0271,z,y,xs,Paired.mapP r λp q z=>#[z.1,ht _ _ z.2.1,z.2.2],ob,es,ep,k _ _ (.inl rfl) e,c]
 |set S n=>let#[ob,es,ep,t,e,c]:=x;rwa[41,ob,es,ep,t,k _ _ (.inl rfl) e,c]
 |ins C dx fs=>
  let#[d,z,ne,e,mA,#[od,es,ep,e2,c],r]:=x;rwa[ho _ d,z,ne,k _ _ (.inl rfl) e,mA,#[31,od,es,ep,k _ _ (.inr d) e2,c],r]
 |own y=>let#[ob,e]:=x;rwa[ob,k _ _ (.inl rfl) e]
 |xd fs=>let#[mA,#[od,es,ep,e,c],r]:=x;rwa[mA,#[31,od,es,ep,k _ _ (.inl rfl) e,c],r]
 |rng lo hi=>let#[t,u,v,e]:=x;rwa[30,t,u,v,k _ _ (.inl rfl) e]
 |frz ob u ih=>let#[e,q]:=x;rwa[k _ _ (.inl rfl) e,ih q]
 |tbl ps=>
  have e:h.get? a=some { cls:=.none,data:=.fields ps }:=x;show h'.get? a=some { cls:=.none,data:=.fields ps }
  rwa[k a _ (.inl rfl) e]
 |met f y=>
  have e:h.get? a=some (PySem.W.methodObj (.ref f) (.ref y)):=x;show h'.get? a=some (PySem.W.methodObj (.ref f) (.ref y));rwa[k a _ (.inl rfl) e]
 |ext φ=>let#[p,#[o,e],st]:=x;rwa[st _ _ p λo q=>k _ _ (.inl rfl) q,#[o,k _ _ (.inl rfl) e],st]
theorem HOk.lt(x:HOk P w H h)(e:H a=some o):a<h.objs.size:=(x a o e).lt
theorem HOk.fresh(x:HOk P w H h)(e:h.objs.size<=a):H a=none:=by
 cases q:H a with
 |none=>rfl
 |some u=>rwa[absurd (GS (x.lt q) e) (Lk _)]
theorem HOk.kept(x:HOk P w H h)(k:∀b u,h.get? b=some u->h'.get? b=some u):HOk P w H h':=λa o e=>
 (x a o e).stay (λb u _ q=>k b u q) (λ_ q=>q) λ_ _ q=>q
theorem HOk.laid(x:HOk P w H h)(k:∀b u,h.get? b=some u->h'.get? b=some u)(hp:h.objs.size<=a)(new:FC P w (upd H a o) h' a o):HOk P w (upd H a o) h':=λb u e=>by
 have U:=x.fresh hp
 by_cases O:b=a
 ·subst O;rw[ae] at e;cases e;rwa[new]
 ·rw[al O] at e;exact(x b u e).stay (λc v _ q=>k c v q) (λc q=>by rw[al (ah q U)];rwa[q]) λc xs q=>by rw[al (ah q U)];rwa[q]
end
def Rd(H:Hp)(a:Addr)(u:HO):Prop:=H a=some u\/∃o,H a=some (.frz o u)
theorem Rd.ok{w:World}{u:HO}(r:Rd H a u)(x:HOk P w H h):FC P w H h a u:=by
 rcases r with r|⟨o,r⟩
 ·rwa[x a u r]
 ·let#[_,q]:=x a _ r;rwa[q]
def Mut:Option HO->Prop
 |some (.lst _)=>True
 |some (.dK _)=>True
 |some (.dT _)=>True
 |some (.set _ _)=>True
 |some (.ins _ _ _)=>True
 |some (.ext _)=>True
 |_=>False
section
variable {w:World}{x e:Addr}{o':HO}
theorem HOk.write(ok:HOk P w H h)(mu:Mut (H x))(he:e=x\/H e=some (.own x))(k:∀b u,b≠e->h.get? b=some u->h'.get? b=some u)(heo:∃u,h'.get? e=some u)(new:FC P w (upd H x o') h' x o'):HOk P w (upd H x o') h':=λb u q=>by
 have U:∀c y,H c=some (.own y)->c≠x:=λc y r z=>by subst z;rw[r] at mu;rwa[mu]
 have Y:∀c xs,H c=some (.tup xs)->c≠x:=λc xs r z=>by subst z;rw[r] at mu;rwa[mu]
 by_cases Z:b=x
 ·subst Z;rw[ae] at q;cases q;rwa[new]
 ·rw[al Z] at q
  by_cases O:b=e
  ·have q':H b=some (.own x):=by
    rcases he with z|z
    ·rwa[absurd (O.trans z) Z]
    ·rw[O];rwa[z]
   rw[q] at q';cases q';let#[v,hv]:=heo;rwa[v,by rw[O];rwa[hv]]
  ·refine(ok b u q).stay (λc v hc r=>k c v ?_ r) (λc r=>by rw[al (U c b r)];rwa[r]) λc xs r=>by rw[al (Y c xs r)];rwa[r]
   rcases hc with rfl|hc
   ·rwa[O]
   ·rintro rfl
    rcases he with z|z
    ·rwa[U c b hc z]
    ·rw[hc] at z;cases z;rwa[Z rfl]
end
structure Un (fs ex:List Addr) (H H':Hp) (h h':Heap):Prop where
 keep:∀b o,h.get? b=some o->H b=none->b∉fs->b∉ex->h'.get? b=some o
 slot:∀b o,h.get? b=some o->H b=none->b∈fs->b∉ex->∃sl,h'.get? b=some { o with slots:=sl }
 free:∀b o,h.get? b=some o->H b=none->b∉ex->H' b=none
 there:∀b o,h.get? b=some o->b∉ex->∃o',h'.get? b=some o'
 tups:∀b xs,H b=some (.tup xs)->H' b=some (.tup xs)
 frzs:∀b o u,H b=some (.frz o u)->H' b=some (.frz o u)
 tbls:∀b ps,H b=some (.tbl ps)->∃more,H' b=some (.tbl (ps++more))
section
variable {fs fs' ex ex':List Addr}{H1 H2:Hp}{h1 h2:Heap}{x e:Addr}{o:HO}
theorem Un.any(u:Un fs ex H H1 h h1){b:Addr}{ob:Obj}(q:h.get? b=some ob)(n:H b=none)(hx:b∉ex):∃sl,h1.get? b=some { ob with slots:=sl }:=by
 by_cases O:b∈fs
 ·rwa[u.slot b ob q n O hx]
 ·rwa[ob.slots,u.keep b ob q n O hx]
theorem Un.kept(k:∀b u,h.get? b=some u->h'.get? b=some u):Un fs ex H H h h':=
 #[λb ob q _ _ _=>k b ob q,λb ob q _ _ _=>#[ob.slots,k b ob q],λ_ _ _ n _=>n,λb ob q _=>#[ob,k b ob q],λ_ _ q=>q,λ_ _ _ q=>q,λ_ ps q=>#[(List.toArray []),by rw[q];simp]]
theorem Un.refl:Un fs ex H H h h:=Un.kept λ_ _ q=>q
theorem Un.laid(k:∀b u,h.get? b=some u->h'.get? b=some u)(hp:h.objs.size<=a)(hn:H a=none):Un fs ex H (upd H a o) h h' where
 keep:=λb u q _ _ _=>k b u q
 slot:=λb u q _ _ _=>#[u.slots,k b u q]
 free:=λb u q n _=>by rw[al (GA (GS (GP q) hp))];rwa[n]
 there:=λb u q _=>#[u,k b u q]
 tups:=λb xs q=>by rw[al (ah q hn)];rwa[q]
 frzs:=λb u xs q=>by rw[al (ah q hn)];rwa[q]
 tbls:=λb ps q=>#[(List.toArray []),by rw[al (ah q hn),q];simp]
theorem Un.write(mu:Mut (H x))(he:e=x\/H e=some (.own x))(k:∀b u,b≠e->h.get? b=some u->h'.get? b=some u)(heo:∃u,h'.get? e=some u):Un fs ex H (upd H x o) h h':=by
 have Z:∀b,H b=none->b≠x:=λb n z=>by subst z;rw[n] at mu;rwa[mu]
 have Y:∀b,H b=none->b≠e:=λb n z=>by
  subst z
  rcases he with r|r
  ·rwa[Z b n r]
  ·rw[n] at r;cases r
 have U:∀b u,H b=some u->¬Mut (some u)->b≠x:=λb u q nm z=>by subst z;rw[q] at mu;rwa[nm mu]
 erw[λb u q n _ _=>k b u (Y b n) q,λb u q n _ _=>#[u.slots,k b u (Y b n) q],λb u q n _=>by rw[al (Z b n)];rwa[n],λb u q _=>?_,
  λb xs q=>by rw[al (U b _ q λz=>z)];rwa[q],λb u xs q=>by rw[al (U b _ q λz=>z)];rwa[q],λb ps q=>#[(List.toArray []),by rw[al (U b _ q λz=>z),q];simp]]
 by_cases O:b=e
 ·subst O;rwa[heo]
 ·rwa[u,k b u O q]
end
def trk(h:Heap)(H:Hp):List Addr:=(List.range h.objs.size).filter λa=>(H a).isSome
def lI(h:Heap)(H:Hp):Heap:=PySem.W.hideAll h (trk h H)
theorem vC(h:Heap)(H:Hp):(lI h H).objs.size=h.objs.size:=PySem.W.hideAll_size _ _
theorem xY{b:Addr}{o:Obj}(e:h.get? b=some o)(n:H b=none):(lI h H).get? b=some o:=
 hideAll_get _ e λO=>by
  have q:(H b).isSome=true:=(LM.mp O).2;rw[n] at q;simp at q
theorem A9{b:Addr}{o:Obj}(e:(lI h H).get? b=some o):h.get? b=some o/\H b=none:=by
 have O:h.get? b=some o:=PySem.W.of_hideAll (trk h H) e;erw[O,?_];cases q:H b with
 |none=>rfl
 |some x=>
  have U:b∈trk h H:=LM.mpr #[ME.mpr (GP O),by simp[q]]
  have z:(lI h H).get? b=none:=PySem.W.hideAll_none (trk h H) U;rw[z] at e;cases e
structure Mod (K:Frag) (mg:Str->Option Value) (base:Heap):Prop where
 kin:K.In base
 glob:base.Ns mainGlobals mg
 blt:∃mb,base.Ns builtinsNs mb/\∀x:Str,x≠"__name__"->mb x=bootBuiltins x
 nolimit:base.NoLimit
structure Cx where
 prog:Program
 w:World
 K:Frag
 mg:Str->Option Value
 base:Heap
 A:Around
 N:List Str
 s₀:Shared
 H₀:Hp
 env:Env
 outer:List Env
 stack:List Env
 ex:List Addr
 fn:Str->Bool
 calm:Bool
 pn:List (Addr×Obj)
 xe:Value->Shared->Prop
variable {X:Cx}
def frs(l:List Env):List Addr:=l.filterMap (·.frame)
abbrev Cx.fs(X:Cx):List Addr:=frs X.outer
def Vis(sc:Scope)(x:Str):Prop:=sc.names.lookup x=some .local\/sc.names.lookup x=some .cell\/sc.names.lookup x=some .free
def Loc(sc:Scope)(x:Str):Prop:=sc.names.lookup x=some .local\/sc.names.lookup x=some .cell
def Look(env:Env)(h:Heap)(m:Str->Option Value)(x:Str)(u:Value):Prop:=
 (env.kindOf x=some .local/\m x=some u)\/((env.kindOf x=some .cell\/env.kindOf x=some .free)/\∃c,env.cells.lookup x=some c/\h.IsCell c (some u))
structure Cx.Ok (X:Cx):Prop where
 mod:Mod X.K X.mg X.base
 kind:X.env.scope.kind=.function
 glob:X.env.globals=mainGlobals
 blt:X.env.builtins=builtinsNs
 above:X.s₀.heap.objs.size<=X.env.locals
 inj:∀x y c,X.env.cells.lookup x=some c->X.env.cells.lookup y=some c->x=y
 has:∀x,(X.env.kindOf x=some .cell\/X.env.kindOf x=some .free)->∃c,X.env.cells.lookup x=some c
 cab:∀x c,X.fn x=true->X.env.cells.lookup x=some c->X.s₀.heap.objs.size<=c
 hd:X.calm=true->X.A.handled=none
 frames:X.A.frames=some X.stack
 stk:X.stack=X.outer\/(X.stack=X.env::X.outer/\X.env.frame=some X.env.locals)
 exf:∀b∈X.ex,b≠X.env.locals/\∀x c,X.env.cells.lookup x=some c->c≠b
 bs:∀b o,X.base.get? b=some o->X.s₀.heap.get? b=some o/\X.H₀ b=none
 bsz:X.base.objs.size<=X.s₀.heap.objs.size
 noex:∀b o,X.base.get? b=some o->b∉X.ex
 exfs:∀b∈X.ex,b∉X.fs
 funs:X.s₀.heap.FunFrames X.base X.outer
 frf:∀b∈X.fs,X.H₀ b=none
structure Inv (X:Cx) (pins:List (Addr×Obj)) (σ:List (Option V)) (H:Hp) (s:Shared):Prop where
 ok:X.Ok
 os:s.os=X.s₀.os
 bare:AllBare s.gens
 base:Un X.fs X.ex X.H₀ H X.s₀.heap s.heap
 loc:∃m,s.heap.Ns X.env.locals m/\∀(i:Nat) (x:Str) (v:V),X.N[i]? = some x->σ[i]? = some (some v)->Vis X.env.scope x->∃u,Fy v u/\Look X.env s.heap m x u
 cell:∀x c,X.env.cells.lookup x=some c->∃v,s.heap.IsCell c v
 free:H X.env.locals=none
 freeC:∀x c,X.env.cells.lookup x=some c->H c=none
 pin:∀p∈X.pn++pins,s.heap.get? p.1=some p.2/\H p.1=none/\p.1≠X.env.locals/\p.1∉X.fs/\∀v,p.2.data≠.cell v
 hok:HOk X.prog X.w H s.heap
 len:σ.length=X.N.length
section
variable {σ:List (Option V)}
theorem Cx.Ok.nofr(ok:X.Ok){b:Addr}{o:Obj}(e:X.base.get? b=some o):b∉X.fs:=λO=>by
 have:=(ok.funs.mem O).1;rw[e] at this;cases this
theorem Inv.bs(I:Inv X pins σ H s):∀b o,X.base.get? b=some o->s.heap.get? b=some o/\H b=none:=λb o e=>
 #[I.base.keep b o (I.ok.bs b o e).1 (I.ok.bs b o e).2 (I.ok.nofr e) (I.ok.noex b o e),I.base.free b o (I.ok.bs b o e).1 (I.ok.bs b o e).2 (I.ok.noex b o e)]
theorem Inv.bk(I:Inv X pins σ H s):∀b o,X.base.get? b=some o->s.heap.get? b=some o:=λb o e=>(I.bs b o e).1
theorem Inv.mod(I:Inv X pins σ H s):Mod X.K X.mg X.base:=I.ok.mod
theorem Inv.kIn(I:Inv X pins σ H s):X.K.In s.heap:=I.ok.mod.kin.keeps I.bk
theorem Inv.lt(I:Inv X pins σ H s):X.env.locals<s.heap.objs.size:=let ⟨_,hn,_⟩:=I.loc;hn.lt
theorem Inv.sz(I:Inv X pins σ H s):X.s₀.heap.objs.size<=s.heap.objs.size:=Lg I.ok.above (Pi I.lt)
theorem Inv.nofs(I:Inv X pins σ H s)(h:s.heap.objs.size<=a):a∉X.fs:=λO=>by
 let#[_,o,U,_]:=I.ok.funs.mem O;rwa[absurd (GS (GP U) (Lg I.sz h)) (Lk _)]
theorem Inv.cne(I:Inv X pins σ H s):∀x c,X.env.cells.lookup x=some c->c≠X.env.locals:=λx c e z=>by
 let#[v,o,Y,hd]:=I.cell x c e;let#[m,#[o',es,ep,U,O,_],_]:=I.loc;rw[z,U] at Y;cases Y;rw[O] at hd;cases hd
theorem Inv.funs(I:Inv X pins σ H s):s.heap.FunFrames X.base X.outer:=by
 have all:∀(l:List Env),(∀b∈frs l,b∈X.fs)->X.s₀.heap.FunFrames X.base l->s.heap.FunFrames X.base l:=by
  intro l
  induction l with
  |nil=>intro _ _;trivial
  |cons env r ih=>
   intro Z hl;let#[hk,#[L,o,Y,hn,ho,hd],hr]:=hl;have O:L∈X.fs:=Z L (by unfold frs;rw[filterMap_cons,Y];rwa[KQ])
   let#[sl,e]:=I.base.slot L o ho (I.ok.frf L O) O λz=>I.ok.exfs L z O
   rwa[hk,#[23,L,_,Y,hn,e,hd],ih (λb U=>Z b (by unfold frs;rw[filterMap_cons,Y];rwa[GG _ U])) hr]
 rwa[all X.outer (λ_ U=>U) I.ok.funs]
theorem Inv.stack(I:Inv X pins σ H s):s.heap.FunFrames X.base X.stack:=by
 rcases I.ok.stk with e|⟨e,O⟩
 ·rw[e];rwa[I.funs]
 ·rw[e];let#[m,U,_]:=I.loc;erw[.cons (by rw[I.ok.kind];decide) O U ?_ I.funs]
  rwa[Heap.get?_none_of_le (Lg I.ok.bsz I.ok.above)]
theorem Inv.stkSub(I:Inv X pins σ H s):∀b∈frs X.stack,b∈X.env.locals::X.fs:=λb O=>by
 rcases I.ok.stk with e|⟨e,U⟩
 ·rw[e] at O;rwa[GG _ O]
 ·rw[e] at O;unfold frs at O;rw[filterMap_cons,U] at O;rwa[O]
theorem Inv.stkFree(I:Inv X pins σ H s):∀b∈frs X.stack,H b=none:=λb O=>by
 rcases GH.mp (I.stkSub b O) with e|O
 ·rw[e];rwa[I.free]
 ·let#[_,o,U,_]:=I.ok.funs.mem O;rwa[I.base.free b o U (I.ok.frf b O) λz=>I.ok.exfs b z O]
theorem Inv.step(I:Inv X pins σ H s)(hch:∀b∈ch,(b∈X.ex\/X.s₀.heap.objs.size<=b)/\b≠X.env.locals/\(∀x c,X.env.cells.lookup x=some c->c≠b)/\∀p∈X.pn++pins,p.1≠b)(keep:∀b o,b≠X.env.locals->b∉X.fs->b∉ch->s.heap.get? b=some o->H b=none->h'.get? b=some o)(slot:∀b o,b≠X.env.locals->b∈X.fs->b∉ch->s.heap.get? b=some o->H b=none->∃sl,h'.get? b=some { o with slots:=sl })(free:∀b o,b∉ch->s.heap.get? b=some o->H b=none->H' b=none)(there:∀b o,b∉ch->s.heap.get? b=some o->∃o',h'.get? b=some o')(tups:∀b xs,H b=some (.tup xs)->H' b=some (.tup xs))(frzs:∀b o u,H b=some (.frz o u)->H' b=some (.frz o u))(tbls:∀b ps,H b=some (.tbl ps)->∃more,H' b=some (.tbl (ps++more)))(ns:∀m,s.heap.Ns X.env.locals m->h'.Ns X.env.locals m)(hok:HOk X.prog X.w H' h')(hg:AllBare g'):
  Inv X pins σ H' { s with heap:=h',gens:=g',drawn:=d',toks:=t' }:=by
 have a7:∀b o,X.s₀.heap.get? b=some o->b≠X.env.locals:=λb o e=>GA (GS (GP e) I.ok.above)
 have a6:∀b o,X.s₀.heap.get? b=some o->b∉X.ex->b∉ch:=λb o e O hb=>by
  rcases(hch b hb).1 with z|z
  ·rwa[O z]
  ·rwa[absurd (GS (GP e) z) (Lk _)]
 have U:∀x c,X.env.cells.lookup x=some c->∀v,s.heap.IsCell c v->h'.IsCell c v:=λx c e v ⟨o,ho,hd⟩=>by
  have Y:c∉ch:=λz=>(hch c z).2.2.1 x c e rfl
  by_cases hc:c∈X.fs
  ·let#[sl,q]:=slot c o (I.cne x c e) hc Y ho (I.freeC x c e);rwa[_,q,hd]
  ·rwa[o,keep c o (I.cne x c e) hc Y ho (I.freeC x c e),hd]
 erw[I.ok,I.os,hg,#[λb o e n hb O=>?_,λb o e n hb O=>?_,λb o e n O=>?_,λb o e O=>?_,λb xs e=>tups b xs (I.base.tups b xs e),λb o xs e=>frzs b o xs (I.base.frzs b o xs e),λb ps e=>?_],?_,λx c e=>?_,?_,λx c e=>?_,λp hp=>?_,hok,I.len]
 ·rwa[keep b o (a7 b o e) hb (a6 b o e O) (I.base.keep b o e n hb O) (I.base.free b o e n O)]
 ·let#[sl,Z]:=I.base.slot b o e n hb O;let#[a8,e2]:=slot b _ (a7 b o e) hb (a6 b o e O) Z (I.base.free b o e n O);rwa[a8,e2]
 ·let#[o',Z]:=I.base.there b o e O;rwa[free b o' (a6 b o e O) Z (I.base.free b o e n O)]
 ·let#[o',Z]:=I.base.there b o e O;rwa[there b o' (a6 b o e O) Z]
 ·let#[m1,Z]:=I.base.tbls b ps e;let#[m2,e2]:=tbls b _ Z;rwa[m1++m2,by rw[e2,Array.append_assoc]]
 ·let#[m,hn,hl]:=I.loc;erw[m,ns m hn,λi x v Z e2 e3=>?_]
  let#[u,r,l]:=hl i x v Z e2 e3;erw[u,r,?_]
  rcases l with l|⟨k,c,e,z⟩
  ·rwa[.inl l]
  ·rwa[.inr #[k,c,e,U x c e _ z]]
 ·let#[v,z]:=I.cell x c e;rwa[v,U x c e v z]
 ·let#[m,#[o,_,_,ho,_],_]:=I.loc;rwa[free _ o (λz=>(hch _ z).2.1 rfl) ho I.free]
 ·let#[v,o,ho,hd]:=I.cell x c e;rwa[free c o (λz=>(hch c z).2.2.1 x c e rfl) ho (I.freeC x c e)]
 ·let#[e,n,ne,nf,d]:=I.pin p hp;have Y:p.1∉ch:=λz=>(hch p.1 z).2.2.2 p hp rfl
  rwa[keep p.1 p.2 ne nf Y e n,free p.1 p.2 Y e n,ne,nf,d]
theorem Inv.un(I:Inv X pins σ H s)(u:Un X.fs [] H H' s.heap h')(hok:HOk X.prog X.w H' h'):Inv X pins σ H' { s with heap:=h',toks:=t' }:=by
 let#[m,#[o,es,ep,ho,r],_]:=id I.loc;let#[sl,hL]:=u.any ho I.free (by simp)
 rwa[I.step (g':=s.gens) (d':=s.drawn) (ch:=[]) (λ_ z=>nomatch z) (λb o _ Z _ e n=>u.keep b o e n Z (by simp)) (λb o _ Z _ e n=>u.slot b o e n Z (by simp)) (λb o _ e n=>u.free b o e n (by simp)) (λb o _ e=>u.there b o e (by simp)) u.tups u.frzs u.tbls (λm' hm=>by
  let#[o',Y,U,O,r']:=hm;rw[ho] at O;cases O;rwa[31,_,Y,U,hL,r']) hok I.bare]
theorem Inv.call(I:Inv X pins σ H s)(u:Un (frs X.stack) ch H H' s.heap h')(hok:HOk X.prog X.w H' h')(hg:AllBare g')(hch:∀b∈ch,(b∈X.ex\/X.s₀.heap.objs.size<=b)/\b≠X.env.locals/\(∀x c,X.env.cells.lookup x=some c->c≠b)/\∀p∈X.pn++pins,p.1≠b):
  Inv X pins σ H' { s with heap:=h',gens:=g',drawn:=d',toks:=t' }:=by
 let#[m,#[o,es,ep,ho,r],_]:=id I.loc;let#[sl,hL]:=u.any ho I.free λz=>(hch _ z).2.1 rfl
 rwa[I.step (ch:=ch) hch (λb o hL hb O e n=>u.keep b o e n (λz=>(GH.mp (I.stkSub b z)).elim hL hb) O) (λb o _ _ O e n=>u.any e n O) (λb o O e n=>u.free b o e n O) (λb o O e=>u.there b o e O) u.tups u.frzs u.tbls (λm' hm=>by
  let#[o',Z,Y,U,r']:=hm;rw[ho] at U;cases U;rwa[31,_,Z,Y,hL,r']) hok hg]
theorem Inv.turned(I:Inv X pins σ H s)(k:∀b o,b≠it->s.heap.get? b=some o->h'.get? b=some o)(hn:H it=none)(hL:it≠X.env.locals)(h1:it∈X.ex\/X.s₀.heap.objs.size<=it)(h2:∀x c,X.env.cells.lookup x=some c->c≠it)(h3:∀p∈X.pn++pins,p.1≠it):Inv X pins σ H { s with heap:=h',toks:=t' }:=by
 have U:∀b u,H b=some u->b≠it:=λb u e z=>by rw[z,hn] at e;cases e
 erw[I.step (g':=s.gens) (d':=s.drawn) (ch:=[it]) (λb Y=>?_) (λb o _ _ O e _=>k b o (λz=>O (by simp[z])) e) (λb o _ _ O e _=>#[o.slots,k b o (λz=>O (by simp[z])) e]) (λ_ _ _ _ n=>n)
  (λb o O e=>#[o,k b o (λz=>O (by simp[z])) e]) (λ_ _ e=>e) (λ_ _ _ e=>e) (λb ps e=>#[(List.toArray []),by rw[e];simp]) (λm Z=>?_) (λb u e=>?_) I.bare]
 ·have e:b=it:=by simpa using Y
  subst e;rwa[h1,hL,h2,h3]
 ·let#[o,es,ep,ho,r]:=Z;rwa[31,o,es,ep,k _ o (Ne.symm hL) ho,r]
 ·refine(I.hok b u e).stay (λc v O q=>k c v ?_ q) (λ_ q=>q) λ_ _ q=>q
  rcases O with z|z
  ·rw[z];rwa[U b u e]
  ·rwa[U c _ z]
theorem Inv.tok(I:Inv X pins σ H s)(t:Nat):Inv X pins σ H { s with toks:=t }:=I.un (h':=s.heap) (t':=t) Un.refl I.hok
theorem Inv.kept(I:Inv X pins σ H s)(k:∀b u,s.heap.get? b=some u->h'.get? b=some u):Inv X pins σ H { s with heap:=h',toks:=t' }:=I.un (Un.kept k) (I.hok.kept k)
theorem Inv.laid{o:HO}(I:Inv X pins σ H s)(k:∀b u,s.heap.get? b=some u->h'.get? b=some u)(hp:s.heap.objs.size<=a)(new:FC X.prog X.w (upd H a o) h' a o):
  Inv X pins σ (upd H a o) { s with heap:=h',toks:=t' }:=I.un (Un.laid k hp (I.hok.fresh hp)) (I.hok.laid k hp new)
theorem Inv.write{x e:Addr}{o:HO}(I:Inv X pins σ H s)(mu:Mut (H x))(he:e=x\/H e=some (.own x))(k:∀b u,b≠e->s.heap.get? b=some u->h'.get? b=some u)(heo:∃u,h'.get? e=some u)(new:FC X.prog X.w (upd H x o) h' x o):Inv X pins σ (upd H x o) { s with heap:=h',toks:=t' }:=I.un (Un.write mu he k heo) (I.hok.write mu he k heo new)
theorem Inv.pins_of{pins':List (Addr×Obj)}(I:Inv X pins σ H s)(h:∀p∈pins',s.heap.get? p.1=some p.2/\H p.1=none/\p.1≠X.env.locals/\p.1∉X.fs/\∀v,p.2.data≠.cell v):Inv X pins' σ H s:=
 #[I.ok,I.os,I.bare,I.base,I.loc,I.cell,I.free,I.freeC,λp O=>(KI.mp O).elim (λz=>I.pin p (Mn _ z)) (h p),I.hok,I.len]
theorem pT{N:List Str}(hN:N.Nodup){i:Nat}(a:N[i]? = some x)(b:N[j]? = some x):i=j:=by
 let#[h1,O]:=q_.mp a;let#[h2,e2]:=q_.mp b;exact(getElem_inj hN).mp (O.trans e2.symm)
theorem oa{A:Around}{i:Nat}{Q:Unit->Shared->Prop}(I:Inv X pins σ H s)(hN:X.N.Nodup)(hi:X.N[i]? = some x)(hx:Loc X.env.scope x)(r:Fy v u)(h:∀s',Inv X pins (σ.set i (some v)) H s'->(∃a,Heap.SameBut a s.heap s'.heap/\(a=X.env.locals\/X.env.cells.lookup x=some a))->Q ⟨⟩ s')(hf:X.fn x=true\/X.env.scope.names.lookup x=some .local:=by first|rwa[.inl rfl]|rwa[.inr rfl]|assumption):wpAny M A (storeName X.env x u) Q E s:=by
 let#[m,hn,hl]:=id I.loc;have a':(X.env.scope.kind == .class || (X.env.scope.kind == .module&&X.env.locals != X.env.globals))=false:=by rw[I.ok.kind];rfl
 have ac:i<σ.length:=by rw[I.len];exact(q_.mp hi).1
 have cne:=I.cne;have Y:∀{a:Addr} {h':Heap},(∃o,s.heap.get? a=some o/\H a=none)->Heap.SameBut a s.heap h'->HOk X.prog X.w H h':=λ{a h'} ha O b ob e=>by
  let#[_,_,a6]:=ha;refine(I.hok b ob e).stay (λc w' Z q=>(O.2 c ?_).trans q) (λ_ q=>q) λ_ _ q=>q
  rintro rfl
  rcases Z with rfl|Z
  ·rw[a6] at e;cases e
  ·rw[a6] at Z;cases Z
 rcases hx with hk|hk
 ·erw[wpAny_storeName_local hk hn (λh' ax O=>?_) a']
  let#[oL,_,_,b0,_]:=id hn;erw[h _ #[I.ok,I.os,I.bare,#[λb o e n hb hx=>?_,λb o e n hb hx=>?_,I.base.free,λb o e hx=>?_,I.base.tups,I.base.frzs,I.base.tbls],#[_,ax,λj y v' U e2 e3=>?_],λy c e=>?_,I.free,I.freeC,λp hp=>?_,Y #[oL,b0,I.free] O,by simpa using I.len] #[_,O,.inl rfl]]
  ·exact(O.2 b (GA (GS (GP e) I.ok.above))).trans (I.base.keep b o e n hb hx)
  ·let#[sl,U]:=I.base.slot b o e n hb hx;rwa[sl,(O.2 b (GA (GS (GP e) I.ok.above))).trans U]
  ·let#[o',U]:=I.base.there b o e hx;rwa[o',(O.2 b (GA (GS (GP e) I.ok.above))).trans U]
  ·by_cases hj:j=i
   ·subst hj;rw[hi] at U;cases U;rw[getElem?_set_self ac] at e2;cases e2;rwa[u,r,.inl #[hk,by simp]]
   ·rw[getElem?_set_ne (Ne.symm hj)] at e2;let#[u',r',q]:=hl j y v' U e2 e3;erw[u',r',?_]
    rcases q with⟨k,e⟩|⟨k,c,e,z⟩
    ·erw[.inl #[k,?_]];have:y≠x:=λe=>hj (pT hN U (e▸hi))
     simp[this,e]
    ·rwa[.inr #[k,c,e,z.sameBut O (cne y c e)]]
  ·let#[w',z]:=I.cell y c e;rwa[w',z.sameBut O (cne y c e)]
  ·let#[e,n,ne,nf,d]:=I.pin p hp;rwa[(O.2 p.1 ne).trans e,n,ne,nf,d]
 ·have a7:X.fn x=true:=by
   rcases hf with z|z
   ·rwa[z]
   ·rw[z] at hk;cases hk
  let#[c,Z]:=I.ok.has x (.inl hk);let#[w',z]:=I.cell x c Z;erw[wpAny_storeName_cell I.ok.kind hk Z z (λh' a8 O=>?_)]
  let#[oc,ad,au]:=id z;erw[h { s with heap:=h' } #[I.ok,I.os,I.bare,#[λb o e n hb hx=>?_,λb o e n hb hx=>?_,I.base.free,λb o e hx=>?_,I.base.tups,I.base.frzs,I.base.tbls],#[m,hn.sameBut O (Ne.symm (cne x c Z)),λj y v' U e2 e3=>?_],λy c' e=>?_,I.free,I.freeC,λp hp=>?_,Y #[oc,ad,I.freeC x c Z] O,by simpa using I.len] #[c,O,.inr Z]]
  ·exact(O.2 b (GA (GS (GP e) (I.ok.cab x c a7 Z)))).trans (I.base.keep b o e n hb hx)
  ·let#[sl,U]:=I.base.slot b o e n hb hx;rwa[sl,(O.2 b (GA (GS (GP e) (I.ok.cab x c a7 Z)))).trans U]
  ·let#[o',U]:=I.base.there b o e hx;rwa[o',(O.2 b (GA (GS (GP e) (I.ok.cab x c a7 Z)))).trans U]
  ·by_cases hj:j=i
   ·subst hj;rw[hi] at U;cases U;rw[getElem?_set_self ac] at e2;cases e2;rwa[u,r,.inr #[.inl hk,c,Z,a8]]
   ·rw[getElem?_set_ne (Ne.symm hj)] at e2;let#[u',r',q]:=hl j y v' U e2 e3;erw[u',r',?_]
    rcases q with q|⟨k,c',e,z'⟩
    ·rwa[.inl q]
    ·erw[.inr #[k,c',e,z'.sameBut O ?_]];rintro rfl;rwa[hj (pT hN U (I.ok.inj _ _ _ e Z▸hi))]
  ·by_cases a9:c'=c
   ·subst a9;rwa[_,a8]
   ·let#[w2,z2]:=I.cell y c' e;rwa[w2,z2.sameBut O a9]
  ·let#[e,n,ne,nf,d]:=I.pin p hp;erw[(O.2 p.1 ?_).trans e,n,ne,nf,d];intro q;rw[q,ad] at e;have q':oc=p.2:=G_ e;rwa[d w' (by rw[<- q'];rwa[au])]
theorem iU{A:Around}{i:Nat}{Q:Unit->Shared->Prop}(I:Inv X pins σ H s)(hN:X.N.Nodup)(hi:X.N[i]? = some x)(hx:Loc X.env.scope x)(r:Fy v u)(h:∀s',Inv X pins (σ.set i (some v)) H s'->Q ⟨⟩ s')(hf:X.fn x=true\/X.env.scope.names.lookup x=some .local:=by first|rwa[.inl rfl]|rwa[.inr rfl]|assumption):wpAny M A (storeName X.env x u) Q E s:=
 oa I hN hi hx r (λs' O _=>h s' O) hf
theorem Inv.call'(I:Inv X pins σ H s)(ho:s'.os=s.os)(u:Un (frs X.stack) ch H H' s.heap s'.heap)(hok:HOk X.prog X.w H' s'.heap)(hg:AllBare s'.gens)(hch:∀b∈ch,(b∈X.ex\/X.s₀.heap.objs.size<=b)/\b≠X.env.locals/\(∀x c,X.env.cells.lookup x=some c->c≠b)/\∀p∈X.pn++pins,p.1≠b):Inv X pins σ H' s':=by
 let#[h',g',d',t',o']:=s';have e:o'=s.os:=ho;subst e;rwa[I.call (g':=g') (t':=t') (d':=d') u hok hg hch]
end
abbrev XK:=Value->Option Addr->Hp->Prop
abbrev St:=List (Option V)
variable {σ:St}
abbrev VK:=V->Hp->Prop
abbrev TE:=St->Hp->VK->Prop
variable {ta te tl:TE}
abbrev TT:=St->Hp->(Bool->Hp->Prop)->Prop
variable {tc:TT}
abbrev TA:=St->Hp->(List V->Hp->Prop)->Prop
structure gC where
 nx:St->Hp->Prop
 rt:VK
 bk:St->Hp->Prop:=λ_ _=>False
 ct:St->Hp->Prop:=λ_ _=>False
variable {D:gC}
abbrev TS:=gC->St->Hp->Prop
variable {tb:TS}
def EP(X:Cx)(pins:List (Addr×Obj))(σ:St)(Q:VK)(u:Value)(s':Shared):Prop:=∃v H',Inv X pins σ H' s'/\Fy v u/\Q v H'
def TP(X:Cx)(pins:List (Addr×Obj))(σ:St)(Q:Bool->Hp->Prop)(b:Bool)(s':Shared):Prop:=∃H',Inv X pins σ H' s'/\Q b H'
def AP(X:Cx)(pins:List (Addr×Obj))(σ:St)(Q:List V->Hp->Prop)(us:List Value)(s':Shared):Prop:=∃vs H',Inv X pins σ H' s'/\Fw vs us/\Q vs H'
def SP(X:Cx)(pins:List (Addr×Obj))(D:gC)(f:Flow)(s':Shared):Prop:=
 match f with
 |.next=>∃σ' H',Inv X pins σ' H' s'/\D.nx σ' H'
 |.brk=>∃σ' H',Inv X pins σ' H' s'/\D.bk σ' H'
 |.cont=>∃σ' H',Inv X pins σ' H' s'/\D.ct σ' H'
 |.ret u=>∃v σ' H',Inv X pins σ' H' s'/\Fy v u/\D.rt v H'
def PE(X:Cx)(e:Expr)(t:TE):Prop:=
 ∀(pins:List (Addr×Obj)) (s:Shared) (σ:St) (H:Hp) (Q:VK),Inv X pins σ H s->t σ H Q->wpAny (model X.prog X.w) X.A (eval e X.env) (EP X pins σ Q) X.xe s
def PT(X:Cx)(e:Expr)(t:TT):Prop:=
 ∀(pins:List (Addr×Obj)) (s:Shared) (σ:St) (H:Hp) (Q:Bool->Hp->Prop),Inv X pins σ H s->t σ H Q->wpAny (model X.prog X.w) X.A (isTrue e X.env (eval e X.env)) (TP X pins σ Q) X.xe s
def PW(X:Cx)(e:Expr)(t:TT):Prop:=
 ∀(whole:Sem Value) (pins:List (Addr×Obj)) (s:Shared) (σ:St) (H:Hp) (Q:Bool->Hp->Prop),Inv X pins σ H s->t σ H Q->wpAny (model X.prog X.w) X.A (isTrue e X.env whole) (TP X pins σ Q) X.xe s
theorem PW.pt{t:TT}(h:PW X e t):PT X e t:=h _
def PA(X:Cx)(es:List Expr)(t:TA):Prop:=
 ∀(pos:Pos) (pins:List (Addr×Obj)) (s:Shared) (σ:St) (H:Hp) (Q:List V->Hp->Prop),Inv X pins σ H s->t σ H Q->wpAny (model X.prog X.w) X.A (spliced (backTo pos (starEach es X.env))) (AP X pins σ Q) X.xe s
def PS(X:Cx)(st:Stmt)(t:TS):Prop:=
 ∀(pins:List (Addr×Obj)) (s:Shared) (σ:St) (H:Hp) (D:gC),Inv X pins σ H s->t D σ H->wpAny (model X.prog X.w) X.A (exec st X.env) (SP X pins D) X.xe s
def PSs(X:Cx)(st:List Stmt)(t:TS):Prop:=
 ∀(pins:List (Addr×Obj)) (s:Shared) (σ:St) (H:Hp) (D:gC),Inv X pins σ H s->t D σ H->wpAny (model X.prog X.w) X.A (execs st X.env) (SP X pins D) X.xe s
theorem thn{t:Sem α}{Q Q':α->Shared->Prop}{A:Around}(h:wpAny M A t Q E s)(hQ:∀a s,Q a s->Q' a s):wpAny M A t Q' E s:=LF h hQ λ_ _ x=>x
section
def Ed(i:Nat):TE:=λσ H Q=>∃v,σ[i]? = some (some v)/\Q v H
def tC(v:V):TE:=λ_ H Q=>Q v H
theorem Eb{i:Nat}(hN:X.N[i]? = some x)(hv:Vis X.env.scope x)(hd:(x==("__debug__" : Str))=false:=by decide)(hcd:(x==("__classdict__" : Str))=false:=by decide):PE X (.Name x pos) (Ed i):=by
 intro pins s σ H Q I h;let#[v,e,h]:=h;let#[m,U,O]:=I.loc;let#[u,r,l]:=O i x v hN e hv;have fin:EP X pins σ Q u s:=#[22,v,H,I,r,h]
 rcases l with⟨hk,hm⟩|⟨hk,c,hc,hcell⟩
 ·rwa[wpAny_Name (wpAny_loadName_local I.ok.kind hk U hm fin) hd]
 ·rcases hk with hk|hk
  ·rwa[wpAny_Name (wpAny_loadName_cell I.ok.kind hk hc hcell fin) hd]
  ·rwa[wpAny_Name (wpAny_loadName_free I.ok.kind hk hc hcell fin hcd) hd]
theorem ak{i j pos}:PE X (.Constant (.int i) j pos) (tC (.int i)):=λ_ _ _ H _ I h=>wpAny_Constant_int #[22,.int i,H,I.tok _,#[0],h]
theorem gK{b j pos}:PE X (.Constant (.bool b) j pos) (tC (.bl b)):=λ_ _ _ H _ I h=>Constant_bool #[22,.bl b,H,I,1,h]
theorem jg{j pos}:PE X (.Constant .none j pos) (tC .non):=λ_ _ _ H _ I h=>Constant_none #[22,.non,H,I,1,h]
theorem pG{x j pos}:PE X (.Constant (.str x) j pos) (tC (.str x)):=λ_ _ _ H _ I h=>Calls.Constant_str #[22,.str x,H,I.tok _,#[0],h]
def Gl(X:Cx)(x:Str):Prop:=X.env.kindOf x=some .globalImplicit
theorem iJ(I:Inv X pins σ H s)(hg:Gl X x)(hm:X.mg x=some u)(h:Q u s)(hd:(x==("__debug__" : Str))=false:=by decide):wpAny (model X.prog X.w) X.A (eval (.Name x pos) X.env) Q E s:=
 Calls.Name_function_global I.ok.kind hg (Calls.loadGlobal_global (by rw[I.ok.glob];rwa[I.mod.glob.keeps I.bk]) hm h) hd
theorem dM(I:Inv X pins σ H s)(hg:Gl X x)(hm:X.mg x=none)(hv:bootBuiltins x=some u)(h:Q u s)(hn:x≠"__name__":=by decide)(hd:(x==("__debug__" : Str))=false:=by decide):wpAny (model X.prog X.w) X.A (eval (.Name x pos) X.env) Q E s:=by
 let#[mb,h1,h2]:=I.mod.blt;rwa[Calls.Name_function_global I.ok.kind hg (Calls.loadGlobal_builtin (by rw[I.ok.glob];rwa[I.mod.glob.keeps I.bk]) hm (by rw[I.ok.blt];rwa[h1.keeps I.bk]) ((h2 x hn).trans hv) h) hd]
theorem bJ(hg:Gl X x)(hm:X.mg x=some u)(r:Fy v u)(hd:(x==("__debug__" : Str))=false:=by decide):PE X (.Name x pos) (tC v):=
 λ_ _ _ H _ I h=>iJ I hg hm #[22,v,H,I,r,h] hd
variable {a b:Expr}{tb:TE}
def PC(X:Cx)(op:CmpOp)(a b:Expr)(t:TE):Prop:=
 ∀(pins:List (Addr×Obj)) (s:Shared) (σ:St) (H:Hp) (Q:VK),Inv X pins σ H s->t σ H Q->
  wpAny (model X.prog X.w) X.A (eval a X.env) (λv s₁=>wpAny (model X.prog X.w) X.A (eval b X.env) (λu s₂=>wpAny (model X.prog X.w) X.A (compareOp op v u) (EP X pins σ Q) X.xe s₂) X.xe s₁) X.xe s
def tB(t:TE):TT:=λσ H Q=>t σ H λx H1=>∃c,x=.bl c/\Q c H1
theorem DL{t:TE}(h:PC X op a b t)(h1:behindInMarks op b=false:=by first|rwa[nobehind _ #[] #[]]|rfl):PT X (.Compare a [op] [b] pos) (tB t):=by
 intro pins s σ H Q I hw;erw[wpAny_isTrue_Compare1 (thn (h pins s σ H _ I hw) λv s1 h1=>thn h1 λu s2 h2=>thn h2 λc Z ⟨x,H1,O,Y,U⟩=>?_) h1]
 let#[d,1,q]:=U;cases Y;rwa[MA #[H1,O,q]]
theorem oY{t:TE}(h:PE X e t)(he:∀O,isTrue e X.env O=(do let v <- O;standAt e.pos;holding [v] (truthy v)):=by intro _;rfl):PT X e (tB t):=by
 intro pins s σ H Q I hw;erw[isTrue_plain (thn (h pins s σ H _ I hw) λv s1 ⟨x,H1,U,Z,Y⟩=>?_) (he _)]
 let#[d,1,q]:=Y;cases Z;rwa[MA #[H1,U,q]]
variable {tA tB':TT}{rest:List Expr}
def tOr(t u:TT):TT:=λσ H Q=>t σ H λc H1=>if c=true then Q true H1 else u σ H1 Q
def tNot(t:TT):TT:=λσ H Q=>t σ H λc H1=>Q (!c) H1
theorem kX(ha:PT X a tA):PW X (.BoolOp .Or [a] pos) tA:=by
 intro O pins s σ H Q I h;erw[isTrue_or (thn (ha pins s σ H Q I h) λc s1 e=>?_)]
 cases c with
 |false=>rwa[isTrue_or_nil e]
 |true=>rwa[e]
theorem qv(ha:PT X a tA)(hb:PW X (.BoolOp .Or (b::rest) pos) tB'):PW X (.BoolOp .Or (a::b::rest) pos) (tOr tA tB'):=by
 intro Y pins s σ H Q I h;erw[isTrue_or (thn (ha pins s σ H _ I h) λc s1 ⟨H1,O,U⟩=>?_)]
 cases c with
 |true=>rwa[H1,O,U]
 |false=>rwa[hb Y pins s1 σ H1 Q O U]
theorem tH(ha:PT X a tA):PT X (.UnaryOp .Not a pos) (tNot tA):=by
 intro pins s σ H Q I h;rwa[isTrue_not (ha pins s σ H (λc H1=>Q (!c) H1) I h)]
def EC(ta tb:TE):TE:=λσ H Q=>ta σ H λx H1=>∃c,x=.bl c/\if c=true then tb σ H1 Q else Q (.bl false) H1
theorem yu{op}{t:TE}(h:PE X a t):PE X (.BoolOp op [a] pos) t:=λpins s σ H Q I hw=>BoolOp_one (h pins s σ H Q I hw)
theorem zV(ha:PE X a ta)(hb:PE X (.BoolOp .And (b::rest) pos) tb):PE X (.BoolOp .And (a::b::rest) pos) (EC ta tb):=by
 intro pins s σ H Q I h;erw[BoolOp_and (thn (ha pins s σ H _ I h) λv s1 ⟨x,H1,U,Y,O⟩=>?_)]
 let#[c,1,O]:=O;cases Y;erw[MA ?_];cases c with
 |true=>rwa[hb pins s1 σ H1 Q U O]
 |false=>rwa[22,.bl false,H1,U,1,O]
end
def SqL(K:Frag)(H:Hp)(a:Addr)(xs:List V):Prop:=
 Rd H a (.lst xs) \/
  ∃(o:Obj) (its:Array Value) (n:Nat),K.lookup a=some o/\o.cls=.type "list"/\o.dict=none/\o.data=.seq its n/\its.size<=sizeLine/\Fw xs its.toList
def SqT(K:Frag)(H:Hp)(a:Addr)(xs:List V):Prop:=
 Rd H a (.tup xs) \/
  ∃(o:Obj) (its:Array Value) (n:Nat),K.lookup a=some o/\o.cls=.type "tuple"/\o.data=.seq its n/\its.size<=sizeLine/\Fw xs its.toList
def absV:Value->Option V
 |.none=>some .non
 |.bool b=>some (.bl b)
 |.int i _=>some (.int i)
 |.str x _=>some (.str x)
 |.bytes b _=>some (.byt b)
 |.float b _=>some (.flt b)
 |.ref a=>some (.ref a)
 |.type n=>some (.ty n)
 |_=>none
theorem Fy.abs{x:V}(r:Fy x u):absV u=some x:=by
 cases x with
 |non=>cases r;rfl
 |bl _=>cases r;rfl
 |int _=>let#[t,1]:=r;rfl
 |str _=>let#[t,1]:=r;rfl
 |byt _=>let#[t,1]:=r;rfl
 |flt _=>let#[t,1]:=r;rfl
 |ref _=>cases r;rfl
 |ty _=>cases r;rfl
theorem Fy.inj{x:V}(r:Fy x u)(q:Fy y u):x=y:=G_ (r.abs.symm.trans q.abs)
theorem Fw.inj:∀{xs ys:List V} {us:List Value},Fw xs us->Fw ys us->xs=ys
 |_,_,_,.nil,.nil=>rfl
 |_,_,_,.cons r t,.cons r' t'=>by rw[r.inj r',Fw.inj t t']
section
variable {ys:List V}
theorem SqL.of{K:Frag}(h:H a=some (.lst xs)):SqL K H a xs:=.inl (.inl h)
theorem SqT.of{K:Frag}(h:H a=some (.tup xs)):SqT K H a xs:=.inl (.inl h)
theorem Inv.list(I:Inv X pins σ H s)(h:SqL X.K H a xs):∃its:List Value,Fw xs its/\PlainL s.heap a its.toArray/\xs.length<=sizeLine:=by
 rcases h with h|⟨o,its,n,hk,O,hd,U,Y,r⟩
 ·let#[z,its,n,r,e]:=h.ok I.hok;rwa[its,r,#[23,_,n,e,1,1,1],z]
 ·erw[its.toList,r,#[23,o,n,I.kIn a o hk,O,hd,by simpa using U],?_]
  have e:=r.length;simp only[Lj] at e;lia
theorem Inv.tuple(I:Inv X pins σ H s)(h:SqT X.K H a xs):∃its:List Value,Fw xs its/\IsTup s.heap a its.toArray/\xs.length<=sizeLine:=by
 rcases h with h|⟨o,its,n,hk,O,U,Y,r⟩
 ·let#[z,its,r,p]:=h.ok I.hok;rwa[its,r,p,z]
 ·erw[its.toList,r,#[o,I.kIn a o hk,O,n,by simpa using U],?_]
  have e:=r.length;simp only[Lj] at e;lia
theorem Inv.list_inj(I:Inv X pins σ H s)(h:SqL X.K H a xs)(h':SqL X.K H a ys):xs=ys:=by
 let#[its,r,#[o,n,e,_,_,d],_]:=I.list h;let#[its',U,#[o',Y,O,_,_,d'],_]:=I.list h';rw[e] at O;cases O;rw[d] at d';injection d' with d1 _
 have:its=its':=by simpa using Ls Array.toList d1
 subst this;rwa[r.inj U]
theorem Inv.tuple_inj(I:Inv X pins σ H s)(h:SqT X.K H a xs)(h':SqT X.K H a ys):xs=ys:=by
 let#[its,r,#[o,e,_,n,d],_]:=I.tuple h;let#[its',U,#[o',O,_,Y,d'],_]:=I.tuple h';rw[e] at O;cases O;rw[d] at d';injection d' with d1 _
 have:its=its':=by simpa using Ls Array.toList d1
 subst this;rwa[r.inj U]
end
abbrev Cx.wish(X:Cx)(E:Value->Shared->Prop):Cx:={ X with xe:=E }
abbrev Cx.nox(X:Cx):Cx:=X.wish λ_ _=>False
theorem Cx.Ok.wish(ok:X.Ok)(E:Value->Shared->Prop):(X.wish E).Ok:=
 #[ok.mod,ok.kind,ok.glob,ok.blt,ok.above,ok.inj,ok.has,ok.cab,ok.hd,ok.frames,ok.stk,ok.exf,ok.bs,ok.bsz,ok.noex,ok.exfs,ok.funs,ok.frf]
theorem Cx.Ok.unwish(ok:(X.wish E).Ok):X.Ok:=
 #[ok.mod,ok.kind,ok.glob,ok.blt,ok.above,ok.inj,ok.has,ok.cab,ok.hd,ok.frames,ok.stk,ok.exf,ok.bs,ok.bsz,ok.noex,ok.exfs,ok.funs,ok.frf]
section
theorem Inv.wish(I:Inv X pins σ H s)(E:Value->Shared->Prop):Inv (X.wish E) pins σ H s:=#[I.ok.wish E,I.os,I.bare,I.base,I.loc,I.cell,I.free,I.freeC,I.pin,I.hok,I.len]
theorem Inv.unwish(I:Inv (X.wish E) pins σ H s):Inv X pins σ H s:=#[I.ok.unwish,I.os,I.bare,I.base,I.loc,I.cell,I.free,I.freeC,I.pin,I.hok,I.len]
theorem SP.unwish{f:Flow}(h:SP (X.wish E) pins D f s'):SP X pins D f s':=by
 cases f with
 |next=>let#[σ',H',I,q]:=h;rwa[21,σ',H',I.unwish,q]
 |brk=>let#[σ',H',I,q]:=h;rwa[21,σ',H',I.unwish,q]
 |cont=>let#[σ',H',I,q]:=h;rwa[21,σ',H',I.unwish,q]
 |ret u=>let#[v,σ',H',I,r,q]:=h;rwa[32,v,σ',H',I.unwish,r,q]
theorem PSs.nox{st:List Stmt}{t:TS}(h:PSs X.nox st t):PSs X st t:=λpins s σ H D I hw=>
 LF (h pins s σ H D (I.wish _) hw) (λ_ _ q=>q.unwish) λ_ _ z=>False.elim z
end
section
variable {st:Stmt}{rest:List Stmt}{t u:TS}
def EY:TS:=λD σ H=>D.nx σ H
def Fs(t u:TS):TS:=λD σ H=>t { D with nx:=u D } σ H
theorem aE:PSs X [] EY:=λ_ _ σ H _ I h=>wpAny_execs_nil #[21,σ,H,I,h]
theorem af(h1:PS X st t)(h2:PSs X rest u):PSs X (st::rest) (Fs t u):=by
 intro pins s σ H D I h;erw[wpAny_execs_cons (thn (h1 pins s σ H { D with nx:=u D } I h) λf s1 q=>?_)]
 cases f with
 |next=>
  let#[σ',H',O,q]:=q;rwa[h2 pins s1 σ' H' D O q]
 |ret v=>rwa[q]
 |brk=>rwa[q]
 |cont=>rwa[q]
theorem aj(h1:PS X st t):PSs X [st] t:=by
 intro pins s σ H D I h;erw[wpAny_execs_cons (thn (h1 pins s σ H D I h) λf s1 q=>?_)]
 cases f with
 |next=>rwa[wpAny_execs_nil q]
 |ret v=>rwa[q]
 |brk=>rwa[q]
 |cont=>rwa[q]
theorem Inv.quiet(I:Inv X pins σ H s):interactive X.env=false:=by simp[interactive,I.ok.kind]
def E1(te:TE):TS:=λD σ H=>te σ H λ_ H1=>D.nx σ H1
theorem aZ(he:PE X e te)(hs:swapsWith e none pos.line X.env=pure false:=by rfl):PS X (.Expr e pos) (E1 te):=by
 intro pins s σ H D I h;rwa[wpAny_Expr_any (thn (he pins s σ H _ I h) λv s1 ⟨x,H1,O,Y,U⟩=>#[21,σ,H1,O,U]) I.quiet hs]
def tRet(te:TE):TS:=λD σ H=>te σ H D.rt
theorem ar(he:PE X e te):PS X (.Return (some e) pos) (tRet te):=by
 intro pins s σ H D I h;rwa[wpAny_Return_some (thn (he pins s σ H _ I h) λv s1 ⟨x,H1,O,Y,U⟩=>#[32,x,σ,H1,O,Y,U])]
def En:TS:=λD _ H=>D.rt .non H
theorem o5:PS X (.Return none pos) En:=λ_ _ σ H _ I h=>wpAny_Return_none #[32,.non,σ,H,I,1,h]
def DO(c:TT)(t u:TS):TS:=λD σ H=>c σ H λb H1=>if b=true then t D σ H1 else u D σ H1
theorem aT{a b:List Stmt}(hc:PT X c tc)(ha:PSs X a t)(hb:PSs X b u):PS X (.If c a b pos) (DO tc t u):=by
 intro pins s σ H D I h;erw[wpAny_If (thn (hc pins s σ H _ I h) λd s1 ⟨H1,O,U⟩=>?_)]
 cases d with
 |true=>rwa[ha pins s1 σ H1 D O U]
 |false=>rwa[hb pins s1 σ H1 D O U]
def xk:TS:=λ_ _ _=>False
theorem yM:PS X st xk:=λ_ _ _ _ _ _ h=>h.elim
theorem gu{sts:List Stmt}:PSs X sts xk:=λ_ _ _ _ _ _ h=>h.elim
end
abbrev TG:=V->St->Hp->(St->Hp->Prop)->Prop
abbrev TGs:=List V->St->Hp->(St->Hp->Prop)->Prop
def PG(X:Cx)(target:Expr)(t:TG):Prop:=
 ∀(pins:List (Addr×Obj)) (s:Shared) (σ:St) (H:Hp) (v:V) (u:Value) (Q:St->Hp->Prop),Inv X pins σ H s->Fy v u->t v σ H Q->
  wpAny (model X.prog X.w) X.A (assign target X.env u) (λ_ s'=>∃σ' H',Inv X pins σ' H' s'/\Q σ' H') X.xe s
def PGs(X:Cx)(ts:List Expr)(t:TGs):Prop:=
 ∀(pins:List (Addr×Obj)) (s:Shared) (σ:St) (H:Hp) (vs:List V) (us:List Value) (Q:St->Hp->Prop),Inv X pins σ H s->Fw vs us->t vs σ H Q->
  wpAny (model X.prog X.w) X.A (assignInOrder ((assignEach ts X.env).map (·.2)) us) (λ_ s'=>∃σ' H',Inv X pins σ' H' s'/\Q σ' H') X.xe s
abbrev D3:=V->V->V->Hp->(Hp->Prop)->Prop
def EI(X:Cx)(t:D3):Prop:=
 ∀(pins:List (Addr×Obj)) (s:Shared) (σ:St) (H:Hp) (o i v:V) (ov iv u:Value) (Q:Hp->Prop),Inv X pins σ H s->Fy o ov->Fy i iv->Fy v u->t o i v H Q->
  wpAny (model X.prog X.w) X.A (setItem ov iv u) (λ_ s'=>∃H',Inv X pins σ H' s'/\Q H') X.xe s
section
def bV(i:Nat):TG:=λv σ H Q=>Q (σ.set i (some v)) H
theorem aO{i:Nat}(hN:X.N.Nodup)(hi:X.N[i]? = some x)(hx:Loc X.env.scope x)(hf:X.fn x=true\/X.env.scope.names.lookup x=some .local:=by first|rwa[.inl rfl]|rwa[.inr rfl]|assumption):PG X (.Name x pos) (bV i):=by
 intro pins s σ H v u Q I r h;rwa[wpAny_assign_Name (iU I hN hi hx r (λs' O=>#[21,_,H,O,h]) hf)]
def zm:TGs:=λvs σ H Q=>vs=[]/\Q σ H
def gJ(t:TG)(u:TGs):TGs:=λvs σ H Q=>∃v r,vs=v::r/\t v σ H λσ' H'=>u r σ' H' Q
theorem gw:PGs X [] zm:=by
 intro pins s σ H vs us Q I r h;let#[e,h]:=h;subst e;cases r;rwa[assignInOrder_nil #[21,σ,H,I,h]]
theorem ba{t:TG}{u:TGs}(h1:PG X e t)(h2:PGs X es u)(hs:(assignEach (e::es) X.env).map (·.2)=assign e X.env::(assignEach es X.env).map (·.2):=by rfl):PGs X (e::es) (gJ t u):=by
 intro pins s σ H vs us Q I r h;let#[v,Z,U,h]:=h;subst U;cases r with
 |cons r rr=>
  rw[hs];erw[assignInOrder_cons (thn (h1 pins s σ H _ _ _ I r h) λ_ s1 ⟨σ1,H1,O,Y⟩=>?_)]
  rwa[h2 pins s1 σ1 H1 _ _ Q O rr Y]
def zS(K:Frag)(n:Nat)(t:TGs):TG:=λv σ H Q=>∃a xs,v=.ref a/\SqT K H a xs/\xs.length=n/\t xs σ H Q
theorem jd{k:Nat}{t:TGs}(hc:X.calm=true)(h:PGs X es t)(hn:(assignEach es X.env).length=n:=by rfl)(hst:(assignEach es X.env).findIdx? (·.1)=none:=by rfl):PG X (.Tuple es k pos) (zS X.K n t):=by
 intro pins s σ H v u Q I r hw;let#[a,xs,Y,hq,Z,hw]:=hw;subst Y;cases r;let#[its,O,ht,hz]:=I.tuple hq;erw[assign_Tuple_tuple (I.ok.hd hc) ht (by simp[hn,<- Z,O.length]) hst λh' hx=>?_]
 have U:Inv X pins σ H { s with heap:=h' }:=I.kept (t':=s.toks) λb o e=>hx b o (GA (GP e)) e
 rwa[h pins _ σ H xs _ Q U (by simpa using O) hw]
def gSub(to ti:TE)(t:D3):TG:=λv σ H Q=>to σ H λo H1=>ti σ H1 λi H2=>t o i v H2 λH3=>Q σ H3
theorem f6{o i:Expr}{to ti:TE}{t:D3}(ho:PE X o to)(hi:PE X i ti)(hs:EI X t)(ha:∀v,assign (.Subscript o i pos) X.env v=(do
   let O <- holding [v] (eval o X.env)
   let U <- holding [v,O] (eval i X.env)
   standAt pos
   holding [v,O,U] (setItem O U v)
   release [v,O,U] []):=by intro _;rfl):PG X (.Subscript o i pos) (gSub to ti t):=by
 intro pins s σ H v u Q I r h;rw[ha];erw[c_ (Ll (thn (ho pins s σ H _ I h) λO s1 ⟨x,H1,Z,r1,q1⟩=>?_))]
 erw[c_ (Ll (thn (hi pins s1 σ H1 _ Z q1) λU s2 ⟨y,H2,I2,r2,q2⟩=>?_))]
 erw[c_ (wpAny_standAt (c_ (Ll (thn (hs pins s2 σ H2 x y v O U u _ I2 r1 r2 r q2) λ_ s3 ⟨Y,I3,q3⟩=>?_))))]
 rwa[wpAny_release #[21,σ,Y,I3,q3]]
def Da(te:TE)(g:TG):TS:=λD σ H=>te σ H λx H1=>g x σ H1 D.nx
theorem fz{g:TG}(he:PE X e te)(hg:PG X tg g)(hs:swapsWithSole [tg] e pos.line X.env=pure false:=by rfl)(hw:swappedStores [tg] e X.env=pure none:=by rfl)(h1:(assignEach [tg] X.env).map (·.2)=[assign tg X.env]:=by rfl):PS X (.Assign [tg] e pos) (Da te g):=by
 intro pins s σ H D I h;erw[wpAny_Assign_stores (thn (he pins s σ H _ I h) λv s1 ⟨x,H1,O,Y,U⟩=>?_) hs hw]
 rw[h1];rwa[thn (hg pins s1 σ H1 x v _ O Y U) λ_ s2 q=>q]
theorem aq{i:Nat}(hN:X.N.Nodup)(hi:X.N[i]? = some x)(hx:Loc X.env.scope x)(he:PE X e te)(hs:swapsWith e (some (.Name x pos')) pos.line X.env=pure false:=by rfl)(hf:X.fn x=true\/X.env.scope.names.lookup x=some .local:=by first|rwa[.inl rfl]|rwa[.inr rfl]|assumption):
  PS X (.Assign [.Name x pos'] e pos) (Da te (bV i)):=by
 intro pins s σ H D I h;erw[wpAny_Assign_Name (thn (he pins s σ H _ I h) λv s1 ⟨y,H1,O,Z,Y⟩=>?_) hs]
 rwa[iU O hN hi hx Z (λs2 U=>#[21,_,H1,U,Y]) hf]
def tPar(i j:Nat)(ta:TA):TS:=λD σ H=>ta σ H λvs H1=>∃v w,vs=[v,w]/\D.nx ((σ.set i (some v)).set j (some w)) H1
theorem C4{i:Nat}{y:Str}{a b:Expr}{ta:TA}{px py pt:Pos}{kt k2 pt2}(hc:X.calm=true)(hN:X.N.Nodup)(hi:X.N[i]? = some x)(hj:X.N[j]? = some y)(hij:i≠j)(hx:X.env.scope.names.lookup x=some .local)(hy:X.env.scope.names.lookup y=some .local)(ha:PA X [a,b] ta)(hw:swappedStores [.Tuple [.Name x px,.Name y py] kt pt] (.Tuple [a,b] k2 pt2) X.env=pure (some [x,y]))(hs:swapsWithSole [.Tuple [.Name x px,.Name y py] kt pt] (.Tuple [a,b] k2 pt2) pos.line X.env=pure false:=by rfl):
  PS X (.Assign [.Tuple [.Name x px,.Name y py] kt pt] (.Tuple [a,b] k2 pt2) pos) (tPar i j ta):=by
 intro pins s σ H D I h;rw[exec_Assign_arm];erw[c_ (wpAny_standAt ?_)];rw[hs];erw[c_ (i_ ?_)];rw[t_ #[]]
 erw[c_ (Tuple_ (thn (ha _ pins s σ H _ I h) λus s1 ⟨vs,H1,I1,r1,Z⟩=>?_))]
 let#[v,w,e1,Z]:=Z;subst e1;obtain⟨O,U,rfl,rv,a6⟩:∃O U,us=[O,U]/\Fy v O/\Fy w U:=by
  cases r1 with
  |cons p q=>
   cases q with
   |cons p' q'=>
    cases q';rwa[22,_,0,p,p']
 erw[KS ?_ (by show 2<=sizeLine;decide)]
 have I2:Inv X pins σ H1 { s1 with heap:=s1.heap.push { cls:=.type "tuple",data:=.seq [O,U].toArray } }:=I1.kept (t':=s1.toks) λb o e=>h_ _ e
 rw[hw];erw[c_ (i_ ?_)];show wpAny (model X.prog X.w) X.A (do rule "assign.swapped-stores";let items <- unpackItems (.ref s1.heap.objs.size) 2 none;assignInOrder [λv=>bindName X.env y v,λv=>bindName X.env x v] items.reverse;pure Flow.next) _ _ _
 erw[c_ (PF (c_ (unpackItems_tuple (items:=(List.toArray [O,U])) (I.ok.hd hc) (IsTup.new s1.heap _) λh' Y=>?_)))]
 have I3:=I2.kept (h':=h') (t':=s1.toks) λb o e=>Y b o (GA (GP e)) e
 show wpAny _ _ (assignInOrder [λv=>bindName X.env y v,λv=>bindName X.env x v] [U,O] >>= λ_=>pure Flow.next) _ _ _
 erw[c_ (assignInOrder_cons (wpAny_bindName (iU I3 hN hj (.inl hy) a6 (λs2 I4=>?_) (.inr hy))))]
 erw[assignInOrder_cons (wpAny_bindName (iU I4 hN hi (.inl hx) rv (λs3 I5=>assignInOrder_nil (i_ ?_)) (.inr hx)))]
 rw[List.set_comm _ _ (Ne.symm hij)] at I5;rwa[21,_,H1,I5,Z]
end
section
def yC(c:TT)(tb:TS):TS:=λD σ H=>∃W:Nat->St->Hp->Prop,(∃m,W m σ H)/\∀m σ H,W m σ H->
 c σ H λb H1=>if b=true then ∃N:St->Hp->Prop,(∀σ' H',N σ' H'->∃m',m'<m/\W m' σ' H')/\tb { D with nx:=N,ct:=N,bk:=D.nx } σ H1 else D.nx σ H1
theorem eX(hp:PassesOwn (model X.prog X.w) X.A X.env X.xe)(hc:PT X c tc)(hb:PSs X body tb):PS X (.While c body [] pos) (yC tc tb):=by
 intro pins s σ H D I h;let#[W,#[m0,w0],turn]:=h;erw[wpAny_While (codeAny_whileLoop (λn s'=>∃σ' H',Inv X pins σ' H' s'/\W n σ' H') ?_ m0 #[21,σ,H,I,w0])]
 rintro n s1 ⟨σ1,H1,I1,w1⟩;erw[N4 hp (thn (hc pins s1 σ1 H1 _ I1 (turn n σ1 H1 w1)) λb s2 ⟨H2,I2,U⟩=>?_)]
 cases b with
 |true=>
  let#[N,hN,U]:=U;rw[u_ rfl];erw[N4 hp (thn (hb pins s2 σ1 H2 _ I2 U) λf s3 Y=>?_)]
  cases f with
  |next=>
   let#[σ3,O,Z,n3]:=Y;let#[m',hm,w3]:=hN σ3 O n3;rwa[61,m',hm,σ3,O,Z,w3]
  |cont=>
   let#[σ3,O,Z,n3]:=Y;let#[m',hm,w3]:=hN σ3 O n3;rwa[61,m',hm,σ3,O,Z,w3]
  |brk=>rwa[Y]
  |ret v=>rwa[Y]
 |false=>
  rw[t_ GT];rwa[wpAny_execs_nil #[21,σ1,H2,I2,U]]
end
structure It where
 go:Nat->Hp->Prop
 yld:Nat->Hp->V->Hp->Prop
 stop:Nat->Hp->Prop
def FJ(X:Cx)(pins:List (Addr×Obj))(H:Hp)(b:Addr):Prop:=
 H b=none/\b≠X.env.locals/\b∉X.fs/\(b∈X.ex\/X.s₀.heap.objs.size<=b)/\(∀x c,X.env.cells.lookup x=some c->c≠b)/\∀p∈X.pn++pins,p.1≠b
theorem Inv.fpOk{b:Addr}(I:Inv X pins σ H s)(hb:s.heap.objs.size<=b)(hn:H' b=none):FJ X pins H' b:=by
 erw[hn,OC (GS I.lt hb),I.nofs hb,.inr (Lg I.sz hb),λx c e z=>?_,λp O z=>?_]
 ·let#[v,q]:=I.cell x c e;rwa[absurd (GS q.lt (by rw[z];rwa[hb])) (Lk _)]
 ·rwa[absurd (GS (GP (I.pin p O).1) (by rw[z];rwa[hb])) (Lk _)]
structure kh (P:Program) (w:World) (K:Frag) (tg:Expr) (J:It) (fp:List Addr) (it:Addr) (tn:Nat->Heap->Prop):Prop where
 mem:it∈fp
 obj:∀i h,tn i h->∀b∈fp,∃o,h.get? b=some o/\∀v,o.data≠.cell v
 keep:∀i h h',tn i h->(∀b∈fp,∀o,h.get? b=some o->h'.get? b=some o)->tn i h'
 item:∀(X:Cx),X.prog=P->X.w=w->X.K=K->X.calm=true->∀(i:Nat) (pins:List (Addr×Obj)) (s:Shared) (σ:St) (H:Hp) (E:Value->Shared->Prop),Inv X pins σ H s->(∀b∈fp,FJ X pins H b)->tn i s.heap->J.go i H->
  wpAny (model P w) X.A (pyNext (.ref it)) (λr s1=>∃u,r=some u/\
   wpAny (model P w) X.A (letOwnedTupleGo tg (.ref it) u) (λ_ s2=>∃x H',Inv X pins σ H' s2/\Fy x u/\J.yld i H x H'/\tn (i+1) s2.heap/\∀b∈fp,H' b=none) E s1) E s
 done:∀(X:Cx),X.prog=P->X.w=w->X.K=K->X.calm=true->∀(i:Nat) (pins:List (Addr×Obj)) (s:Shared) (σ:St) (H:Hp) (E:Value->Shared->Prop),Inv X pins σ H s->(∀b∈fp,FJ X pins H b)->tn i s.heap->J.stop i H->
  wpAny (model P w) X.A (pyNext (.ref it)) (λr s1=>r=none/\Inv X pins σ H s1) E s
 self:∀(A:Around) (i:Nat) (s:Shared) (Q:Value->Shared->Prop) (E:Value->Shared->Prop),tn i s.heap->Q (.ref it) s->wpAny (model P w) A (pyIter (.ref it)) Q E s
abbrev TI:=St->Hp->(It->Hp->Prop)->Prop
def PIE(X:Cx)(pins:List (Addr×Obj))(σ:St)(tg:Expr)(R:It->Hp->Prop)(itv:Value)(s2:Shared):Prop:=
 ∃(it:Addr) (fp:List Addr) (tn:Nat->Heap->Prop) (J:It) (H':Hp),itv=.ref it/\Inv X pins σ H' s2/\kh X.prog X.w X.K tg J fp it tn/\tn 0 s2.heap/\(∀b∈fp,FJ X pins H' b)/\R J H'
def PI(X:Cx)(tg iter:Expr)(wi:TI):Prop:=
 ∀(pins:List (Addr×Obj)) (s:Shared) (σ:St) (H:Hp) (R:It->Hp->Prop),Inv X pins σ H s->wi σ H R->
  wpAny (model X.prog X.w) X.A (eval iter X.env) (λv s1=>wpAny (model X.prog X.w) X.A (pyIter v) (PIE X pins σ tg R) X.xe s1) X.xe s
theorem qC{A:Around}{o:Obj}{n:String}{vs:Array Value}{Q:Unit->Shared->Prop}(ho:s.heap.get? it=some o)(hc:o.cls=.type n)(hd:o.data=.fields vs)(hn:["enumerate", "zip", "dict_itemiterator", "dict_reverseitemiterator", "odict_iterator", "itertools.zip_longest", "itertools.pairwise"].contains n=false)(hQ:Q ⟨⟩ s):wpAny M A (letOwnedTupleGo tg (.ref it) u) Q E s:=by
 unfold letOwnedTupleGo;cases tg<;>first
  |rwa[i_ hQ]
  |(cases u<;>first
    |rwa[i_ hQ]
    |(erw[c_ (wpAny_load ho ?_)]
      rw[hc,hd];show wpAny M A (if (["enumerate", "zip", "dict_itemiterator", "dict_reverseitemiterator", "odict_iterator", "itertools.zip_longest", "itertools.pairwise"].contains n&&vs[0]? == some (rawInt _))=true then _ else _) Q E s
      rw[t_ (by intro h;rw[hn,Bool.false_and] at h;cases h)]
      rwa[i_ hQ]))
def Itl(K:Frag)(a:Addr):It:=
 #[λi H=>∃xs x,SqL K H a xs/\xs[i]? = some x,λi H x H'=>H'=H/\∀xs,SqL K H a xs->xs[i]? = some x,λi H=>∃xs,SqL K H a xs/\xs.length<=i]
def Itt(K:Frag)(a:Addr):It:=
 #[λi H=>∃xs x,SqT K H a xs/\xs[i]? = some x,λi H x H'=>H'=H/\∀xs,SqT K H a xs->xs[i]? = some x,λi H=>∃xs,SqT K H a xs/\xs.length<=i]
def Itr(lo:Int)(n:Nat):It:=#[λi _=>i<n,λi H x H'=>H'=H/\x=.int (lo+i),λi _=>n<=i]
theorem vZ{w:World}{K:Frag}(a it:Addr):kh P w K tg (Itl K a) [it] it (λi h=>h.IsListIter it a i) where
 mem:=by simp
 obj:=λi h st b O=>by
  have e:b=it:=by simpa using O
  subst e;let#[o,e,c,d]:=st;rwa[o,e,λv z=>by rw[d] at z;cases z]
 keep:=λi h h' st k=>st.at λo e=>k it (by simp) o e
 item:=by
  intro X hP hw hK hc i pins s σ H E I Y st hg;subst hP hw hK;let#[xs,x,Z,hx]:=hg;let#[its,rv,p,hz]:=I.list Z;let#[u,hu,ru]:=rv.get hx;let#[f0,f1,f2,f3,f4,f5]:=Y it (by simp)
  erw[wpAny_pyNext_list_item st p.isList (x:=u) (by simpa using hu) λh' U sb=>?_]
  have I1:Inv X pins σ H { s with heap:=h' }:=I.turned (t':=s.toks) (λb o O e=>(sb.2 b O).trans e) f0 f1 f3 f4 f5
  let#[o,e,c,d]:=id U;rwa[u,1,qC (s:={ s with heap:=h' }) e c d #[] #[24,x,H,I1,ru,#[1,λys hy=>by rw[I.list_inj hy Z];rwa[hx]],U,λb O=>(Y b O).1]]
 done:=by
  intro X hP hw hK hc i pins s σ H E I Y st hg;subst hP hw hK;let#[xs,Z,hx]:=hg;let#[its,rv,p,hz]:=I.list Z;let#[f0,f1,f2,f3,f4,f5]:=Y it (by simp)
  have hl:=rv.length;rwa[wpAny_pyNext_list_end (I.ok.hd hc) st p.isList (by simp;lia) λh' eb=>#[1,I.turned (t':=s.toks) (λb o O e=>eb b o O e) f0 f1 f3 f4 f5]]
 self:=λ_ _ _ _ _ st h=>wpAny_pyIter_listiter st h
theorem sH{w:World}{K:Frag}(a it:Addr):kh P w K tg (Itt K a) [it] it (λi h=>h.IsTupleIter it a i) where
 mem:=by simp
 obj:=λi h st b O=>by
  have e:b=it:=by simpa using O
  subst e;let#[o,e,c,d]:=st;rwa[o,e,λv z=>by rw[d] at z;cases z]
 keep:=λi h h' st k=>st.at λo e=>k it (by simp) o e
 item:=by
  intro X hP hw hK hc i pins s σ H E I Y st hg;subst hP hw hK;let#[xs,x,Z,hx]:=hg;let#[its,rv,p,hz]:=I.tuple Z;let#[u,hu,ru]:=rv.get hx;let#[f0,f1,f2,f3,f4,f5]:=Y it (by simp)
  erw[wpAny_pyNext_tuple_item st (show s.heap.IsTuple a its.toArray from p) (x:=u) (by simpa using hu) λh' U sb=>?_]
  have I1:Inv X pins σ H { s with heap:=h' }:=I.turned (t':=s.toks) (λb o O e=>(sb.2 b O).trans e) f0 f1 f3 f4 f5
  let#[o,e,c,d]:=id U;rwa[u,1,qC (s:={ s with heap:=h' }) e c d #[] #[24,x,H,I1,ru,#[1,λys hy=>by rw[I.tuple_inj hy Z];rwa[hx]],U,λb O=>(Y b O).1]]
 done:=by
  intro X hP hw hK hc i pins s σ H E I Y st hg;subst hP hw hK;let#[xs,Z,hx]:=hg;let#[its,rv,p,hz]:=I.tuple Z;let#[f0,f1,f2,f3,f4,f5]:=Y it (by simp)
  have hl:=rv.length;rwa[wpAny_pyNext_tuple_end (I.ok.hd hc) st (show s.heap.IsTuple a its.toArray from p) (by simp;lia) λh' eb=>#[1,I.turned (t':=s.toks) (λb o O e=>eb b o O e) f0 f1 f3 f4 f5]]
 self:=λ_ _ _ _ _ st h=>wpAny_pyIter_tupleiter st h
theorem rV{w:World}{K:Frag}(it:Addr)(lo:Int)(n:Nat):kh P w K tg (Itr lo n) [it] it (λi h=>IsRangeIter h it (lo+(i:Nat)*1) ((n:Int)-(i:Nat)) 1) where
 mem:=by simp
 obj:=λi h st b O=>by
  have e:b=it:=by simpa using O
  subst e;rwa[_,st,λv z=>by
   have z':Data.fields _=Data.cell v:=z;cases z']
 keep:=λi h h' st k=>k it (by simp) _ st
 item:=by
  intro X hP hw hK hc i pins s σ H E I Y st hg;subst hP hw hK;let#[Z,f1,f2,f3,f4,f5]:=Y it (by simp)
  have W:=Walks.range (prog:=X.prog) (w:=X.w) (I.ok.hd hc) it lo 1 n;erw[W.item i s _ _ hg st λv h' tk hv U kk=>?_]
  let#[t,1]:=hv;have I1:Inv X pins σ H { s with heap:=h',toks:=tk }:=I.turned (λb o O e=>kk b o (by simpa using O) e) Z f1 f3 f4 f5
  erw[0,qC (s:={ s with heap:=h',toks:=tk }) (n := "range_iterator") U rfl rfl #[] #[24,.int (lo+i),H,I1,#[t,?_],#[1,1],U,λb O=>(Y b O).1]]
  rw[Oy]
 done:=by
  intro X hP hw hK hc i pins s σ H E I Y st hg;subst hP hw hK;let#[Z,f1,f2,f3,f4,f5]:=Y it (by simp)
  rwa[wpAny_pyNext_range_end (I.ok.hd hc) st (by have:n<=i:=hg;lia) λh' eb=>#[1,I.turned (t':=s.toks) (λb o O e=>eb b o O e) Z f1 f3 f4 f5]]
 self:=λ_ _ _ _ _ st h=>wpAny_pyIter_rangeiter st h
section
def yP(K:Frag)(tl:TE):TI:=λσ H R=>tl σ H λx H1=>∃a,x=.ref a/\(∃xs,SqL K H1 a xs)/\R (Itl K a) H1
def C1(K:Frag)(tl:TE):TI:=λσ H R=>tl σ H λx H1=>∃a,x=.ref a/\(∃xs,SqT K H1 a xs)/\R (Itt K a) H1
theorem Bg(hl:PE X l tl):PI X tg l (yP X.K tl):=by
 intro pins s σ H R I h;erw[thn (hl pins s σ H _ I h) λv s1 ⟨x,H1,O,r1,Z⟩=>?_]
 let#[a,e,#[xs,Y],q]:=Z;subst e;cases r1;let#[its,rv,p,hz]:=O.list Y;erw[MW p.isList ?_];erw[4015,s1.heap.objs.size,[s1.heap.objs.size],_,_,H1,1,O.kept (t':=s1.toks) λb o e=>h_ _ e,vZ a _,#[_,z_ _ rfl,1,1],λb U=>?_,q]
 have e:b=s1.heap.objs.size:=by simpa using U
 subst e;rwa[O.fpOk (ge _) (O.hok.fresh (ge _))]
theorem DN(hl:PE X l tl):PI X tg l (C1 X.K tl):=by
 intro pins s σ H R I h;erw[thn (hl pins s σ H _ I h) λv s1 ⟨x,H1,O,r1,Z⟩=>?_]
 let#[a,e,#[xs,Y],q]:=Z;subst e;cases r1;let#[its,rv,p,hz]:=O.tuple Y;erw[NN (show s1.heap.IsTuple a its.toArray from p) ?_]
 erw[4015,s1.heap.objs.size,[s1.heap.objs.size],_,_,H1,1,O.kept (t':=s1.toks) λb o e=>h_ _ e,sH a _,#[_,z_ _ rfl,1,1],λb U=>?_,q]
 have e:b=s1.heap.objs.size:=by simpa using U
 subst e;rwa[O.fpOk (ge _) (O.hok.fresh (ge _))]
theorem qt{R:It->Hp->Prop}{hi:Int}{t u v:Tok}{tk:Nat}(I:Inv X pins σ H s)(h1:-(2^62)<=lo)(h2:lo<2^62)(h3:-(2^62)<=hi)(h4:hi<2^62)(q:R (Itr lo (hi-lo).toNat) H):wpAny (model X.prog X.w) X.A (pyIter (.ref s.heap.objs.size)) (PIE X pins σ tg R) E { s with heap:=s.heap.push { cls:=.type "range",data:=.fields (List.toArray [.int lo t,.int hi u,.int 1 v]) },toks:=tk }:=by
 erw[wpAny_pyIter_range (IsRange.new ..) (small_one h1 h2 h3 h4) ?_];have O:Inv X pins σ H { s with heap:=s.heap.push { cls:=.type "range",data:=.fields (List.toArray [.int lo t,.int hi u,.int 1 v]) },toks:=tk }:=I.kept λb o e=>h_ _ e
 erw[4015,(s.heap.push { cls:=.type "range",data:=.fields (List.toArray [.int lo t,.int hi u,.int 1 v]) }).objs.size,[(s.heap.push { cls:=.type "range",data:=.fields (List.toArray [.int lo t,.int hi u,.int 1 v]) }).objs.size],_,_,H,1,
  O.kept (t':=tk) λb o e=>h_ _ e,rV _ lo (hi-lo).toNat,?_,λb Y=>?_,q]
 ·have U:lo+((0:Nat):Int)*1=lo:=by simp
  have e2:(((hi-lo).toNat:Nat):Int)-((0:Nat):Int)=Builtin.Range.rangeSize lo hi 1:=by rw[rangeSize_one];split<;>lia
  show IsRangeIter _ _ (lo+((0:Nat):Int)*1) ((((hi-lo).toNat:Nat):Int)-((0:Nat):Int)) 1;rw[U,e2];rwa[z_ _ rfl]
 ·have e:b=(s.heap.push { cls:=.type "range",data:=.fields (List.toArray [.int lo t,.int hi u,.int 1 v]) }).objs.size:=by simpa using Y
  subst e;rwa[O.fpOk (ge _) (O.hok.fresh (ge _))]
def E5(ta:TA):TI:=λσ H R=>ta σ H λvs H1=>∃j:Int,vs=[.int j]/\-(2^62)<=j/\j<2^62/\R (Itr 0 j.toNat) H1
def Ex(ta:TA):TI:=λσ H R=>ta σ H λvs H1=>∃i j:Int,vs=[.int i,.int j]/\(-(2^62)<=i/\i<2^62/\-(2^62)<=j/\j<2^62)/\R (Itr i (j-i).toNat) H1
theorem bj{a:Expr}{ta:TA}(hg:Gl X "range")(hm:X.mg "range" = none)(ha:PA X [a] ta)(hs:starEach [a] X.env=[(false,eval a X.env)]:=by rfl):PI X tg (.Call (.Name "range" p) [a] [] pos) (E5 ta):=by
 intro pins s σ H R I h;erw[Call_ (dM I hg hm boot_range (LH (thn (ha pos pins s σ H _ I h) λus s1 ⟨vs,H1,U,Z,O⟩=>?_) hs rfl))]
 let#[j,e,O,Y,q]:=O;subst e;cases Z with
 |cons r rr=>
  cases rr;let#[t,1]:=r;rwa[call_range_1 (qt U () () O Y (by simpa using q))]
theorem nE{a b:Expr}{ta:TA}(hg:Gl X "range")(hm:X.mg "range" = none)(ha:PA X [a,b] ta)(hs:starEach [a,b] X.env=[(false,eval a X.env),(false,eval b X.env)]:=by rfl)(hs2:starEach [b] X.env=[(false,eval b X.env)]:=by rfl):
  PI X tg (.Call (.Name "range" p) [a,b] [] pos) (Ex ta):=by
 intro pins s σ H R I h;erw[Call_ (dM I hg hm boot_range (LH (thn (ha pos pins s σ H _ I h) λus s1 ⟨vs,H1,U,r1,O⟩=>?_) (by rw[hs,hs2]) (by rw[hs2];rfl)))]
 let#[i,j,e,#[O,Y,Z,q4],q]:=O;subst e;cases r1 with
 |cons r rr=>
  cases rr with
  |cons r' rr=>
   cases rr;let#[t,1]:=r;let#[t',1]:=r';rwa[call_range_2 (qt U O Y Z q4 q)]
def tFor(wi:TI)(g:TG)(tb:TS):TS:=λD σ H=>wi σ H λJ H1=>∃W:Nat->Nat->St->Hp->Prop,(∃m,W 0 m σ H1)/\∀i m σ H,W i m σ H->
 (J.stop i H/\D.nx σ H)\/(J.go i H/\∃N:St->Hp->Prop,(∀σ' H',N σ' H'->∃m',m'<m/\W (i+1) m' σ' H')/\∀x H',J.yld i H x H'->g x σ H' λσ2 H2=>tb { D with nx:=N,ct:=N,bk:=D.nx } σ2 H2)
def jc(fp:List Addr)(h:Heap):List (Addr×Obj):=fp.filterMap λb=>(h.get? b).map λo=>(b,o)
theorem cN{b:Addr}{o:Obj}(hb:b∈fp)(e:h.get? b=some o):(b,o)∈jc fp h:=OD.mpr #[b,hb,by rw[e];rfl]
theorem wP{p:Addr×Obj}(hp:p∈jc fp h):p.1∈fp/\h.get? p.1=some p.2:=by
 let#[b,U,e]:=OD.mp hp;cases q:h.get? b with
 |none=>rw[q] at e;cases e
 |some o=>
  rw[q] at e;have O:(b,o)=p:=G_ e;subst O;rwa[U,q]
theorem Inv.pinned(I:Inv X pins σ H s)(hf:∀b∈fp,FJ X pins H b)(ho:∀b∈fp,∃o,s.heap.get? b=some o/\∀v,o.data≠.cell v):Inv X (pins++jc fp s.heap) σ H s:=
 I.pins_of λp hp=>(KI.mp hp).elim (λz=>I.pin p (KC _ z)) λz=>by
  let#[U,e]:=wP z;let#[Y,Z,f2,_]:=hf p.1 U;let#[o,O,d]:=ho p.1 U;rw[e] at O;cases O;rwa[e,Y,Z,f2,d]
theorem Inv.unpinned{pl:List (Addr×Obj)}(I:Inv X (pins++pl) σ H s):Inv X pins σ H s:=I.pins_of λp O=>I.pin p (KC _ (Mn _ O))
theorem bi{iter:Expr}{wi:TI}{g:TG}(hp:PassesOwn (model X.prog X.w) X.A X.env X.xe)(hc:X.calm=true)(hi:PI X tg iter wi)(hg:PG X tg g)(Z:PSs X body tb)(hs:∀x,foldedSetIterable iter X.env x=pure x:=by intro _;rfl):PS X (.For tg iter body [] pos) (tFor wi g tb):=by
 intro pins s σ H D I h;erw[wpAny_For (thn (hi pins s σ H _ I h) λv s1 h1=>thn h1 λau s2 h2=>?_) hs]
 let#[it,fp,tn,J,H2,e,I2,T,ad,f2,W,#[m0,w0],turn]:=h2;subst e;have a6:∀{H':Hp},(∀b∈fp,H' b=none)->∀b∈fp,FJ X pins H' b:=λhn b Z=>#[hn b Z,(f2 b Z).2]
 erw[codeAny_forLoop_any (λn s'=>∃i σ' H',Inv X pins σ' H' s'/\tn i s'.heap/\(∀b∈fp,H' b=none)/\W i n σ' H') ?_ m0 #[33,(0),σ,H2,I2,ad,λb Z=>(f2 b Z).1,w0]]
 rintro n s3 ⟨i,σ3,H3,I3,a9,a8,w3⟩
 rcases turn i n σ3 H3 w3 with⟨stop,qn⟩|⟨go,N,hN,step⟩
 ·erw[N4 hp (thn (T.done X rfl rfl rfl hc i pins s3 σ3 H3 X.xe I3 (a6 a8) a9 stop) λr s4 ⟨hr,I4⟩=>?_)]
  subst hr;rwa[wpAny_execs_nil #[21,σ3,H3,I4,qn]]
 ·erw[N4 hp (thn (T.item X rfl rfl rfl hc i pins s3 σ3 H3 X.xe I3 (a6 a8) a9 go) λr s4 ⟨u,hr,h4⟩=>?_)]
  subst hr;erw[N4 hp (thn h4 λ_ s5 ⟨x,H5,I5,r5,y5,a7,ac⟩=>?_)]
  have a':=I5.pinned (a6 ac) (T.obj _ _ a7);erw[N4 hp (thn (hg _ s5 σ3 H5 x u _ a' r5 (step x H5 y5)) λ_ s6 ⟨σ6,H6,I6,q6⟩=>?_)]
  erw[N4 hp (thn (Z _ s6 σ6 H6 _ I6 q6) λf s7 q7=>?_)]
  have Y:∀{σ7:St} {O:Hp},Inv X (pins++jc fp s5.heap) σ7 O s7->N σ7 O->∃m,m<n/\∃i σ' H',Inv X pins σ' H' s7/\tn i s7.heap/\(∀b∈fp,H' b=none)/\W i m σ' H':=λ{σ7 O} U n7=>by
   let#[m',hm,w7]:=hN σ7 O n7;erw[73,m',hm,i+1,σ7,O,U.unpinned,T.keep _ _ _ a7 λb Z o e=>(U.pin (b,o) (KC _ (KC _ (cN Z e)))).1,λb Z=>?_,w7]
   let#[o,e,d]:=T.obj _ _ a7 b Z;exact(U.pin (b,o) (KC _ (KC _ (cN Z e)))).2.1
  cases f with
  |next=>let#[σ7,O,U,n7]:=q7;rwa[Y U n7]
  |cont=>let#[σ7,O,U,n7]:=q7;rwa[Y U n7]
  |brk=>let#[σ7,O,U,q7]:=q7;rwa[21,σ7,O,U.unpinned,q7]
  |ret v=>let#[x7,σ7,O,U,r7,q7]:=q7;rwa[32,x7,σ7,O,U.unpinned,r7,q7]
end
theorem eA{K:Frag}{g:TG}(Pv:Nat->St->Hp->Prop)(h0:Pv 0 σ H)(hl:∀i σ H,i<=xs.length->Pv i σ H->SqL K H a xs)(hs:∀i x σ H,xs[i]? = some x->Pv i σ H->g x σ H λσ2 H2=>tb { D with nx:=Pv (i+1),ct:=Pv (i+1),bk:=D.nx } σ2 H2)(hd:∀σ H,Pv xs.length σ H->D.nx σ H):
  ∃W:Nat->Nat->St->Hp->Prop,(∃m,W 0 m σ H)/\∀i m σ H,W i m σ H->
   ((Itl K a).stop i H/\D.nx σ H)\/((Itl K a).go i H/\∃N:St->Hp->Prop,(∀σ' H',N σ' H'->∃U,U<m/\W (i+1) U σ' H')/\∀x H',(Itl K a).yld i H x H'->g x σ H' λσ2 H2=>tb { D with nx:=N,ct:=N,bk:=D.nx } σ2 H2):=by
 erw[λi m σ H=>m=xs.length-i/\i<=xs.length/\Pv i σ H,#[xs.length,by simp,Gw _,h0],?_]
 rintro i m σ H ⟨rfl,hi,p⟩;have q:=hl i σ H hi p
 by_cases O:i<xs.length
 ·erw[.inr #[#[21,xs,xs[i],q,by simp[O]],Pv (i+1),λσ' H' Y=>#[xs.length-(i+1),(),1,O,Y],λx H' y=>?_]]
  let#[e,y]:=y;subst e;rwa[hs i x σ _ (y xs q) p]
 ·have e:i=xs.length:=()
  subst e;rwa[.inl #[#[xs,q,ge _],hd σ H p]]
theorem A2{K:Frag}{g:TG}(Pv:Nat->St->Hp->Prop)(h0:Pv 0 σ H)(hl:∀i σ H,i<=xs.length->Pv i σ H->SqT K H a xs)(hs:∀i x σ H,xs[i]? = some x->Pv i σ H->g x σ H λσ2 H2=>tb { D with nx:=Pv (i+1),ct:=Pv (i+1),bk:=D.nx } σ2 H2)(hd:∀σ H,Pv xs.length σ H->D.nx σ H):
  ∃W:Nat->Nat->St->Hp->Prop,(∃m,W 0 m σ H)/\∀i m σ H,W i m σ H->
   ((Itt K a).stop i H/\D.nx σ H)\/((Itt K a).go i H/\∃N:St->Hp->Prop,(∀σ' H',N σ' H'->∃U,U<m/\W (i+1) U σ' H')/\∀x H',(Itt K a).yld i H x H'->g x σ H' λσ2 H2=>tb { D with nx:=N,ct:=N,bk:=D.nx } σ2 H2):=by
 erw[λi m σ H=>m=xs.length-i/\i<=xs.length/\Pv i σ H,#[xs.length,by simp,Gw _,h0],?_]
 rintro i m σ H ⟨rfl,hi,p⟩;have q:=hl i σ H hi p
 by_cases O:i<xs.length
 ·erw[.inr #[#[21,xs,xs[i],q,by simp[O]],Pv (i+1),λσ' H' Y=>#[xs.length-(i+1),(),1,O,Y],λx H' y=>?_]]
  let#[e,y]:=y;subst e;rwa[hs i x σ _ (y xs q) p]
 ·have e:i=xs.length:=()
  subst e;rwa[.inl #[#[xs,q,ge _],hd σ H p]]
theorem mZ{g:TG}(Pv:Nat->St->Hp->Prop)(h0:Pv 0 σ H)(hs:∀i σ H,i<n->Pv i σ H->g (.int (lo+i)) σ H λσ2 H2=>tb { D with nx:=Pv (i+1),ct:=Pv (i+1),bk:=D.nx } σ2 H2)(hd:∀σ H,Pv n σ H->D.nx σ H):
  ∃W:Nat->Nat->St->Hp->Prop,(∃m,W 0 m σ H)/\∀i m σ H,W i m σ H->
   ((Itr lo n).stop i H/\D.nx σ H)\/((Itr lo n).go i H/\∃N:St->Hp->Prop,(∀σ' H',N σ' H'->∃U,U<m/\W (i+1) U σ' H')/\∀x H',(Itr lo n).yld i H x H'->g x σ H' λσ2 H2=>tb { D with nx:=N,ct:=N,bk:=D.nx } σ2 H2):=by
 erw[λi m σ H=>m=n-i/\i<=n/\Pv i σ H,#[n,by simp,Gw _,h0],?_]
 rintro i m σ H ⟨rfl,hi,p⟩
 by_cases O:i<n
 ·erw[.inr #[O,Pv (i+1),λσ' H' Y=>#[n-(i+1),(),1,O,Y],λx H' y=>?_]]
  let#[e,y]:=y;subst e y;rwa[hs i σ _ O p]
 ·have e:i=n:=()
  subst e;rwa[.inl #[ge _,hd σ H p]]
theorem e9{c:TT}(Pv:St->Hp->Prop)(μ:St->Hp->Nat)(h0:Pv σ H)(hs:∀σ H,Pv σ H->c σ H λb H1=>if b=true then tb { D with nx:=λσ' H'=>Pv σ' H'/\μ σ' H'<μ σ H,ct:=λσ' H'=>Pv σ' H'/\μ σ' H'<μ σ H,bk:=D.nx } σ H1 else D.nx σ H1)(mono:∀σ H Q Q',(∀b H1,Q b H1->Q' b H1)->c σ H Q->c σ H Q'):yC c tb D σ H:=by
 erw[λm σ H=>m=μ σ H/\Pv σ H,#[0,h0],?_]
 rintro m σ H ⟨rfl,p⟩;erw[mono σ H _ _ (λb H1 q=>?_) (hs σ H p)]
 cases b with
 |true=>rwa[_,λσ' H' ⟨O,l⟩=>#[_,l,1,O],q]
 |false=>rwa[q]
abbrev R2:=V->V->Hp->VK->Prop
def OpR(X:Cx)(f:Value->Value->Sem Value)(r:R2):Prop:=
 ∀(pins:List (Addr×Obj)) (s:Shared) (σ:St) (H:Hp) (x y:V) (v u:Value) (Q:VK),Inv X pins σ H s->Fy x v->Fy y u->r x y H Q->
  wpAny (model X.prog X.w) X.A (f v u) (EP X pins σ Q) X.xe s
def UnR(X:Cx)(f:Value->Sem Value)(r:V->Hp->VK->Prop):Prop:=
 ∀(pins:List (Addr×Obj)) (s:Shared) (σ:St) (H:Hp) (x:V) (v:Value) (Q:VK),Inv X pins σ H s->Fy x v->r x H Q->
  wpAny (model X.prog X.w) X.A (f v) (EP X pins σ Q) X.xe s
def cq(X:Cx)(f:Value)(r:List V->Hp->VK->Prop):Prop:=
 ∀(pins:List (Addr×Obj)) (s:Shared) (σ:St) (H:Hp) (xs:List V) (us:List Value) (Q:VK),Inv X pins σ H s->Fw xs us->r xs H Q->
  wpAny (model X.prog X.w) X.A (call f us) (EP X pins σ Q) X.xe s
def tOp(r:R2)(ta tb:TE):TE:=λσ H Q=>ta σ H λx H1=>tb σ H1 λy H2=>r x y H2 Q
def tUn(r:V->Hp->VK->Prop)(ta:TE):TE:=λσ H Q=>ta σ H λx H1=>r x H1 Q
def rI(C:Int->Int->Prop)(g:Int->Int->V):R2:=λx y H Q=>∃i j,x=.int i/\y=.int j/\C i j/\Q (g i j) H
def rI0(g:Int->Int->V):R2:=λx y H Q=>∃i j,x=.int i/\y=.int j/\Q (g i j) H
def rU(g:Int->V):V->Hp->VK->Prop:=λx H Q=>∃i,x=.int i/\Q (g i) H
section
variable {a b:Expr}{tb tc:TE}
theorem DX(ha:PE X a ta)(hb:PE X b tb){R:V->V->Hp->Prop}(I:Inv X pins σ H s)(h:ta σ H λx H1=>tb σ H1 λy H2=>R x y H2)(hf:∀v u s2 x y H2,Inv X pins σ H2 s2->Fy x v->Fy y u->R x y H2->wpAny (model X.prog X.w) X.A (f v u) Q X.xe s2):
  wpAny (model X.prog X.w) X.A (eval a X.env) (λv s₁=>wpAny (model X.prog X.w) X.A (eval b X.env) (λu s₂=>wpAny (model X.prog X.w) X.A (f v u) Q X.xe s₂) X.xe s₁) X.xe s:=by
 erw[thn (ha pins s σ H _ I h) λv s1 ⟨x,H1,O,r1,Y⟩=>?_]
 erw[thn (hb pins s1 σ H1 _ O Y) λu s2 ⟨y,H2,U,r2,Z⟩=>?_]
 rwa[hf v u s2 x y H2 U r1 r2 Z]
theorem ap{op:Operator}{r:R2}(ho:OpR X (binaryOp op) r)(ha:PE X a ta)(hb:PE X b tb):PE X (.BinOp a op b pos) (tOp r ta tb):=by
 intro pins s σ H Q I h;rwa[wpAny_BinOp (DX ha hb I h λv u s2 x y H2 O U Y q=>ho pins s2 σ H2 x y v u Q O U Y q)]
theorem uO{op:UnaryOp}{r:V->Hp->VK->Prop}(ho:UnR X (unaryOp op) r)(ha:PE X a ta):PE X (.UnaryOp op a pos) (tUn r ta):=by
 intro pins s σ H Q I h;rwa[UnaryOp_ (thn (ha pins s σ H _ I h) λv s1 ⟨x,H1,O,Y,U⟩=>ho pins s1 σ H1 x v Q O Y U)]
theorem opI{C:Int->Int->Prop}(rule:∀(i j:Int) (t u:Tok) (s:Shared) (Q:Value->Shared->Prop) (E:Value->Shared->Prop),C i j->Q (.int (g i j) s.toks) { s with toks:=s.toks+1 }->wpAny (model X.prog X.w) X.A (f (.int i t) (.int j u)) Q E s):
  OpR X f (rI C λi j=>.int (g i j)):=by
 intro pins s σ H x y v u Q I U Y h;let#[i,j,1,1,O,q]:=h;let#[t,1]:=U;let#[t',1]:=Y;rwa[rule i j t t' s _ _ O #[22,.int (g i j),H,I.tok _,#[0],q]]
theorem C8(rule:∀(i j:Int) (t u:Tok) (s:Shared) (Q:Value->Shared->Prop) (E:Value->Shared->Prop),Q (.int (g i j) s.toks) { s with toks:=s.toks+1 }->wpAny (model X.prog X.w) X.A (f (.int i t) (.int j u)) Q E s):
  OpR X f (rI0 λi j=>.int (g i j)):=by
 intro pins s σ H x y v u Q I O U h;let#[i,j,1,1,q]:=h;let#[t,1]:=O;let#[t',1]:=U;rwa[rule i j t t' s _ _ #[22,.int (g i j),H,I.tok _,#[0],q]]
theorem BF{g:Int->Int->Bool}(rule:∀(i j:Int) (t u:Tok) (s:Shared) (Q:Value->Shared->Prop) (E:Value->Shared->Prop),Q (.bool (g i j)) s->wpAny (model X.prog X.w) X.A (f (.int i t) (.int j u)) Q E s):
  OpR X f (rI0 λi j=>.bl (g i j)):=by
 intro pins s σ H x y v u Q I O U h;let#[i,j,1,1,q]:=h;let#[t,1]:=O;let#[t',1]:=U;rwa[rule i j t t' s _ _ #[22,.bl (g i j),H,I,1,q]]
def CPow(i j:Int):Prop:=0<=j/\j<=1000000/\i.natAbs<2^64
def CMul(i j:Int):Prop:=(-(2^64)<i/\i<2^64)\/(-(2^64)<j/\j<2^64)
theorem CMul.ok{i j:Int}(h:CMul i j):IntMulOk i j:=by
 rcases h with⟨h1,h2⟩|⟨h1,h2⟩
 ·rwa[.of_left (intBits_le_64 h1 h2)]
 ·rwa[.of_right (intBits_le_64 h1 h2)]
theorem rD(k:Nat):(0:Int)<=2^k:=by
 rw[two_pow_cast];rwa[Int.natCast_nonneg _]
theorem aX:OpR X (binaryOp .Add) (rI0 λi j=>.int (i+j)):=C8 λ_ _ _ _ _ _ _ q=>add_int q
theorem bE:OpR X (binaryOp .Sub) (rI0 λi j=>.int (i-j)):=C8 λ_ _ _ _ _ _ _ q=>sub_int q
theorem bA:OpR X (binaryOp .Mult) (rI CMul λi j=>.int (i*j)):=opI λ_ _ _ _ _ _ _ O q=>mul_int q O.ok
theorem bC:OpR X (binaryOp .Mod) (rI (λ_ j=>0<j) λi j=>.int (i%j)):=opI λi j _ _ _ _ _ O q=>by
 have h1:(0:Int)<j:=O;rwa[mod_int' () (by rw[Int.fmod_eq_emod_of_nonneg i ()];rwa[q])]
theorem hV:OpR X (binaryOp .Pow) (rI CPow λi j=>.int (i^j.toNat)):=opI λ_ _ _ _ _ _ _ O q=>pow_int_small O.1 O.2.1 O.2.2 q
theorem DB:OpR X (binaryOp .RShift) (rI (λ_ j=>0<=j) λi j=>.int (i/2^j.toNat)):=opI λi j _ _ _ _ _ O q=>
 rshift_int O (by rw[Int.fdiv_eq_ediv_of_nonneg i (rD _)];rwa[q])
theorem sX:OpR X (binaryOp .BitAnd) (rI0 λi j=>.int (Builtin.bitAnd i j)):=C8 λ_ _ _ _ _ _ _ q=>and_int q
theorem unI{f:Value->Sem Value}{g:Int->Int}(rule:∀(i:Int) (t:Tok) (s:Shared) (Q:Value->Shared->Prop) (E:Value->Shared->Prop),Q (.int (g i) s.toks) { s with toks:=s.toks+1 }->wpAny (model X.prog X.w) X.A (f (.int i t)) Q E s):
  UnR X f (rU λi=>.int (g i)):=by
 intro pins s σ H x v Q I O h;let#[i,1,q]:=h;let#[t,1]:=O;rwa[rule i t s _ _ #[22,.int (g i),H,I.tok _,#[0],q]]
theorem pF:UnR X (unaryOp .USub) (rU λi=>.int (-i)):=unI λ_ _ _ _ _ q=>neg_int q
end
def Em:V->V->Bool
 |.non,.non=>true|.non,.int _=>true|.int _,.non=>true|.non,.bl _=>true|.bl _,.non=>true|.non,.str _=>true|.str _,.non=>true
 |.int _,.int _=>true|.bl _,.bl _=>true|.str _,.str _=>true|.byt _,.byt _=>true
 |.int _,.str _=>true|.str _,.int _=>true|.bl _,.str _=>true|.str _,.bl _=>true
 |_,_=>false
def rEq:R2:=λx y H Q=>Em x y=true/\Q (.bl (decide (x=y))) H
def rNe:R2:=λx y H Q=>Em x y=true/\Q (.bl (!decide (x=y))) H
theorem uk{i j:Int}:decide (V.int i=V.int j)=(i==j):=by
 rw[OP];simp
theorem yK{i j:Bool}:decide (V.bl i=V.bl j)=(i==j):=by
 rw[OP];simp
theorem vc{i j:Str}:decide (V.str i=V.str j)=(i==j):=by
 rw[OP];simp
theorem tV{i j:Array UInt8}:decide (V.byt i=V.byt j)=(i.toList==j.toList):=by
 rw[OP];cases i;cases j;simp
section
variable {a b:Expr}{tb tc:TE}
theorem aR{Q:VK}{k k':Bool}(I:Inv X pins σ H s)(q:Q (.bl k) H)(e:k=k'):EP X pins σ Q (.bool k') s:=by
 subst e;rwa[22,.bl k,H,I,1,q]
theorem dJ:OpR X (compareOp .Eq) rEq:=by
 intro pins s σ H x y v u Q I Y O h;let#[U,q]:=h;cases x with
 |non=>
  cases Y;cases y with
  |non=>cases O;rwa[PySem.EqNone.eq_none_none (aR I q (by simp))]
  |bl j=>cases O;rwa[PySem.EqNone.eq_none_bool (aR I q (by simp))]
  |int j=>let#[t',1]:=O;rwa[PySem.EqNone.eq_none_int (aR I q (by simp))]
  |str j=>let#[t',1]:=O;rwa[PySem.EqNone.eq_none_str (aR I q (by simp))]
  |_=>rwa[absurd (show false=true from U) GT]
 |bl i=>
  cases Y;cases y with
  |non=>cases O;rwa[PySem.EqNone.eq_bool_none (aR I q (by simp))]
  |bl j=>cases O;rwa[eq_bool (aR I q yK)]
  |str j=>let#[t',1]:=O;rwa[PySem.EqMixed.eq_bool_str (aR I q (by simp))]
  |_=>rwa[absurd (show false=true from U) GT]
 |int i=>
  let#[t,1]:=Y;cases y with
  |non=>cases O;rwa[PySem.EqNone.eq_int_none (aR I q (by simp))]
  |int j=>let#[t',1]:=O;rwa[eq_int (aR I q uk)]
  |str j=>let#[t',1]:=O;rwa[PySem.EqMixed.eq_int_str (aR I q (by simp))]
  |_=>rwa[absurd (show false=true from U) GT]
 |str i=>
  let#[t,1]:=Y;cases y with
  |non=>cases O;rwa[PySem.EqNone.eq_str_none (aR I q (by simp))]
  |bl j=>cases O;rwa[PySem.EqMixed.eq_str_bool (aR I q (by simp))]
  |int j=>let#[t',1]:=O;rwa[PySem.EqMixed.eq_str_int (aR I q (by simp))]
  |str j=>let#[t',1]:=O;rwa[eq_str (aR I q vc)]
  |_=>rwa[absurd (show false=true from U) GT]
 |byt i=>
  let#[t,1]:=Y;cases y with
  |byt j=>let#[t',1]:=O;rwa[PySem.W.eq_bytes (aR I q tV)]
  |_=>rwa[absurd (show false=true from U) GT]
 |_=>cases y<;>rwa[absurd (show false=true from U) GT]
theorem mL:OpR X (compareOp .NotEq) rNe:=by
 intro pins s σ H x y v u Q I Y O h;let#[U,q]:=h;cases x with
 |non=>
  cases Y;cases y with
  |non=>cases O;rwa[PySem.EqNone.ne_none_none (aR I q (by simp))]
  |bl j=>cases O;rwa[PySem.EqNone.ne_none_bool (aR I q (by simp))]
  |int j=>let#[t',1]:=O;rwa[PySem.EqNone.ne_none_int (aR I q (by simp))]
  |str j=>let#[t',1]:=O;rwa[PySem.EqNone.ne_none_str (aR I q (by simp))]
  |_=>rwa[absurd (show false=true from U) GT]
 |bl i=>
  cases Y;cases y with
  |non=>cases O;rwa[PySem.EqNone.ne_bool_none (aR I q (by simp))]
  |bl j=>cases O;rwa[ne_bool (aR I q (Ls not yK))]
  |str j=>let#[t',1]:=O;rwa[PySem.EqMixed.ne_bool_str (aR I q (by simp))]
  |_=>rwa[absurd (show false=true from U) GT]
 |int i=>
  let#[t,1]:=Y;cases y with
  |non=>cases O;rwa[PySem.EqNone.ne_int_none (aR I q (by simp))]
  |int j=>let#[t',1]:=O;rwa[ne_int (aR I q (Ls not uk))]
  |str j=>let#[t',1]:=O;rwa[PySem.EqMixed.ne_int_str (aR I q (by simp))]
  |_=>rwa[absurd (show false=true from U) GT]
 |str i=>
  let#[t,1]:=Y;cases y with
  |non=>cases O;rwa[PySem.EqNone.ne_str_none (aR I q (by simp))]
  |bl j=>cases O;rwa[PySem.EqMixed.ne_str_bool (aR I q (by simp))]
  |int j=>let#[t',1]:=O;rwa[PySem.EqMixed.ne_str_int (aR I q (by simp))]
  |str j=>let#[t',1]:=O;rwa[ne_str (aR I q (Ls not vc))]
  |_=>rwa[absurd (show false=true from U) GT]
 |byt i=>
  let#[t,1]:=Y;cases y with
  |byt j=>let#[t',1]:=O;rwa[PySem.W.ne_bytes (aR I q (Ls not tV))]
  |_=>rwa[absurd (show false=true from U) GT]
 |_=>cases y<;>rwa[absurd (show false=true from U) GT]
theorem jA:OpR X (compareOp .Lt) (rI0 λi j=>.bl (decide (i<j))):=BF λ_ _ _ _ _ _ _ q=>lt_int q
theorem nY:OpR X (compareOp .LtE) (rI0 λi j=>.bl (decide (i<=j))):=BF λ_ _ _ _ _ _ _ q=>le_int q
theorem gL:OpR X (compareOp .Gt) (rI0 λi j=>.bl (decide (j<i))):=BF λ_ _ _ _ _ _ _ q=>gt_int q
theorem Fn:OpR X (compareOp .GtE) (rI0 λi j=>.bl (decide (j<=i))):=BF λ_ _ _ _ _ _ _ q=>ge_int q
theorem yZ:OpR X (compareOp .Is) (λx y H Q=>y=.non/\Q (.bl (decide (x=.non))) H):=by
 intro pins s σ H x y v u Q I O U h;let#[1,q]:=h;cases U;erw[is_none_gen (aR I q ?_)];cases x<;>first
  |(cases O;rfl)
  |(let#[t,1]:=O;rfl)
theorem aA(b:Expr)(h:op≠.In:=by decide)(h2:op≠.NotIn:=by decide):behindInMarks op b=false:=by
 have O:(op==CmpOp.In)=false:=by cases op<;>first|rfl|rwa[absurd rfl h]
 have e2:(op==CmpOp.NotIn)=false:=by cases op<;>first|rfl|rwa[absurd rfl h2]
 cases b<;>simp[behindInMarks,O,e2]
theorem gv{r:R2}(ho:OpR X (compareOp op) r)(ha:PE X a ta)(hb:PE X b tb)(hm:behindInMarks op b=false):PE X (.Compare a [op] [b] pos) (tOp r ta tb):=by
 intro pins s σ H Q I h;rwa[wpAny_Compare1 (DX ha hb I h λv u s2 x y H2 O U Y q=>ho pins s2 σ H2 x y v u Q O U Y q) hm]
def B3(t:TE):TT:=λσ H Q=>t σ H λx H'=>∃k,x=.bl k/\Q k H'
theorem az{r:R2}(ho:OpR X (compareOp op) r)(ha:PE X a ta)(hb:PE X b tb)(hm:behindInMarks op b=false):PT X (.Compare a [op] [b] pos) (B3 (tOp r ta tb)):=by
 intro pins s σ H Q I h;erw[wpAny_isTrue_Compare1 (thn (ha pins s σ H _ I h) λv s1 ⟨x,H1,U,r1,q1⟩=>thn (hb pins s1 σ H1 _ U q1) λu s2 ⟨y,H2,Y,r2,q2⟩=>
  thn (ho pins s2 σ H2 x y v u _ Y r1 r2 q2) λc s3 ⟨z,O,Z,r3,k,e,q3⟩=>?_) hm]
 subst e;cases r3;rwa[MA #[O,Z,q3]]
def DF(r r':R2)(ta tb tc:TE):TE:=λσ H Q=>ta σ H λx H1=>tb σ H1 λy H2=>r x y H2 λz H3=>∃k,z=.bl k/\
 (if k=true then tc σ H3 λw' H4=>r' y w' H4 Q else Q (.bl false) H3)
theorem zE{op':CmpOp}{r r':R2}(ho:OpR X (compareOp op) r)(ho':OpR X (compareOp op') r')(ha:PE X a ta)(hb:PE X b tb)(hc:PE X c tc)(hm:lastMarks [op,op'] [b,c]=false:=by with_unfolding_all rfl):PT X (.Compare a [op,op'] [b,c] pos) (B3 (DF r r' ta tb tc)):=by
 intro pins s σ H Q I h;erw[isTrue_chain (thn (ha pins s σ H _ I h) λv s1 ⟨x,H1,I1,r1,q1⟩=>test_link (thn (hb pins s1 σ H1 _ I1 q1) λu s2 ⟨y,H2,I2,Z,q2⟩=>
  thn (ho pins s2 σ H2 x y v u _ I2 r1 Z q2) λd s3 ⟨z,O,U,r3,k,e,Y⟩=>?_)) hm]
 subst e;cases r3;erw[MA ?_];cases k with
 |false=>
  let#[k',e',q']:=Y;cases e';rwa[ite_ff #[O,U,q']]
 |true=>
  erw[ite_tt (test_last (thn (hc pins s3 σ O _ U Y) λw' s4 ⟨z',H4,I4,r4,q4⟩=>thn (ho' pins s4 σ H4 y z' u w' _ I4 Z r4 q4) λd' s5 ⟨z2,H5,I5,r5,k2,e2,q5⟩=>?_))]
  subst e2;cases r5;rwa[MA #[H5,I5,q5]]
theorem oA:(sizeLine:Nat)<2^63:=by rw[Gr];decide
theorem cJ{x:V}(r:Fw [x] us):∃u,us=[u]/\Fy x u:=by
 cases r with
 |cons r1 r2=>cases r2;rwa[0,r1]
theorem uz{x:V}(r:Fw [x,y] us):∃u O,us=[u,O]/\Fy x u/\Fy y O:=by
 cases r with
 |cons r1 r2=>
  cases r2 with
  |cons r3 r4=>cases r4;rwa[22,_,0,r1,r3]
theorem Ad:cq X (.builtin "abs") (λxs H Q=>∃i,xs=[.int i]/\Q (.int (if i<0 then -i else i)) H):=by
 intro pins s σ H xs us Q I r h;let#[i,1,q]:=h;let#[u,1,t,1]:=cJ r;rwa[call_abs_int λu tk=>#[22,.int (if i<0 then -i else i),H,I.tok _,#[0],q]]
theorem v7(hc:X.calm=true):cq X (.builtin "max") (λxs H Q=>∃i j,xs=[.int i,.int j]/\Q (.int (if j>i then j else i)) H):=by
 intro pins s σ H xs us Q I r h;let#[i,j,1,q]:=h;let#[u,U,1,#[t,1],#[t',1]]:=uz r;erw[max_two_ints (I.ok.hd hc) λh' tk k=>#[22,_,H,I.kept k,?_,q]]
 by_cases O:j>i
 ·rw[u_ O,u_ O];rwa[0]
 ·rw[t_ O,t_ O];rwa[0]
theorem wJ(hc:X.calm=true):cq X (.builtin "min") (λxs H Q=>∃i j,xs=[.int i,.int j]/\Q (.int (if j<i then j else i)) H):=by
 intro pins s σ H xs us Q I r h;let#[i,j,1,q]:=h;let#[u,U,1,#[t,1],#[t',1]]:=uz r;erw[min_two_ints (I.ok.hd hc) λh' tk k=>#[22,_,H,I.kept k,?_,q]]
 by_cases O:j<i
 ·rw[u_ O,u_ O];rwa[0]
 ·rw[t_ O,t_ O];rwa[0]
theorem mH:cq X (.type "int") (λxs H Q=>(∃i,xs=[.int i]/\Q (.int i) H)\/∃k,xs=[.bl k]/\Q (.int (if k then 1 else 0)) H):=by
 intro pins s σ H xs us Q I r h
 rcases h with⟨i,rfl,q⟩|⟨k,rfl,q⟩
 ·let#[u,1,t,1]:=cJ r;rwa[call_int_int #[22,.int i,H,I,#[0],q]]
 ·let#[u,1,O]:=cJ r;cases O;rwa[call_int_bool #[22,.int (if k then 1 else 0),H,I.tok _,#[0],q]]
end
structure ObjM (h:Heap) (x dx C:Addr) (mA:Str->Option Value):Prop where
 obj:h.get? x=some (instObj C dx)
 ns:h.Ns1 dx mA
 ne:dx≠x
theorem vS(n:h.Ns1 dx mA):∃od,h.get? dx=some od/\∀name,lookIn name od=some (mA name):=by
 let#[o,es,ep,Z,hd,hk,_,Y]:=n;erw[o,Z,λname=>?_]
 have e:=Y name;unfold nsFind findBy at e;rw[<- Array.find?_toList] at e;unfold lookIn;rw[hd];dsimp only
 split
 ·rename_i y q;rw[q] at e;rwa[Ls some e]
 ·rename_i q;rw[q] at e;have a:es.toList.any (·.refKey)=false:=by
   rw[List.any_eq_false];intro y hy;let#[z,t,O]:=hk y (Array.mem_toList_iff.mp hy);simp[DictEntry.refKey,O]
  have U:¬es.toList.any (·.refKey)=true:=by rw[a];rwa[GT]
  rw[t_ U];rwa[Ls some e]
theorem ObjM.look{x:Addr}(I:ObjM h x dx C mA):∃od,PySem.W.InstAt h x (instObj C dx) C (some od)/\∀name,lookIn name od=some (mA name):=
 let ⟨od,ho,hl⟩:=vS I.ns
 #[od,#[I.obj,1,1,ho],hl]
section
variable {prog:Program}{w:World}{A:Around}{K:Frag}{x f:Addr}{v:Value}
theorem AM{expr:Bool}(X:K.In s.heap)(I:ObjM s.heap x dx C mA)(hg:plainGet K C name=true)(hh:hasDictIn K C=true)(ha:findIn K (.ref C) name=some none)(hv:mA name=some v)(hv':PySem.W.handedIn v=true)(h:Q v { s with toks:=s.toks+1 }):
  wpAny (model prog w) A (getAttr (.ref x) name expr) Q E s:=by
 let#[od,J,O]:=I.look;rwa[PySem.W.get_value X J (PySem.W.plainGet_of hg).1 (PySem.W.findObj_own hh ha rfl (by rw[O,hv])) hv' h]
theorem ye{pl:Sem Bool}{Q:Value×List Value->Shared->Prop}(X:K.In s.heap)(I:ObjM s.heap x dx C mA)(hg:plainGet K C name=true)(hf:findIn K (.ref C) name=some (some (.ref f)))(ht:isFn K (.ref f)=true)(hv:mA name=none)(h:Q (.ref f,[.ref x]) s):
  wpAny (model prog w) A (getMethod (.ref x) name pl) Q E s:=by
 let#[od,J,O]:=I.look;rwa[PySem.W.method_fn X J (PySem.W.plainGet_of hg).1 (PySem.W.plainGet_of hg).2 hf (NO.mp ht) (by show(lookIn name od).map (·.isSome)=some false;rw[O,hv];rfl) h]
theorem Ax{ns:List Str}{Q:Unit->Shared->Prop}(X:K.In s.heap)(I:ObjM s.heap x dx C mA)(hs:findIn K (.ref C) "__setattr__"=some (some (.builtin "object.__setattr__")))(hp:PySem.W.plainOver K C=true)(ht:PySem.W.takerIn K C name=some none)(hh:hasDictIn K C=true)(hw:PySem.Within mA ns)(hsz:ns.length<=sizeLine)(h:∀h',ObjM h' x dx C (λy=>if y=name then some v else mA y)->Heap.SameBut dx s.heap h'->Q ⟨⟩ { s with heap:=h',toks:=s.toks+2 }):
  wpAny (model prog w) A (setAttr (.ref x) name v) Q E s:=by
 let#[od,J,hl]:=I.look;erw[PySem.W.set_plain X J hs (PySem.W.osa_open (s:={ s with toks:=s.toks+1 }) (r:=none) X J hp ht λb=>?_)]
 let#[cd,hc,Z]:=PySem.W.any_some hh;have hx:s.heap.get? x=some #[.ref C,some dx,.plain,(List.toArray [])]:=I.obj;erw[c_ (i_ (c_ (c_ (wpAny_loadPart hx (c_ (PySem.W.Looks.here (s:={ s with toks:=s.toks+1 }) (PySem.W.looks_clsIn X hc) ?_))))))]
 rw[Z];erw[i_ (a:=some dx) (c_ (i_ (c_ ?_)))];erw[wpAny_nsSet1 (s:={ s with toks:=s.toks+1 }) I.ns λh' O U=>?_]
 let#[oD,a9,a8,a7,a6,Y]:=O.count (PySem.Within.cons name v hw);erw[c_ (wpAny_lookBehind a7 (by rw[a6];rwa[pastItsLine_dict (Lg Y (by rw[Mf];lia))]) ?_)]
 rwa[i_ (h _ #[(U.2 _ (Ne.symm I.ne)).trans I.obj,O,I.ne] U)]
theorem yI{vs:List Value}(X:K.In s.heap)(hm:makesIn K C=true)(hi:findIn K (.ref C) "__init__"=some (some (.ref f)))(hf:PySem.W.typeIn K (.ref f)=some (.type "function"))(h:codeAny (model prog w) (A.under (.builtin "type.__call__" #[.ref C::vs,kw])) (.call (.ref f) #[.ref (s.heap.objs.size+1)::vs,kw]) (PySem.W.InitBack (s.heap.objs.size+1) R)
   { s with heap:=(s.heap.push emptyDict).push (instObj C s.heap.objs.size) }):
  codeAny (model prog w) A (.call (.ref C) #[vs,kw]) R s:=by
 let#[O,g,d,t,os]:=s;rwa[PySem.W.make_core (PySem.W.makes_of X hm) (PySem.W.looks_findIn X hi) (λself=>PySem.W.bind_fn X self hf) (.inl rfl) h]
theorem wg(X:K.In s.heap)(hm:makesIn K C=true)(hi:findIn K (.ref C) "__init__"=some (some (.builtin "object.__init__")))(hb:∀self,PySem.W.Looks (model prog w) s.heap (bindSpecial (.builtin "object.__init__") self) (.builtin "object.__init__",[self]))(h:codeAny (model prog w) (A.under (.builtin "type.__call__" #[[.ref C],[]])) (.call (.builtin "object.__init__") #[[.ref (s.heap.objs.size+1)],[]]) (PySem.W.InitBack (s.heap.objs.size+1) R)
   { s with heap:=(s.heap.push emptyDict).push (instObj C s.heap.objs.size) }):
  codeAny (model prog w) A (.call (.ref C) #[[],[]]) R s:=by
 let#[O,g,d,t,os]:=s;rwa[PySem.W.make_core (PySem.W.makes_of X hm) (PySem.W.looks_findIn X hi) hb (.inr #[1,1]) h]
end
def gE(f:Str)(v:V):List (Str×V)->List (Str×V)
 |[]=>[(f,v)]
 |(g,x)::r=>if g=f then(g,v)::r else(g,x)::gE f v r
theorem jH(f g:Str)(v:V):∀fs:List (Str×V),(gE f v fs).lookup g=if g=f then some v else fs.lookup g
 |[]=>by
  show List.lookup g [(f,v)]=_
  by_cases h:g=f
  ·have O:(g==f)=true:=NO.mpr h;simp only[List.lookup,O,u_ h]
  ·have O:(g==f)=false:=Mw.mpr h;simp only[List.lookup,O,t_ h]
 |(k,x)::r=>by
  have U:=jH f g v r;rw[show gE f v ((k,x)::r)=(if k=f then(k,v)::r else(k,x)::gE f v r) from rfl]
  by_cases hk:k=f
  ·rw[u_ hk]
   by_cases h:g=k
   ·have O:(g==k)=true:=NO.mpr h;simp only[List.lookup,O,u_ (h.trans hk)]
   ·have O:(g==k)=false:=Mw.mpr h;simp only[List.lookup,O,t_ (λe:g=f=>h (e.trans hk.symm))]
  ·rw[t_ hk]
   by_cases h:g=k
   ·have O:(g==k)=true:=NO.mpr h;simp only[List.lookup,O,t_ (λe:g=f=>hk (h.symm.trans e))]
   ·have O:(g==k)=false:=Mw.mpr h;simp only[List.lookup,O];rwa[U]
theorem ju(f:Str)(v:V):∀fs:List (Str×V),f∈(gE f v fs).map (·.1)/\∀g,g∈fs.map (·.1)->g∈(gE f v fs).map (·.1)
 |[]=>#[by simp[gE],λg h=>by simp at h]
 |(k,x)::r=>by
  let#[i1,i2]:=ju f v r;rw[show gE f v ((k,x)::r)=(if k=f then(k,v)::r else(k,x)::gE f v r) from rfl]
  by_cases hk:k=f
  ·rw[u_ hk];subst hk;rwa[by simp,λg h=>by simpa using h]
  ·rw[t_ hk];erw[?_,λg h=>?_]
   ·rw[K1];rwa[GG _ i1]
   ·rw[K1] at h ⊢
    rcases GH.mp h with e|e
    ·rwa[GH.mpr (.inl e)]
    ·rwa[GG _ (i2 g e)]
theorem jG(f:Str)(v:V):∀fs:List (Str×V),(gE f v fs).length<=fs.length+1
 |[]=>by simp[gE]
 |(k,x)::r=>by
  have O:=jG f v r;rw[show gE f v ((k,x)::r)=(if k=f then(k,v)::r else(k,x)::gE f v r) from rfl]
  by_cases hk:k=f
  ·rw[u_ hk,Mf,Mf];lia
  ·rw[t_ hk,Mf,Mf];lia
theorem F9.some_of{o:Option Value}(r:F9 (some v) o):∃u,o=some u/\Fy v u:=by
 cases o with
 |none=>exact(show False from r).elim
 |some u=>rwa[u,1,r]
theorem F9.none_of{o:Option Value}(r:F9 none o):o=none:=by
 cases o with
 |none=>rfl
 |some u=>exact(show False from r).elim
theorem wm(r:Fy v u):PySem.W.handedIn u=true:=by
 cases v with
 |non=>cases (show u=Value.none from r);rfl
 |bl b=>cases (show u=Value.bool b from r);rfl
 |int i=>let#[t,e]:=(show ∃t,u=Value.int i t from r);cases e;rfl
 |str x=>let#[t,e]:=(show ∃t,u=Value.str x t from r);cases e;rfl
 |byt b=>let#[t,e]:=(show ∃t,u=Value.bytes b t from r);cases e;rfl
 |flt b=>let#[t,e]:=(show ∃t,u=Value.float b t from r);cases e;rfl
 |ref a=>cases (show u=Value.ref a from r);rfl
 |ty n=>cases (show u=Value.type n from r);rfl
section
variable {w:World}{fs fs':List (Str×V)}
theorem pi(hok:HOk P w H h)(e:H a=some (.ins C dx fs)):∃mA,ObjM h a dx C mA/\(∀f,F9 (fs.lookup f) (mA f))/\PySem.Within mA (fs.map (·.1))/\fs.length<=1000/\H dx=some (.own a):=by
 let#[d,z,ne,ob,mA,n,r,q]:=(show FC P w H h a (.ins C dx fs) from hok a _ e)
 rwa[mA,#[ob,n,ne],r,q,z,d]
end
structure Cls (K:Frag) (C:Addr):Prop where
 pg:plainGet K C Str.empty=true
 hd:hasDictIn K C=true
 po:PySem.W.plainOver K C=true
 sa:findIn K (.ref C) "__setattr__"=some (some (.builtin "object.__setattr__"))
theorem Cls.get{K:Frag}(c:Cls K C)(f:Str):plainGet K C f=true:=c.pg
def Fx(K:Frag)(C:Addr)(f:Str):Prop:=findIn K (.ref C) f=some none
theorem Fx.taker{K:Frag}{f:Str}(n:Fx K C f):PySem.W.takerIn K C f=some none:=by
 unfold PySem.W.takerIn;rw[show findIn K (.ref C) f=some none from n]
 rfl
structure qg (K:Frag) (C:Addr) (m:Str) (f:Addr):Prop where
 at_:findIn K (.ref C) m=some (some (.ref f))
 fn:isFn K (.ref f)=true
 kp:keepIn K (.ref f)=true
section
variable {fs:List (Str×V)}{f:Str}{A:Around}
theorem sT{b:Bool}(I:Inv X pins σ H s)(e:H a=some (.ins C dx fs))(c:Cls X.K C)(n:Fx X.K C f)(l:fs.lookup f=some v)(h:∀u s',Inv X pins σ H s'->Fy v u->Q u s'):wpAny (model X.prog X.w) A (getAttr (.ref a) f b) Q E s:=by
 let#[mA,O,r,_,_,_]:=pi I.hok e;let#[u,Y,U]:=F9.some_of (v:=v) (o:=mA f) (by rw[<- l];rwa[r f])
 rwa[AM I.kIn O (c.get f) c.hd n Y (wm U) (h u _ (I.tok _) U)]
theorem k7{m:Str}{g:Addr}{pl:Sem Bool}{Q:Value×List Value->Shared->Prop}(I:Inv X pins σ H s)(e:H a=some (.ins C dx fs))(c:Cls X.K C)(k:qg X.K C m g)(l:fs.lookup m=none)(h:Q (.ref g,[.ref a]) s):wpAny (model X.prog X.w) A (getMethod (.ref a) m pl) Q E s:=by
 let#[mA,O,r,_,_,_]:=pi I.hok e;have U:mA m=none:=F9.none_of (by rw[<- l];rwa[r m])
 rwa[ye I.kIn O (c.get m) k.at_ k.fn U h]
theorem rO{Q:Unit->Shared->Prop}(I:Inv X pins σ H s)(e:H a=some (.ins C dx fs))(c:Cls X.K C)(n:Fx X.K C f)(hl:fs.length<1000)(ry:Fy y u)(h:∀s',Inv X pins σ (upd H a (.ins C dx (gE f y fs))) s'->Q ⟨⟩ s'):wpAny (model X.prog X.w) A (setAttr (.ref a) f u) Q E s:=by
 let#[mA,O,r,Z,_,Y]:=pi I.hok e;have hz:(fs.map (·.1)).length<=sizeLine:=by rw[k_,Gr];lia
 erw[Ax I.kIn O c.sa c.po n.taker c.hd Z hz λh' U sb=>h _ ?_]
 have hd:∃o,h'.get? dx=some o:=let ⟨o,_,_,e',_⟩:=U.ns;#[o,e']
 erw[I.write (x:=a) (e:=dx) (by rw[e];rwa[True.intro]) (.inr Y) (λb q hb z=>(sb.2 b hb).trans z) hd ?_]
 erw[by rw[al O.ne];rwa[Y],?_,O.ne,U.obj,_,U.ns,λg=>?_,λg hg=>?_]
 ·have:=jG f y fs;lia
 ·show F9 ((gE f y fs).lookup g) (if g=f then some u else mA g)
  rw[jH]
  by_cases q:g=f
  ·rw[u_ q,u_ q];rwa[ry]
  ·rw[t_ q,t_ q];rwa[r g]
 ·by_cases q:g=f
  ·rw[q];exact(ju f y fs).1
  ·refine(ju f y fs).2 g (Z g λz=>hg ?_)
   show(if g=f then some u else mA g)=none
   rw[t_ q];rwa[z]
theorem Inv.made(I:Inv X pins σ H s):Inv X pins σ (upd (upd H s.heap.objs.size (.own (s.heap.objs.size+1))) (s.heap.objs.size+1) (.ins C s.heap.objs.size []))
  { s with heap:=(s.heap.push emptyDict).push (instObj C s.heap.objs.size) }:=by
 have O:(s.heap.push emptyDict).get? s.heap.objs.size=some emptyDict:=z_ s.heap rfl;have e2:((s.heap.push emptyDict).push (instObj C s.heap.objs.size)).get? (s.heap.objs.size+1)=some (instObj C s.heap.objs.size):=by
  have:=z_ (s.heap.push emptyDict) (o:=instObj C s.heap.objs.size) rfl;rwa [MQ] at this
 have Y:(s.heap.push emptyDict).Ns s.heap.objs.size (λ_=>none):=#[33,emptyDict,(List.toArray []),_,O,1,(λe Z=>absurd Z (by simp)),λ_=>rfl]
 have U:=I.laid (a:=s.heap.objs.size) (o:=.own (s.heap.objs.size+1)) (h':=s.heap.push emptyDict) (t':=s.toks) (λb u q=>h_ _ q) (ge _) #[_,O]
 erw[U.laid (a:=s.heap.objs.size+1) (o:=.ins C s.heap.objs.size []) (t':=s.toks) (λb u q=>h_ _ q) (Nat.le_of_eq (MQ _ _)) ?_]
 have ne:s.heap.objs.size≠s.heap.objs.size+1:=GA (Ol _);erw[by rw[al ne,ae],Gw _,ne,e2,λ_=>none,(Heap.Ns1.of_empty Y).at λo q=>h_ _ q,λ_=>True.intro,λy hy=>absurd rfl hy]
theorem A6{prog:Program}{w:World}{env:Env}(hb:attributeBase e f env (eval e env)=eval e env)(h:wpAny (model prog w) A (eval e env) (λo O=>wpAny (model prog w) A (getAttr o f true) Q E O) E s):wpAny (model prog w) A (eval (.Attribute e f pos) env) Q E s:=
 Attribute_any_ h (by rw[arm_eval_Attribute,hb])
end
def Ew(K:Frag)(ta:TE)(f:Str):TE:=λσ H Q=>ta σ H λx H1=>∃a C dx fs v,x=.ref a/\H1 a=some (.ins C dx fs)/\Cls K C/\Fx K C f/\fs.lookup f=some v/\Q v H1
def sFld(K:Frag)(ta tv:TE)(f:Str):TS:=λD σ H=>tv σ H λy H1=>ta σ H1 λx H2=>∃a C dx fs,x=.ref a/\H2 a=some (.ins C dx fs)/\Cls K C/\Fx K C f/\fs.length<1000/\
 D.nx σ (upd H2 a (.ins C dx (gE f y fs)))
section
variable {o value:Expr}{f:Str}{tpos:Pos}{tv:TE}
theorem bq(he:PE X e ta)(hb:attributeBase e f X.env (eval e X.env)=eval e X.env):PE X (.Attribute e f pos) (Ew X.K ta f):=by
 intro pins s σ H Q I h;erw[A6 hb (thn (he pins s σ H _ I h) λu s1 ⟨x,H1,O,rx,a,C,dx,fs,v,ex,Y,c,n,l,q⟩=>?_)]
 subst ex;obtain rfl:u=Value.ref a:=rx;rwa[sT O Y c n l λu' s2 U Z=>#[22,v,H1,U,Z,q]]
theorem br(ha:PE X o ta)(hv:PE X value tv)(hs:swapsWith value (some (.Attribute o f pos')) pos.line X.env=pure false):PS X (.Assign [.Attribute o f pos'] value pos) (sFld X.K ta tv f):=by
 intro pins s σ H D I h;erw[plainObj_wpAny_Assign_Attribute (thn (hv pins s σ H _ I h) λu s1 ⟨y,H1,O,ry,q⟩=>thn (ha pins s1 σ H1 _ O q) λov s2 ⟨x,H2,U,rx,a,C,dx,fs,ex,Z,c,n,l,q2⟩=>?_) hs]
 subst ex;obtain rfl:ov=Value.ref a:=rx;rwa[rO U Z c n l ry λs3 Y=>#[21,σ,_,Y,q2]]
end
structure FD (k:Nat) (A:Around):Prop where
 hd:A.handled=none
 dp:A.depth+3*k+5<recursionLimit
 un:A.units+16*k+200<cLine
theorem FD.mono{k:Nat}{A:Around}(r:FD k A)(h:j<=k):FD j A:=#[r.hd,by have:=r.dp;lia,by have:=r.un;lia]
theorem FD.deeper{k:Nat}{A:Around}(r:FD (k+1) A)(env:Env):FD k (A.deeper env):=
 #[r.hd,by have:=r.dp;show A.depth+1+3*k+5<_;lia,by have:=r.un;show A.units+3+16*k+200<_;lia]
theorem FD.in1{k:Nat}{A:Around}(r:FD (k+1) A):FD k A.in1:=
 #[r.hd,by have:=r.dp;show A.depth+3*k+5<_;lia,by have:=r.un;show A.units+1+16*k+200<_;lia]
theorem rY{A:Around}:(A.under (.builtin "type.__call__" #[.ref C::us,kw])).depth=A.depth+1:=by
 first|rfl|simp[Around.under,Code.weight,Code.isCreation,Code.isGuard,Code.isCaller,Code.frames,Code.isFrame,guardIds]
theorem sW{A:Around}:(A.under (.builtin "type.__call__" #[.ref C::us,kw])).units=A.units+1:=by
 first|rfl|simp[Around.under,Code.cUnits,Code.frames,Code.isFrame]
theorem FD.make{k:Nat}{A:Around}(r:FD (k+1) A)(C:Addr)(us:List Value)(kw:List (Str×Value)):FD k (A.under (.builtin "type.__call__" #[.ref C::us,kw])):=
 #[r.hd,by have:=r.dp;rw[rY];lia,by have:=r.un;rw[sW];lia]
theorem FD.depth{k:Nat}{A:Around}(r:FD k A):A.depth<recursionLimit:=by have:=r.dp;lia
theorem FD.units{k:Nat}{A:Around}(r:FD k A):A.units+64<cLine:=by have:=r.un;lia
def cI:TA:=λ_ H Q=>Q [] H
def bR(ta:TE)(tr:TA):TA:=λσ H Q=>ta σ H λx H1=>tr σ H1 λxs H2=>Q (x::xs) H2
section
variable {t:TA}
theorem ag:PA X [] cI:=λ_ _ _ _ H Q I h=>Calls.spliced_nil #[22,[],H,I,.nil,h]
theorem aa(ha:PE X e te)(hr:PA X es t)(hs:starEach (e::es) X.env=(false,eval e X.env)::starEach es X.env:=by rfl):PA X (e::es) (bR te t):=by
 intro pos pins s σ H Q I h;rw[hs];show wpAny _ _ (spliced ((false,eval e X.env)::backTo pos (starEach es X.env))) _ _ s;erw[OF (thn (ha pins s σ H _ I h) λu s1 ⟨x,H1,O,r1,Y⟩=>?_)]
 rwa[thn (hr pos pins s1 σ H1 _ O Y) λus s2 ⟨xs,H2,U,r2,Z⟩=>#[22,x::xs,H2,U,.cons r1 r2,Z]]
def tTup(t:TA):TE:=λσ H Q=>t σ H λxs H1=>xs.length<=sizeLine/\∀p,H1 p=none->Q (.ref p) (upd H1 p (.tup xs))
def Fa(t:TA):TE:=λσ H Q=>t σ H λxs H1=>xs.length<=sizeLine/\∀p,H1 p=none->Q (.ref p) (upd H1 p (.lst xs))
theorem aS{x1}(h:PA X es t):PE X (.Tuple es x1 pos) (tTup t):=by
 intro pins s σ H Q I Y;erw[wpAny_Tuple_spliced (thn (h pos pins s σ H _ I Y) λus s1 ⟨xs,H1,O,r,z,q⟩=>#[by rw[<- r.length];rwa[z],?_])]
 have U:H1 s1.heap.objs.size=none:=O.hok.fresh (ge _);erw[22,.ref s1.heap.objs.size,upd H1 s1.heap.objs.size (.tup xs),O.laid (t':=s1.toks) (λb u e=>h_ _ e) (ge _) ?_,1,q _ U]
 rwa[z,us,r,#[_,z_ _ rfl,1,0]]
theorem aQ(h:PA X es t):PE X (.List es pos) (Fa t):=by
 intro pins s σ H Q I Y;erw[wpAny_List_spliced (thn (h pos pins s σ H _ I Y) λus s1 ⟨xs,H1,O,r,z,q⟩=>#[by rw[<- r.length];rwa[z],?_])]
 have U:H1 s1.heap.objs.size=none:=O.hok.fresh (ge _);erw[22,.ref s1.heap.objs.size,upd H1 s1.heap.objs.size (.lst xs),O.laid (t':=s1.toks) (λb u e=>h_ _ e) (ge _) ?_,1,q _ U]
 rwa[0121,z,us,(0),r,z_ _ rfl]
end
abbrev Sp:=List V->Hp->VK->XK->Prop
variable {sp:Sp}
abbrev CXT:=List Env->Hp->Shared->XK->Value->Shared->Prop
variable {CX:CXT}
structure Env0 (P:Program) (w:World) (K:Frag) (mg:Str->Option Value) (base:Heap) (A:Around) (outer:List Env) (s:Shared) (H:Hp):Prop where
 frames:A.frames=some outer
 mod:Mod K mg base
 bs:∀b o,base.get? b=some o->s.heap.get? b=some o/\H b=none
 bsz:base.objs.size<=s.heap.objs.size
 funs:s.heap.FunFrames base outer
 frf:∀b∈frs outer,H b=none
 hok:HOk P w H s.heap
 bare:AllBare s.gens
def CE(outer:List Env)(P:Program)(w:World)(H:Hp)(s:Shared)(Q:VK)(u:Value)(s':Shared):Prop:=
 ∃v H',s'.os=s.os/\AllBare s'.gens/\Un (frs outer) [] H H' s.heap s'.heap/\HOk P w H' s'.heap/\Fy v u/\Q v H'
def CR(CX:CXT)(outer:List Env)(P:Program)(w:World)(H:Hp)(s:Shared)(Q:VK)(E:XK)(r:Result)(s':Shared):Prop:=
 match r with
 |.ok (.ret u)=>CE outer P w H s Q u s'
 |.ok _=>False
 |.error e=>CX outer H s E e s'
structure aC (P:Program) (w:World) (K:Frag) (mg:Str->Option Value) (base:Heap) (CX:CXT) (k:Nat) (f:Addr) (fd:FuncData) (ps:List Str) (sp:Sp):Prop where
 len:∀vs H Q E,sp vs H Q E->vs.length=ps.length
 run:∀(A:Around) (outer:List Env) (s:Shared) (H:Hp) (args:Args) (us:List Value) (vs:List V) (Q:VK) (E:XK),FD k A->`Env0 A outer s H->BindsTo s fd args (ps.zip us)->Fw vs us->sp vs H Q E->
  codeAny (model P w) A (.call (.ref f) args) (CR CX outer P w H s Q E) s
theorem Env0.make{w:World}{K:Frag}{mg:Str->Option Value}{base:Heap}{A:Around}{outer:List Env}(e:`Env0 A outer s H)(C:Addr)(us:List Value)(kw:List (Str×Value)):
  Env0 P w K mg base (A.under (.builtin "type.__call__" #[.ref C::us,kw])) outer s H:=#[by first|rwa[e.frames]|(simpa[Around.under,Code.envs,Code.isFrame,pushEnvs] using e.frames),e.mod,e.bs,e.bsz,e.funs,e.frf,e.hok,e.bare]
theorem Env0.in1{w:World}{K:Frag}{mg:Str->Option Value}{base:Heap}{A:Around}{outer:List Env}(e:`Env0 A outer s H):
  Env0 P w K mg base A.in1 outer s H:=#[e.frames,e.mod,e.bs,e.bsz,e.funs,e.frf,e.hok,e.bare]
section
theorem Inv.env0(I:Inv X pins σ H s):Env0 X.prog X.w X.K X.mg X.base X.A X.stack s H:=
 #[I.ok.frames,I.ok.mod,I.bs,Lg I.ok.bsz I.sz,I.stack,I.stkFree,I.hok,I.bare]
theorem Inv.after{Q:VK}(I:Inv X pins σ H s)(h:CE X.stack X.prog X.w H s Q u s'):EP X pins σ Q u s':=by
 let#[v,H',os,bare,un,hok,r,q]:=h;let#[U,g,d,t,O]:=s';obtain rfl:O=s.os:=os;rwa[22,v,H',I.call (h':=U) (g':=g) (d':=d) (t':=t) (ch:=[]) un hok bare (λb z=>absurd z (by simp)),r,q]
end
def xA(sp:Sp)(dvs:List V)(E:XK)(t:TA):TE:=λσ H Q=>t σ H λvs H1=>sp (vs++dvs) H1 Q E
def iD(C:Addr)(m:Str)(sp:Sp)(dvs:List V)(E:XK)(ta:TE)(t:TA):TE:=λσ H Q=>ta σ H λx H1=>∃a dx fs,x=.ref a/\H1 a=some (.ins C dx fs)/\fs.lookup m=none/\
 t σ H1 λvs H2=>sp (x::(vs++dvs)) H2 Q E
def zO(C:Addr)(sp:Sp)(dvs:List V)(E:XK)(t:TA):TE:=λσ H Q=>t σ H λvs H1=>∀x dx,H1 x=none->H1 dx=none->dx≠x->
 sp (.ref x::(vs++dvs)) (upd (upd H1 dx (.own x)) x (.ins C dx [])) (λv H2=>v=.non/\Q (.ref x) H2) E
def FT(K:Frag)(fd:FuncData)(ps:List Str)(ds:List Value):Prop:=
 ∀(s:Shared) (us:List Value),K.In s.heap->(us++ds).length=ps.length->BindsTo s fd #[us,[]] (ps.zip (us++ds))
theorem FT.all{K:Frag}(h:∀us:List Value,us.length=ps.length->bindArgs fd #[us,[]]=pure (ps.zip us)):FT K fd ps []:=λs us _ O=>by
 rw[Mg] at O ⊢;rwa[.of_eq (h us O)]
def dq(CX:CXT)(X:Cx)(E:XK):Prop:=∀(pins:List (Addr×Obj)) (σ:St) (H:Hp) (s:Shared) (e:Value) (s':Shared),Inv X pins σ H s->CX X.stack H s E e s'->X.xe e s'
section
variable {k:Nat}{f:Addr}{dvs:List V}{ds:List Value}{E:XK}{m:Str}{apos:Pos}{o:Expr}{t:TA}
theorem sK{Q:VK}(F:aC X.prog X.w X.K X.mg X.base CX k f fd ps sp)(hr:FD k X.A)(hb:FT X.K fd ps ds)(hd:Fw dvs ds)(hx:dq CX X E)(I:Inv X pins σ H s)(r:Fw vs us)(h:sp (vs++dvs) H Q E):wpAny (model X.prog X.w) X.A (call (.ref f) us) (EP X pins σ Q) X.xe s:=by
 have U:Fw (vs++dvs) (us++ds):=r.append hd;have Y:(us++ds).length=ps.length:=by rw[<- U.length];rwa[F.len _ _ _ _ h]
 erw[wpAny_call (codeAny_mono (F.run X.A X.stack s H #[us,[]] (us++ds) (vs++dvs) Q E hr I.env0 (hb s us I.kIn Y) U h) λr s' O=>?_)]
 cases r with
 |error e=>rwa[hx pins σ H s e s' I O]
 |ok fl=>
  cases fl with
  |ret u=>rwa[I.after O]
  |next=>rwa[False.elim O]
  |brk=>rwa[False.elim O]
  |cont=>rwa[False.elim O]
theorem uI(F:aC X.prog X.w X.K X.mg X.base CX k f fd ps sp)(hr:FD k X.A)(hg:Gl X x)(hm:X.mg x=some (.ref f))(hk:keepIn X.K (.ref f)=true)(hb:FT X.K fd ps ds)(hd:Fw dvs ds)(hx:dq CX X E)(ha:PA X (e::es) t)(hdb:(x==("__debug__" : Str))=false:=by decide)(he:starEach (e::es) X.env=(false,eval e X.env)::starEach es X.env:=by rfl)(hpl:(backTo pos (starEach es X.env)).any (·.1)=false:=by rfl):
  PE X (.Call (.Name x p) (e::es) [] pos) (xA sp dvs E t):=by
 intro pins s σ H Q I h;erw[LV (iJ I hg hm ?_ hdb)];erw[PySem.W.callWith_K (h₀:=X.base) I.ok.mod.kin hk (thn (ha pos pins s σ H _ I h) λus s1 ⟨vs,H1,O,r,q⟩=>#[O.kIn,?_]) he hpl]
 rwa[sK F hr hb hd hx O r q]
theorem vg{pl:Sem Bool}(he:PE X o ta)(c:Cls X.K C)(hm:qg X.K C m f)(F:aC X.prog X.w X.K X.mg X.base CX k f fd ps sp)(hr:FD k X.A)(hb:FT X.K fd ps ds)(hd:Fw dvs ds)(hx:dq CX X E)(ha:PA X (e::es) t)(hst:starEach (e::es) X.env=(false,eval e X.env)::starEach es X.env:=by rfl)(hpl:(backTo pos (starEach es X.env)).any (·.1)=false:=by rfl)(ht:eval (.Call (.Attribute o m apos) (e::es) [] pos) X.env=(do
   let ov <- eval o X.env
   standAt apos.atName
   let (f,first) <- holding [ov] (getMethod ov m pl)
   callWith pos f first (backTo pos (starEach (e::es) X.env)) (backToKw pos (keywordEach [] X.env))):=by rfl):
  PE X (.Call (.Attribute o m apos) (e::es) [] pos) (iD C m sp dvs E ta t):=by
 intro pins s σ H Q I h;erw[PySem.W.methodCall_KW (pl:=pl) (thn (he pins s σ H _ I h) λu s1 ⟨x,H1,O,rx,a,dx,fs,ex,Y,l,q⟩=>?_) ht]
 subst ex;obtain rfl:u=Value.ref a:=rx;erw[k7 O Y c hm l ?_];erw[PySem.W.callWith_K (first:=[.ref a]) (h₀:=X.base) I.ok.mod.kin hm.kp (thn (ha pos pins s1 σ H1 _ O q) λus s2 ⟨vs,H2,U,r,Z⟩=>#[U.kIn,?_]) hst hpl]
 rwa[sK (us:=.ref a::us) (vs:=.ref a::vs) F hr hb hd hx U (.cons rfl r) Z]
theorem zQ{pl:Sem Bool}(he:PE X o ta)(c:Cls X.K C)(hm:qg X.K C m f)(F:aC X.prog X.w X.K X.mg X.base CX k f fd ps sp)(hr:FD k X.A)(hb:FT X.K fd ps ds)(hd:Fw dvs ds)(hx:dq CX X E)(ht:eval (.Call (.Attribute o m apos) [] [] pos) X.env=(do
   let ov <- eval o X.env
   standAt apos.atName
   let (f,first) <- holding [ov] (getMethod ov m pl)
   callWith pos f first (backTo pos (starEach [] X.env)) (backToKw pos (keywordEach [] X.env))):=by rfl):
  PE X (.Call (.Attribute o m apos) [] [] pos) (iD C m sp dvs E ta cI):=by
 intro pins s σ H Q I h;erw[PySem.W.methodCall_KW (pl:=pl) (thn (he pins s σ H _ I h) λu s1 ⟨x,H1,O,Y,a,dx,fs,ex,U,l,q⟩=>?_) ht]
 subst ex;obtain rfl:u=Value.ref a:=Y;erw[k7 O U c hm l ?_];rwa[PySem.W.callWith_K0 (first:=[.ref a]) O.kIn hm.kp (sK (us:=[.ref a]) (vs:=[.ref a]) F hr hb hd hx O (.cons rfl .nil) q)]
structure Mk (K:Frag) (C f:Addr):Prop where
 makes:makesIn K C=true
 init:findIn K (.ref C) "__init__"=some (some (.ref f))
 fn:isFn K (.ref f)=true
 kp:keepIn K (.ref C)=true
theorem zi{Q:VK}(M:Mk X.K C f)(F:aC X.prog X.w X.K X.mg X.base CX k f fd ps sp)(hr:FD (k+1) X.A)(hb:FT X.K fd ps ds)(hd:Fw dvs ds)(hx:dq CX X E)(I:Inv X pins σ H s)(r:Fw vs us)(h:∀x dx,H x=none->H dx=none->dx≠x->sp (.ref x::(vs++dvs)) (upd (upd H dx (.own x)) x (.ins C dx [])) (λv H2=>v=.non/\Q (.ref x) H2) E):
  wpAny (model X.prog X.w) X.A (call (.ref C) us) (EP X pins σ Q) X.xe s:=by
 have Y:=h (s.heap.objs.size+1) s.heap.objs.size (I.hok.fresh (Nat.le_succ _)) (I.hok.fresh (ge _)) (GA (Ol _));have U:=Inv.made (C:=C) I;have Z:Fw (V.ref (s.heap.objs.size+1)::(vs++dvs)) (Value.ref (s.heap.objs.size+1)::(us++ds)):=.cons rfl (r.append hd);have hl:(Value.ref (s.heap.objs.size+1)::us++ds).length=ps.length:=by
  have e:=Z.length;rw[F.len _ _ _ _ Y] at e;rwa[e.symm]
 erw[wpAny_call (yI (f:=f) I.kIn M.makes M.init (NO.mp M.fn) (codeAny_mono (F.run _ X.stack _ _ #[Value.ref (s.heap.objs.size+1)::us,[]] (Value.ref (s.heap.objs.size+1)::(us++ds)) _ _ E (hr.make C us [])
  (U.env0.make C us []) (hb _ (Value.ref (s.heap.objs.size+1)::us) U.kIn hl) Z Y) λr s' O=>?_))]
 cases r with
 |error e=>rwa[hx pins σ _ _ e s' U O]
 |ok fl=>
  cases fl with
  |ret u=>
   let#[v,H',I3,rv,ev,q3]:=U.after O;subst ev;rwa[rv,#[22,V.ref (s.heap.objs.size+1),H',I3,1,q3]]
  |next=>rwa[False.elim O]
  |brk=>rwa[False.elim O]
  |cont=>rwa[False.elim O]
theorem uE(M:Mk X.K C f)(F:aC X.prog X.w X.K X.mg X.base CX k f fd ps sp)(hr:FD (k+1) X.A)(hg:Gl X x)(hm:X.mg x=some (.ref C))(hb:FT X.K fd ps ds)(hd:Fw dvs ds)(hx:dq CX X E)(ha:PA X (e::es) t)(hdb:(x==("__debug__" : Str))=false:=by decide)(he:starEach (e::es) X.env=(false,eval e X.env)::starEach es X.env:=by rfl)(hpl:(backTo pos (starEach es X.env)).any (·.1)=false:=by rfl):
  PE X (.Call (.Name x p) (e::es) [] pos) (zO C sp dvs E t):=by
 intro pins s σ H Q I h;erw[LV (iJ I hg hm ?_ hdb)];erw[PySem.W.callWith_K (h₀:=X.base) I.ok.mod.kin M.kp (thn (ha pos pins s σ H _ I h) λus s1 ⟨vs,H1,O,r,q⟩=>#[O.kIn,?_]) he hpl]
 rwa[zi M F hr hb hd hx O r q]
end
def PK(X:Cx)(kws:List Keyword)(t:TA):Prop:=
 ∀(pos:Pos) (pins:List (Addr×Obj)) (s:Shared) (σ:St) (H:Hp) (Q:List V->Hp->Prop),Inv X pins σ H s->t σ H Q->wpAny (model X.prog X.w) X.A (evalAll ((backToKw pos (keywordEach kws X.env)).map (·.2))) (AP X pins σ Q) X.xe s
section
variable {k:Nat}{f:Addr}{ks:List Str}{E:XK}{m:Str}{apos kpos:Pos}{o:Expr}{kws:List Keyword}{t tk:TA}{nm:Option Str}
theorem sw:PK X [] cI:=λ_ _ _ _ H Q I h=>wpAny_evalAll_nil #[22,[],H,I,.nil,h]
theorem jW(ha:PE X e te)(hr:PK X kws t):PK X (#[nm,e,kpos]::kws) (bR te t):=by
 intro pos pins s σ H Q I h;show wpAny _ _ (evalAll ((do let v <- eval e X.env;standAt pos;pure v)::(backToKw pos (keywordEach kws X.env)).map (·.2))) _ _ s
 erw[wpAny_evalAll_cons (c_ (thn (ha pins s σ H _ I h) λu s1 ⟨x,H1,O,r1,Y⟩=>c_ (wpAny_standAt (i_ ?_))))]
 rwa[thn (hr pos pins s1 σ H1 _ O Y) λus s2 ⟨xs,H2,U,r2,Z⟩=>#[22,x::xs,H2,U,.cons r1 r2,Z]]
end
structure Fv (N P:List Str) (sc:Scope):Prop where
 kind:sc.kind=.function
 co:sc.isCoroutine=false
 gen:sc.isGenerator=false
 nd:N.Nodup
 pre:N.take P.length=P
 par:∀x∈P,sc.names.lookup x=some .local\/sc.names.lookup x=some .cell
 nofree:∀y∈sc.names,y.2≠.free
theorem nO:∀{binds:List (Str×Value)} {m:Str->Option Value},(∀v,(x,v)∉binds)->bindL kindOf binds m x=m x
 |[],_,_=>rfl
 |(n,v)::r,m,h=>by
  unfold bindL;rw[nO λw hw=>h w (GG _ hw)]
  split
  ·have:x≠n:=by rintro rfl;rwa[h v KQ]
   simp[this]
  ·rfl
theorem oi:∀{binds:List (Str×Value)} {m:Str->Option Value},(∀v,(x,v)∉binds)->bindC kindOf binds m x=m x
 |[],_,_=>rfl
 |(n,v)::r,m,h=>by
  unfold bindC;rw[oi λw hw=>h w (GG _ hw)]
  split
  ·rfl
  ·have:x≠n:=by rintro rfl;rwa[h v KQ]
   simp[this]
theorem nj{v:Value}:∀{P:List Str} {vs:List Value} {i:Nat} {m:Str->Option Value},P.Nodup->P[i]? = some x->vs[i]? = some v->kindOf x=some .local->
  bindL kindOf (P.zip vs) m x=some v
 |[],_,_,_,_,h,_,_=>by simp at h
 |_::_,[],_,_,_,_,h,_=>by simp at h
 |p::P,w::vs,0,m,nd,h1,h2,hk=>by
  simp at h1 h2;subst h1;subst h2;show bindL kindOf ((p,w)::P.zip vs) m p=_;unfold bindL;rw[nO λv O=>(N5.mp nd).1 (of_mem_zip O).1,u_ hk]
  simp
 |p::P,w::vs,i+1,m,nd,h1,h2,hk=>by
  show bindL kindOf ((p,w)::P.zip vs) m x=_;unfold bindL;rwa[nj (i:=i) (N5.mp nd).2 (by simpa using h1) (by simpa using h2) hk]
theorem m7{v:Value}:∀{P:List Str} {vs:List Value} {i:Nat} {m:Str->Option Value},P.Nodup->P[i]? = some x->vs[i]? = some v->kindOf x≠some .local->
  bindC kindOf (P.zip vs) m x=some v
 |[],_,_,_,_,h,_,_=>by simp at h
 |_::_,[],_,_,_,_,h,_=>by simp at h
 |p::P,w::vs,0,m,nd,h1,h2,hk=>by
  simp at h1 h2;subst h1;subst h2;show bindC kindOf ((p,w)::P.zip vs) m p=_;unfold bindC;rw[oi λv O=>(N5.mp nd).1 (of_mem_zip O).1,t_ hk]
  simp
 |p::P,w::vs,i+1,m,nd,h1,h2,hk=>by
  show bindC kindOf ((p,w)::P.zip vs) m x=_;unfold bindC;rwa[m7 (i:=i) (N5.mp nd).2 (by simpa using h1) (by simpa using h2) hk]
def cK(N:List Str)(vs:List V):St:=vs.map some++List.replicate (N.length-vs.length) none
def cD(CX:CXT)(P:Program)(w:World)(K:Frag)(mg:Str->Option Value)(base:Heap)(N:List Str)(qual:Str)(scope:Scope)(f:Addr)(cd:Value)(A:Around)(outer:List Env)(s:Shared)(H:Hp)(E:XK):Cx where
 prog:=P
 w:=w
 K:=K
 mg:=mg
 base:=base
 A:=A.deeper (envOfC qual scope s.heap.objs.size f cd)
 N:=N
 s₀:=s
 H₀:=H
 env:=envOfC qual scope s.heap.objs.size f cd
 outer:=outer
 stack:=envOfC qual scope s.heap.objs.size f cd::outer
 ex:=[]
 calm:=true
 fn:=λ_=>true
 pn:=[]
 xe:=λe s'=>wpAny (model P w) (A.deeper (envOfC qual scope s.heap.objs.size f cd)) (leaving (envOfC qual scope s.heap.objs.size f cd) e) (λ_ s''=>CX outer H s E e s'') (λe' s''=>CX outer H s E e' s'') s'
theorem qR{sc:Scope}(h:sc.names.lookup x=some .cell):∃c,(cellsFrom n sc.names []).lookup x=some c:=by
 have q:=PySem.W.cellsFrom_some sc.names n [] (.inl h);rwa[Option.isSome_iff_exists.mp q]
theorem nU{w:World}{K:Frag}{mg:Str->Option Value}{base:Heap}{N:List Str}{f:Addr}{cd:Value}{A:Around}{outer:List Env}{s1:Shared}{E:XK}(S:Fv N ps scope)(hd:A.handled=none)(e0:`Env0 A outer s H)(hl:vs.length=ps.length)(r:Fw vs us)(x:InCallC s s.heap.objs.size (bindL (envOfC qual scope s.heap.objs.size f cd).kindOf (ps.zip us) λ_=>none) (cellsFrom (s.heap.objs.size+1) scope.names []) (bindC (envOfC qual scope s.heap.objs.size f cd).kindOf (ps.zip us) λ_=>none) s1):
  Inv (cD CX P w K mg base N qual scope f cd A outer s H E) [] (cK N vs) H s1:=by
 have a6:ps.length<=N.length:=by have:=Ls List.length S.pre;rw[LK] at this;lia
 let#[h1,tk,1,hk]:=x.done;have U:∀b:Addr,b∉(cD CX P w K mg base N qual scope f cd A outer s H E).ex:=λb z=>absurd (show b∈([]:List Addr) from z) (by simp)
 erw[#[e0.mod,S.kind,1,1,ge _,λy z c h1 h2=>?_,λy O=>?_,λy c _ h=>?_,λ_=>hd,Around.frames_deeper e0.frames,.inr #[1,1],λb z=>absurd z (U b),e0.bs,e0.bsz,λb _ _=>U b,λb z=>absurd z (U b),e0.funs,e0.frf],
  1,e0.bare,Un.kept hk,#[_,x.toInCall.ns,λi y v h1 h2 h3=>?_],λy c h=>#[_,x.cell y c h],e0.hok.fresh (ge _),λy c h=>?_,λp Y=>absurd (show p∈([]:List (Addr×Obj)) from Y) (by simp),e0.hok.kept hk,?_]
 ·rwa[name_of_addr x.apart (PySem.mem_of_lookup h1) (PySem.mem_of_lookup h2)]
 ·have O:scope.names.lookup y=some .cell\/scope.names.lookup y=some .free:=O
  rcases O with O|O
  ·rwa[qR O]
  ·rwa[absurd rfl (S.nofree _ (PySem.mem_of_lookup O))]
 ·rwa[Pi (x.above y c (PySem.mem_of_lookup h))]
 ·have hi:i<vs.length:=by
   unfold cK at h2
   by_cases hi:i<vs.length
   ·rwa[hi]
   ·rw[List.getElem?_append_right (by simpa using hi)] at h2
    rw[List.getElem?_replicate] at h2
    split at h2<;>cases h2
  have ha:vs[i]? = some v:=by
   unfold cK at h2;rw[List.getElem?_append_left (by simpa using hi),Ga] at h2
   cases e:vs[i]? with
   |none=>rw[e] at h2;cases h2
   |some a=>rw[e] at h2;cases h2;rfl
  let#[u,hu,rv]:=r.get ha;have Y:ps[i]? = some y:=by
   rw[<- S.pre,List.getElem?_take_of_lt ()];rwa[h1]
  have Z:ps.Nodup:=by rw[<- S.pre];rwa[S.nd.sublist (take_sublist _ _)]
  erw[u,rv,?_]
  rcases S.par y (E_ Y) with k|k
  ·rwa[.inl #[k,nj Z Y hu k]]
  ·let#[c,e]:=qR (n:=s.heap.objs.size+1) k;erw[.inr #[.inl k,c,e,?_]];have q:=x.cell y c e;rw[m7 Z Y hu (by show scope.names.lookup y≠_;rw[k];decide)] at q
   rwa[q]
 ·rwa[e0.hok.fresh (Pi (x.above y c (PySem.mem_of_lookup h)))]
 ·unfold cK;show _=N.length;rw[y_,k_,List.length_replicate];lia
theorem uQ{w:World}{K:Frag}{mg:Str->Option Value}{base:Heap}{k:Nat}{f:Addr}{params:Arguments}{dV kV doc pm cdv ct oc:Value}{an od:Option Addr}{osl:Array (Option Value)}{N:List Str}(lk:K.lookup f=some #[oc,od,.func (fnOf name qual params body scope dV kV doc pm an cdv ct),osl])(hcd:codeIn K cdv qual=true)(S:Fv N ps scope)(len:∀vs H Q E,sp vs H Q E->vs.length=ps.length)(hbody:∀(A:Around) (outer:List Env) (s:Shared) (H:Hp) (vs:List V) (Q:VK) (E:XK),FD k (A.deeper (envOfC qual scope s.heap.objs.size f cdv))->sp vs H Q E->
   ∃t,PSs (cD CX P w K mg base N qual scope f cdv A outer s H E) body t/\t { nx:=λ_ H'=>Q .non H',rt:=Q } (cK N vs) H):
  aC P w K mg base CX (k+1) f (fnOf name qual params body scope dV kV doc pm an cdv ct) ps sp:=by
 erw[len,λA outer s H args us vs Q E hr Y hb r Z=>?_]
 have hl:=len _ _ _ _ Z;have KX:K.In s.heap:=Y.mod.kin.keeps λb o e=>(Y.bs b o e).1
 have a6:s.heap.NoLimit:=Y.mod.nolimit.keeps λb o e=>(Y.bs b o e).1
 have O:∀y∈ps.zip us,scope.names.lookup y.1=some .local\/(scope.names.lookup y.1=some .cell/\((cellsFrom (s.heap.objs.size+1) scope.names []).lookup y.1).isSome=true):=λ⟨n,v⟩ hy=>by
  rcases S.par n (of_mem_zip hy).1 with q|q
  ·rwa[.inl q]
  ·rwa[.inr #[q,PySem.W.cellsFrom_some _ _ _ (.inl q)]]
 erw[codeAny_call_function hr.depth (KX _ _ lk) rfl S.co S.gen rfl (PySem.W.codeRec_of KX hcd) (hb _ _ _ _ ?_)];erw[wpAny_newFunctionEnv_cells S.kind O λenv he s1 x=>?_]
 subst he;erw[a6.keeps x.toInCall.keep,codeAny_func ?_];let#[t,ht,hq]:=hbody A outer s H vs Q E (hr.deeper _) Z;have I:Inv (cD CX P w K mg base N qual scope f cdv A outer s H E) [] (cK N vs) H s1:=nU S hr.hd Y hl r x;erw[LF (ht [] s1 (cK N vs) H _ I hq) (λfl s' U=>?_) λe s' U=>U]
 have fin:∀{σ':St} {H':Hp} {v:V} {u:Value},Inv (cD CX P w K mg base N qual scope f cdv A outer s H E) [] σ' H' s'->Fy v u->Q v H'->CE outer P w H s Q u s':=
  λ{σ' H' v u} J rv q=>#[25,v,H',J.os,J.bare,J.base,J.hok,rv,q]
 cases fl with
 |ret u=>
  let#[v,σ',H',J,rv,q]:=U;rwa[fin J rv q]
 |next=>
  let#[σ',H',J,q]:=U;rwa[fin (v:=V.non) (u:=Value.none) J rfl q]
 |brk=>
  let#[_,_,_,q]:=U;rwa[False.elim q]
 |cont=>
  let#[_,_,_,q]:=U;rwa[False.elim q]
section
variable {t:TA}{id T:String}{r:List V->Hp->VK->Prop}
def tCB(r:List V->Hp->VK->Prop)(t:TA):TE:=λσ H Q=>t σ H λvs H1=>r vs H1 Q
theorem bP(hc:cq X (.builtin id) r)(hg:Gl X x)(hm:X.mg x=none)(hv:bootBuiltins x=some (.builtin id))(ha:PA X (e::es) t)(hn:x≠"__name__":=by decide)(hdb:(x==("__debug__" : Str))=false:=by decide)(he:starEach (e::es) X.env=(false,eval e X.env)::starEach es X.env:=by rfl)(hpl:(backTo pos (starEach es X.env)).any (·.1)=false:=by rfl):PE X (.Call (.Name x p) (e::es) [] pos) (tCB r t):=by
 intro pins s σ H Q I h;erw[LV (dM I hg hm hv ?_ hn hdb)];rwa[PyProof.Rows.callWith_builtin1 (thn (ha pos pins s σ H _ I h) λus s1 ⟨vs,H1,O,Y,U⟩=>hc pins s1 σ H1 vs us Q O Y U) he hpl]
theorem ci(hc:cq X (.type T) r)(hg:Gl X x)(hm:X.mg x=none)(hv:bootBuiltins x=some (.type T))(ha:PA X (e::es) t)(hn:x≠"__name__":=by decide)(hdb:(x==("__debug__" : Str))=false:=by decide)(he:starEach (e::es) X.env=(false,eval e X.env)::starEach es X.env:=by rfl)(hpl:(backTo pos (starEach es X.env)).any (·.1)=false:=by rfl):PE X (.Call (.Name x p) (e::es) [] pos) (tCB r t):=by
 intro pins s σ H Q I h;erw[LV (dM I hg hm hv ?_ hn hdb)];rwa[LH (thn (ha pos pins s σ H _ I h) λus s1 ⟨vs,H1,O,Y,U⟩=>hc pins s1 σ H1 vs us Q O Y U) he hpl]
end
end L2
namespace HT
open PySem PyProof.Rows
def lexLt:List Int->List Int->Bool
 |[],[]=>false
 |[],_::_=>true
 |_::_,[]=>false
 |x::xs,y::ys=>if x=y then lexLt xs ys else decide (x<y)
theorem lexLt_cons(x y:Int)(xs ys:List Int):lexLt (x::xs) (y::ys)=if x=y then lexLt xs ys else decide (x<y):=rfl
theorem md:lexLt [] []=false:=rfl
theorem kP(y:Int)(ys:List Int):lexLt [] (y::ys)=true:=rfl
theorem lD(x:Int)(xs:List Int):lexLt (x::xs) []=false:=rfl
theorem yN(A:Around)(s:Shared)(a:Int)(t:Tok)(c:Int)(u:Tok):∃e,SeqAt.EqAt A s (.int a t) (.int c u) e/\(e=true↔a=c):=
 #[(a==c),SeqAt.EqAt.int_int a t c u,by simp]
theorem yD(A:Around)(s:Shared)(a:Int)(t:Tok)(c:Int)(u:Tok)(prog:Program)(w:World)(E:Value->Shared->Prop)(Q:Value->Shared->Prop)(h:Q (.bool (decide (a<c))) s):
  wpAny (model prog w) A (richCompare .Lt (.int a t) (.int c u)) Q E s:=
 (PyProof.Rows.lt_int h:wpAny (model prog w) A (compareOp .Lt (.int a t) (.int c u)) Q E s)
section
open PySem.SeqAt
open PySem.AutoSeq1 (wpAny_loadPart')
open PySem.MeetsSeq PySem.MeetsSeq2 PySem.MeetsSeq3
theorem mi(l b:Addr)(items items2:Array Value)(n n2:Nat)(dd dd2:Option Addr)(sl sl2:Array (Option Value))(ns ms:List Int)(hi:IntsAre items.toList ns)(hj:IntsAre items2.toList ms):
  Meets (Builtin.«tuple.__lt__» #[[.ref l,.ref b],[]])
   (λ_ R s=>s.heap.get? l=some { cls:=.type "tuple",dict:=dd,data:=.seq items n,slots:=sl }/\s.heap.get? b=some { cls:=.type "tuple",dict:=dd2,data:=.seq items2 n2,slots:=sl2 }/\
    R (.ok (.ret (.bool (lexLt ns ms)))) s):=
 .of_wp λprog w A R s h=>by
  let#[U,g,d,tk,os]:=s;let#[hl,hb,h]:=h;have f2:=AutoSeq1.sub_tuple_tuple;have z1:items.size=ns.length:=by rw[<- hi.length];simp
  have z2:items2.size=ms.length:=by rw[<- hj.length];simp
  wp_walk using OQ hl,OQ hb,wpAny_forIn_list _ (λrest b s'=>b.1=none/\s'=#[U,g,d,tk,os]/\∃(vs ws:List Value) (ns' ms':List Int),rest=vs.zip ws/\
   IntsAre vs ns'/\IntsAre ws ms'/\ns'.length+items2.size=ms'.length+items.size/\R (.ok (.ret (.bool (lexLt ns' ms')))) #[U,g,d,tk,os]) _
  case turn=>
   rintro⟨y,x⟩ rest b s' ⟨hb',rfl,vs,ws,ns',ms',hz,hvi,hwi,hlen,hR⟩;cases hvi with
   |nil=>rw[List.zip_nil_left] at hz;cases hz
   |cons a t hvi'=>
    cases hwi with
    |nil=>rw[List.zip_nil_right] at hz;cases hz
    |cons c u hwi'=>
     rw[zip_cons_cons] at hz;injection hz with hyx hrest
     injection hyx with hy hx
     subst hy hx;rw[lexLt_cons] at hR;simp only[Mf] at hlen;let#[e,he,O]:=yN A.in1 #[U,g,d,tk,os] a t c u;erw[c_ (he prog w _ _ ?_)];cases e with
     |true=>
      rw[u_ (O.mp rfl)] at hR
      wp_walk
      rwa[0244,1,1,_,_,_,_,hrest,hvi',hwi',(),hR]
     |false=>
      rw[t_ (λq=>absurd (O.mpr q) GT)] at hR
      have Y:=yD A.in1 #[U,g,d,tk,os] a t c u prog w
      wp_walk using Y
      rwa[0,by simpa using hR]
  case fin=>
   rintro⟨b1,b2⟩ s' ⟨hb',rfl,vs,ws,ns',ms',hz,hvi,hwi,hlen,hR⟩;simp only at hb';subst hb';have Z:lexLt ns' ms'=decide (items.size<items2.size):=by
    cases hvi with
    |nil=>
     cases hwi with
     |nil=>
      simp only[length_nil] at hlen;rw[md];exact(Gx ()).symm
     |cons c u hw=>
      simp only[length_nil,Mf] at hlen;rw[kP];exact(p_ ()).symm
    |cons a t Z=>
     cases hwi with
     |nil=>
      simp only[length_nil,Mf] at hlen;rw[lD];exact(Gx ()).symm
     |cons c u hw=>
      rw[zip_cons_cons] at hz;cases hz
   rw[Z] at hR
   wp_walk
   rwa[0,by simpa[Builtin.Tuple.tupleCompareSizes] using hR]
  case h=>
   rwa[0244,1,1,items.toList,items2.toList,ns,ms,1,hi,hj,(),h]
end
section
variable {prog:Program}{w:World}{A:Around}{E:Value->Shared->Prop}{s:Shared}
theorem lt_tupInts{l b:Addr}{items items2:Array Value}{ns ms:List Int}{Q:Value->Shared->Prop}(hl:IsTup s.heap l items)(hb:IsTup s.heap b items2)(hi:IntsAre items.toList ns)(hj:IntsAre items2.toList ms)(hu:A.units<cLine)(h:Q (.bool (lexLt ns ms)) s):wpAny (model prog w) A (compareOp .Lt (.ref l) (.ref b)) Q E s:=by
 let#[#[cls,dd,data,sl],ho,hc,n,hd]:=id hl;let#[#[a8,a6,Z,a7],Y,O,n2,U]:=id hb;simp only at hc hd O U;subst hc hd O U;rwa[richCompare_meets_room (op:=.Lt) #[_,ho,1] #[_,Y,1] PySem.F.slot_tuple_lt PySem.F.entry_tuple_lt (PySem.F.args_tuple_lt_2 _ _) (mi l b items items2 n n2 dd a6 sl a7 ns ms hi hj)
  #[ho,Y,show Value.bool (lexLt ns ms)≠Value.notImplemented/\Q (.bool (lexLt ns ms)) s from#[(λx=>nomatch x),h]] hu]
def sIx(n d:Nat):Option Int->Nat
 |none=>d
 |some v=>if v<0 then(v+(n:Int)).toNat else min v.toNat n
end
end HT
namespace L2
open PySem PySem.Spec PyProof.Rows
variable {X:Cx}{e:Expr}{pos:Pos}{α:Type}{n j t':Nat}{pins:List (Addr×Obj)}{σ:St}{H:Hp}{s:Shared}{p:Addr}{xs:List V}{its its' us:List Value}{T:String}
theorem eh{ns:List Int}:∀{us:List Value},Fw (ns.map V.int) us->IntsAre us ns:=by
 induction ns with
 |nil=>intro us r;rw[map_nil] at r;cases r;rwa[.nil]
 |cons n ns ih=>
  intro us r;rw[K1] at r;cases r with
  |cons r1 r2=>
   let#[t,e]:=r1;subst e;rwa[.cons n t (ih r2)]
section
variable {te:TE}{lo hi:Option Expr}{tl th:TO}{p2:Pos}
def SlR(X:Cx)(r:V->Option Int->Option Int->Hp->VK->Prop):Prop:=
 ∀(pins:List (Addr×Obj)) (s:Shared) (σ:St) (H:Hp) (x:V) (v vl vu:Value) (lo hi:Option Int) (sl:Addr) (Q:VK),Inv X pins σ H s->Fy x v->s.heap.IsSliceOf sl vl vu .none->IsPart vl lo->IsPart vu hi->r x lo hi H Q->
  ∃T id,typeLookup (.type T) "__getitem__" = pure (some (.builtin id))/\s.TypeIs v T/\wpAny (model X.prog X.w) X.A (getItem v (.ref sl)) (EP X pins σ Q) X.xe s
def cutV(xs:List V)(lo hi:Option Int):List V:=(xs.drop (HT.sIx xs.length 0 lo)).take (HT.sIx xs.length xs.length hi-HT.sIx xs.length 0 lo)
end
def ixN(n:Nat)(i:Int):Option Nat:=if 0<=i then(if i<n then some i.toNat else none) else if -(n:Int)<=i then some (i+n).toNat else none
def atI(xs:List α)(i:Int):Option α:=(ixN xs.length i).bind λj=>xs[j]?
theorem uA{i:Int}(h:ixN n i=some j):seqIndex? i n=some j/\j<n/\-(n:Int)<=i/\i<n:=by
 unfold ixN at h
 by_cases h0:0<=i
 ·rw[u_ h0] at h
  by_cases h1:i<n
  ·rw[u_ h1] at h;have e:i.toNat=j:=G_ h;rwa[by rw[seqIndex_of h0 h1,e],(),(),h1]
  ·rw[t_ h1] at h;cases h
 ·rw[t_ h0] at h
  by_cases h1:-(n:Int)<=i
  ·rw[u_ h1] at h;have e:(i+n).toNat=j:=G_ h;rwa[by rw[seqIndex_neg () h1,e],(),h1,()]
  ·rw[t_ h1] at h;cases h
theorem uP{xs:List α}{i:Int}{v:α}(h:atI xs i=some v):∃j,seqIndex? i xs.length=some j/\xs[j]? = some v/\j<xs.length/\-(xs.length:Int)<=i/\i<xs.length:=by
 unfold atI at h;cases e:ixN xs.length i with
 |none=>rw[e] at h;cases h
 |some j=>
  rw[e] at h;let#[h1,h2,h3,h4]:=uA e;rwa[j,h1,h,h2,h3,h4]
theorem bt{xs:List α}{v:α}(h:xs[j]? = some v):atI xs (j:Int)=some v:=by
 have O:j<xs.length:=(q_.mp h).1;have e:ixN xs.length (j:Int)=some j:=by
  unfold ixN;rw[u_ (),u_ ()];simp
 unfold atI;rw[e];rwa[h]
def Bb(b:Expr):Prop:=∀o i,subscripted b false o i=operate [o,i] (getItem o i)
def IxR(X:Cx)(r:R2):Prop:=
 ∀(value slice:Expr) (pins:List (Addr×Obj)) (s:Shared) (σ:St) (H:Hp) (x y:V) (v u:Value) (Q:VK),Inv X pins σ H s->Fy x v->Fy y u->r x y H Q->
  subscripted slice false v u=operate [v,u] (getItem v u)->wpAny (model X.prog X.w) X.A (subscriptTail value slice v u) (EP X pins σ Q) X.xe s
def MtR(X:Cx)(id:String)(r:V->List V->Hp->VK->Prop):Prop:=
 ∀(pins:List (Addr×Obj)) (s:Shared) (σ:St) (H:Hp) (x:V) (xs:List V) (v:Value) (us:List Value) (Q:VK),Inv X pins σ H s->Fy x v->Fw xs us->r x xs H Q->
  wpAny (model X.prog X.w) X.A (call (.builtin id) (v::us)) (EP X pins σ Q) X.xe s
section
variable {a b:Expr}{ta tb:TE}
theorem aG{r:R2}(hr:IxR X r)(ha:PE X a ta)(hb:PE X b tb)(hs:Bb b):PE X (.Subscript a b pos) (tOp r ta tb):=by
 intro pins s σ H Q I h;rwa[Subscript_ (DX ha hb I h λv u s2 x y H2 O U Y q=>hr a b pins s2 σ H2 x y v u Q O U Y q (hs _ _))]
def Fb(K:Frag):R2:=λx y H Q=>∃p xs i v,x=.ref p/\y=.int i/\SqL K H p xs/\atI xs i=some v/\Q v H
def Ek(K:Frag):R2:=λx y H Q=>∃p xs i v,x=.ref p/\y=.int i/\SqT K H p xs/\atI xs i=some v/\Q v H
theorem AE:IxR X (Fb X.K):=by
 intro value Y pins s σ H x y v u Q I rx ry h hs;let#[p,xs,i,z,1,1,hq,he,q]:=h;cases rx;let#[t,1]:=ry;let#[its,r,pl,hz]:=I.list hq;let#[j,h1,h2,h3,h4,h5]:=uP he;let#[w,Z,U]:=r.get h2;have hl:=r.length;have hn:=oA;have fin:EP X pins σ Q w s:=#[22,z,H,I,U,q]
 by_cases h0:0<=i
 ·have O:i.toNat=j:=by
   rw[seqIndex_of h0 h5] at h1;rwa[G_ h1]
  rwa[item_listR pl.isList h0 () (by rw[O];simpa using Z) fin hs]
 ·have O:(i+(its.toArray.size:Int)).toNat=j:=by
   rw[seqIndex_neg () h4] at h1
   rw[GR,<- hl];rwa[G_ h1]
  rwa[subscriptTail_builtinR (x:=w) pl.isList.typeIs slot_list_getitem.lookup
   (wpAny_getItem_list_neg (Q:=λr s'=>r=w/\EP X pins σ Q r s') pl.isList () (by rw[GR]<;>lia) () (by rw[O];simpa using Z) #[1,fin]) hs]
theorem CK:IxR X (Ek X.K):=by
 intro value U pins s σ H x y v u Q I rx ry h hs;let#[p,xs,i,z,1,1,hq,Z,q]:=h;cases rx;let#[t,1]:=ry;let#[its,r,pl,hz]:=I.tuple hq;let#[j,h1,h2,h3,h4,h5]:=uP Z;let#[w,Y,O]:=r.get h2;have hl:=r.length;have hn:=oA;have fin:EP X pins σ Q w s:=#[22,z,H,I,O,q];rwa[subscriptTail_builtinR (x:=w) pl.typeIs slot_tuple_getitem.lookup
  (getItem_tuple (j:=j) (Q:=λr s'=>r=w/\EP X pins σ Q r s') pl () () (by rw[GR,<- hl];rwa[h1]) (by simpa using Y) #[1,fin]) hs]
theorem sM(its:List Value)(n j:Nat)(u:Value):Obj.mapSeq (·.setIfInBounds j u) { cls:=.type "list",data:=.seq its.toArray n }={ cls:=.type "list",data:=.seq (its.set j u).toArray n }:=by
 simp[Obj.mapSeq]
theorem Inv.lst(I:Inv X pins σ H s)(h:H p=some (.lst xs)):
  ∃(its:List Value) (n:Nat),Fw xs its/\s.heap.get? p=some { cls:=.type "list",data:=.seq its.toArray n }/\xs.length<=sizeLine:=by
 let#[z,its,n,r,e]:=I.hok p _ h;rwa[22,its,n,r,e,z]
theorem Inv.lstUpd{ys:List V}{n':Nat}{f:Obj->Obj}(I:Inv X pins σ H s)(h:H p=some (.lst xs))(ho:s.heap.get? p=some { cls:=.type "list",data:=.seq its.toArray n })(hf:f { cls:=.type "list",data:=.seq its.toArray n }={ cls:=.type "list",data:=.seq its'.toArray n' })(r:Fw ys its')(hz:ys.length<=sizeLine)(t:Nat):
  Inv X pins σ (upd H p (.lst ys)) { s with heap:=s.heap.update p f,toks:=t }:=by
 have e:(s.heap.update p f).get? p=some { cls:=.type "list",data:=.seq its'.toArray n' }:=by
  rw[get?_update_self f ho (by rw[hf]<;>rfl),hf]
 erw[I.write (x:=p) (e:=p) (by rw[h];trivial) (.inl rfl) (λb u O q=>(LP _ _ (Ne.symm O)).trans q) #[_,e] ?_]
 rwa[0121,hz,its',n',r,e]
def EU:V->V->V->Hp->(Hp->Prop)->Prop:=λo i v H Q=>∃p xs k j,o=.ref p/\i=.int k/\H p=some (.lst xs)/\ixN xs.length k=some j/\Q (upd H p (.lst (xs.set j v)))
theorem da:EI X EU:=by
 intro pins s σ H o i v ov iv u Q I ro ri rv h;let#[p,xs,k,j,1,1,Z,hj,q]:=h;cases ro;let#[t,1]:=ri;let#[its,n,r,U,hz]:=I.lst Z;let#[h1,h2,h3,h4]:=uA hj;have O:=r.length;have hn:=oA;have Y:Inv X pins σ (upd H p (.lst (xs.set j v))) { s with heap:=s.heap.update p (Obj.mapSeq (·.setIfInBounds j u)) }:=
  I.lstUpd Z U (sM its n j u) (r.set rv j) (by rw[length_set];rwa[hz]) s.toks
 by_cases h0:0<=k
 ·have hk:k.toNat=j:=by
   rw[seqIndex_of h0 h4] at h1;rwa[G_ h1]
  rwa[PySem.W.ki_setAt U h0 () (by rw[GR,<- O];rwa[h4]) (by rw[hk];rwa[_,Y,q])]
 ·have hk:(k+(its.toArray.size:Int)).toNat=j:=by
   rw[seqIndex_neg () h3] at h1
   rw[GR,<- O];rwa[G_ h1]
  rwa[PySem.W.ki_setBack U () (by rw[GR,<- O];rwa[h3]) () (by rw[hk];rwa[_,Y,q])]
def rSlL(K:Frag):V->Option Int->Option Int->Hp->VK->Prop:=λx lo hi H Q=>∃a xs,x=.ref a/\SqL K H a xs/\∀p,H p=none->Q (.ref p) (upd H p (.lst (cutV xs lo hi)))
theorem pH:cq X (.builtin "len") (λxs H Q=>∃p ys,xs=[.ref p]/\(SqL X.K H p ys\/SqT X.K H p ys)/\Q (.int ys.length) H):=by
 intro pins s σ H xs us Q I r h;let#[p,ys,1,U,q]:=h;let#[u,1,rx]:=cJ r;cases rx;have hn:=oA
 rcases U with U|U
 ·let#[its,Y,pl,Z]:=I.list U;have O:=Y.length;rwa[Calls.call_len_list pl.isList (by simp only[GR]<;>lia) #[22,.int ys.length,H,I.tok _,#[s.toks+1,by rw[GR,O]],q]]
 ·let#[its,Y,pl,Z]:=I.tuple U;have O:=Y.length;rwa[len_tuple pl (by simp only[GR]<;>lia) #[22,.int ys.length,H,I.tok _,#[s.toks+1,by rw[GR,O]],q]]
theorem oP:cq X (.type "list") (λxs H Q=>∃p ys,xs=[.ref p]/\(SqL X.K H p ys\/SqT X.K H p ys)/\∀l,H l=none->Q (.ref l) (upd H l (.lst ys))):=by
 intro pins s σ H xs us Q I r h;let#[p,ys,1,Z,q]:=h;let#[u,1,rx]:=cJ r;cases rx;have fin:∀(its:List Value),Fw ys its->ys.length<=sizeLine->∀(h':Heap) (O:Nat),(∀b o',s.heap.get? b=some o'->h'.get? b=some o')->
   h'.get? s.heap.objs.size=some { cls:=.type "list",dict:=none,data:=.seq its.toArray O,slots:=(List.toArray []) }->EP X pins σ Q (.ref s.heap.objs.size) { s with heap:=h' }:=λits U hz h' O kp e=>
  #[22,.ref s.heap.objs.size,_,I.laid (t':=s.toks) kp (ge _) (show FC X.prog X.w _ h' _ (.lst ys) from#[0121,hz,its,O,U,e]),1,q _ (I.hok.fresh (ge _))]
 rcases Z with Z|Z
 ·let#[its,U,pl,hz]:=I.list Z;have Y:=U.length;let#[o,ho,hc,n,hd]:=pl.isList;rwa[call_list_seq p (.inl rfl) ho hc hd (λh' O kp e=>fin its U hz h' O kp e) (by simp only[GR]<;>lia)]
 ·let#[its,U,pl,hz]:=I.tuple Z;have Y:=U.length;let#[o,ho,hc,n,hd]:=pl;rwa[call_list_seq p (.inr rfl) ho hc hd (λh' O kp e=>fin its U hz h' O kp e) (by simp only[GR]<;>lia)]
theorem mh:cq X (.type "tuple") (λxs H Q=>∃p ys,xs=[.ref p]/\((SqL X.K H p ys/\∀l,H l=none->Q (.ref l) (upd H l (.tup ys)))\/(SqT X.K H p ys/\Q (.ref p) H))):=by
 intro pins s σ H xs us Q I r h;let#[p,ys,1,h]:=h;let#[u,1,rx]:=cJ r;cases rx
 rcases h with⟨hq,q⟩|⟨hq,q⟩
 ·let#[its,O,pl,Z]:=I.list hq;have Y:=O.length;erw[call_tuple_list pl.isList (λh' kp=>?_) (by simp only[GR]<;>lia)]
  have U:Inv X pins σ H { s with heap:=h' }:=I.kept (t':=s.toks) kp
  have I2:Inv X pins σ (upd H h'.objs.size (.tup ys)) { s with heap:=h'.push { cls:=.type "tuple",data:=.seq its.toArray } }:=
   U.laid (t':=s.toks) (λb o e=>h_ _ e) (ge _) (show FC X.prog X.w _ _ _ (.tup ys) from#[Z,its,O,IsTup.new _ _])
  rwa[22,.ref h'.objs.size,_,I2,1,q _ (U.hok.fresh (ge _))]
 ·let#[its,O,pl,Z]:=I.tuple hq;rwa[call_tuple_same pl #[22,.ref p,H,I,1,q]]
def tyV(K:Frag)(T:String)(x:V)(H:Hp):Prop:=match x with
 |.str _=>T="str"
 |.int _=>T="int"
 |.ref p=>(T="list"/\∃xs,SqL K H p xs)\/(T="tuple"/\∃o,K.lookup p=some o/\o.cls=.type "tuple"/\o.dict=none) \/
   (T="dict"/\((∃kvs,H p=some (.dK kvs))\/∃kvs,H p=some (.dT kvs)))\/(T="set"/\∃S n,H p=some (.set S n))
 |_=>False
theorem zr{x:V}{v:Value}(I:Inv X pins σ H s)(r:Fy x v)(ty:tyV X.K T x H):
  s.TypeIs v T/\∀a,v=.ref a->∃ob,s.heap.get? a=some ob/\ob.dict=none:=by
 cases x with
 |str z=>
  let#[t,1]:=r;cases (show T="str" from ty)
  rwa[typeIs_str s z t,λ_ e=>nomatch e]
 |int i=>
  let#[t,1]:=r;cases (show T="int" from ty)
  rwa[typeIs_int s i t,λ_ e=>nomatch e]
 |ref p=>
  cases r
  rcases ty with⟨rfl,xs,hq⟩|⟨rfl,o,hk,hc,hd⟩|⟨rfl,hk⟩|⟨rfl,S,n,hk⟩
  ·let#[its,_,pl,_]:=I.list hq;erw[pl.isList.typeIs,λa e=>?_]
   cases e;let#[o,n,e,c,hd,_]:=pl;rwa[o,e,hd]
  ·erw[#[o,I.kIn p o hk,hc],λa e=>?_]
   cases e;rwa[o,I.kIn _ o hk,hd]
  ·have z:∃o,s.heap.get? p=some o/\o.ExactDict:=by
    rcases hk with⟨kvs,hk⟩|⟨kvs,hk⟩
    ·let#[_,_,_,_,o,_,_,e,ex,_]:=I.hok p _ hk;rwa[o,e,ex]
    ·let#[_,_,_,_,o,_,_,e,ex,_]:=I.hok p _ hk;rwa[o,e,ex]
   let#[o,e,ex]:=z;erw[#[o,e,ex.1],λa e2=>?_]
   cases e2;rwa[o,e,ex.2.1]
  ·let#[o,_,_,_,e,ex,_]:=I.hok p _ hk;erw[#[o,e,ex.1],λa e2=>?_]
   cases e2;rwa[o,e,ex.2.1]
 |_=>rwa[False.elim ty]
def tBM0(K:Frag)(T:String)(r:V->List V->Hp->VK->Prop)(to:TE):TE:=λσ H Q=>to σ H λx H1=>tyV K T x H1/\r x [] H1 Q
def tBM(K:Frag)(T:String)(r:V->List V->Hp->VK->Prop)(to:TE)(t:TA):TE:=λσ H Q=>to σ H λx H1=>tyV K T x H1/\t σ H1 λxs H2=>r x xs H2 Q
variable {o:Expr}{es:List Expr}{to:TE}{t:TA}{name:Str}{apos cpos:Pos}{id:String}{r:V->List V->Hp->VK->Prop}
theorem rE(pa:PlainAttrs T)(slot:Slot T name id)(hty:typeOf (.builtin id)=pure (.type "method_descriptor"))(hm:MtR X id r)(ho:PE X o to)(hbase:attributeBase o name X.env (eval o X.env)=eval o X.env:=by rfl)(hline:(apos.endLine==cpos.line)=true:=by rfl):PE X (.Call (.Attribute o name apos) [] [] cpos) (tBM0 X.K T r to):=by
 intro pins s σ H Q I h;erw[wpAny_Call_method0_late hbase hline (thn (ho pins s σ H _ I h) λv s1 ⟨x,H1,O,U,ty,Y⟩=>?_)]
 let#[h1,h2]:=zr O U ty;rwa[25,T,id,pa,slot,hty,h1,h2,Ny rfl (PySem.evalArgs_none (hm pins s1 σ H1 x [] v [] Q O U .nil Y))]
theorem Fc(pa:PlainAttrs T)(slot:Slot T name id)(hty:typeOf (.builtin id)=pure (.type "method_descriptor"))(hm:MtR X id r)(ho:PE X o to)(ha:PA X (e::es) t)(hbase:attributeBase o name X.env (eval o X.env)=eval o X.env:=by rfl)(hfew:((backTo cpos (starEach (e::es) X.env)).all (λx=>!x.1)&&(backToKw cpos (keywordEach [] X.env)).all (λx=>x.1.isSome)
   && decide ((e::es).length+([]:List Keyword).length+(if ([]:List Keyword).isEmpty then 0 else 1)<30))=true:=by rfl)(hline:(apos.endLine==cpos.line)=true:=by rfl)(hs:starEach (e::es) X.env=(false,eval e X.env)::starEach es X.env:=by rfl)(hplain:(backTo cpos (starEach es X.env)).any (·.1)=false:=by rfl):
  PE X (.Call (.Attribute o name apos) (e::es) [] cpos) (tBM X.K T r to t):=by
 intro pins s σ H Q I h;erw[wpAny_Call_method_late hbase hfew hline rfl (thn (ho pins s σ H _ I h) λv s1 ⟨x,H1,O,Y,ty,q1⟩=>?_)]
 let#[h1,h2]:=zr O Y ty;erw[25,T,id,pa,slot,hty,h1,h2,?_];have U:=ha cpos pins s1 σ H1 _ O q1;rw[hs] at U ⊢;erw[Ny (by show(false || (backTo cpos (starEach es X.env)).any (·.1))=false;rw[hplain]<;>rfl) (Calls.evalArgs_plain ?_)]
 rwa[thn U λus s2 ⟨vs,H2,Z,r2,q2⟩=>hm pins s2 σ H2 x vs v us Q Z Y r2 q2]
end
def MtM(X:Cx)(id:String)(r:V->List V->Hp->VK->Prop):Prop:=
 ∀(pins:List (Addr×Obj)) (s:Shared) (σ:St) (H:Hp) (x:V) (xs:List V) (v:Value) (us:List Value) (Q:VK),Inv X pins σ H s->Fy x v->Fw xs us->r x xs H Q->
  wpAny (model X.prog X.w) X.A (call (.builtin id) (v::us)) (EP X pins σ Q) X.xe s
theorem Fw.one:∀{x:V} {us:List Value},Fw [x] us->∃u,us=[u]/\Fy x u
 |_,_,.cons r .nil=>#[0,r]
theorem Fw.two:∀{x y:V} {us:List Value},Fw [x,y] us->∃u v,us=[u,v]/\Fy x u/\Fy y v
 |_,_,_,.cons r (.cons q .nil)=>#[22,_,0,r,q]
theorem Fw.zero:∀{us:List Value},Fw [] us->us=[]
 |_,.nil=>rfl
theorem Fw.dropLast(h:Fw xs us):Fw xs.dropLast us.dropLast:=by
 induction h with
 |nil=>rwa[.nil]
 |cons r t ih=>
  cases t with
  |nil=>rwa[.nil]
  |cons q t'=>rwa[.cons r ih]
theorem Fw.reverse(h:Fw xs us):Fw xs.reverse us.reverse:=by
 induction h with
 |nil=>rwa[.nil]
 |cons r t ih=>rw[reverse_cons,reverse_cons];rwa[Fw.append ih (.cons r .nil)]
theorem tO(l:List α):l.eraseIdx (l.length-1)=l.dropLast:=by
 induction l with
 |nil=>rfl
 |cons a r ih=>
  cases r with
  |nil=>rfl
  |cons b r=>
   have e:(a::b::r).length-1=((b::r).length-1)+1:=by
    have h1:(a::b::r).length=r.length+2:=rfl;have h2:(b::r).length=r.length+1:=rfl;lia
   rw[e,List.eraseIdx_cons_succ,ih]
   all_goals rfl
section
variable {l b:Addr}{ys zs:List V}
theorem Inv.lset{f:Array Value->Array Value}(I:Inv X pins σ H s)(hH:H l=some (.lst xs))(e:s.heap.get? l=some { cls:=.type "list",data:=.seq its.toArray n })(hf:f its.toArray=its'.toArray)(hv:Fw ys its')(hz:ys.length<=sizeLine):
  Inv X pins σ (upd H l (.lst ys)) { s with heap:=s.heap.update l (Obj.mapSeq f),toks:=t' }:=by
 have q:=PySem.IsL.update e f;rw[hf] at q;erw[I.write (x:=l) (e:=l) (by rw[hH];rwa[trivial]) (.inl rfl) (λY u O U=>(LP s.heap (Obj.mapSeq f) (Ne.symm O)).trans U) #[_,q] ?_]
 rwa[0121,hz,its',_,hv,q]
theorem Inv.lnew(I:Inv X pins σ H s)(hv:Fw ys its)(hz:ys.length<=sizeLine):
  Inv X pins σ (upd H s.heap.objs.size (.lst ys)) { s with heap:=s.heap.push { cls:=.type "list",data:=.seq its.toArray },toks:=t' }:=
 I.laid (λ_ _ q=>h_ _ q) (ge _) #[0121,hz,its,(0),hv,z_ _ rfl]
theorem Inv.fresh(I:Inv X pins σ H s):H s.heap.objs.size=none:=I.hok.fresh (ge _)
theorem Inv.lstM(I:Inv X pins σ H s)(hH:H l=some (.lst xs)):xs.length<=sizeLine/\∃(its:List Value) (n:Nat),Fw xs its/\xs.length=its.length/\s.heap.get? l=some { cls:=.type "list",data:=.seq its.toArray n }:=by
 let#[z,its,n,r,e]:=I.hok l _ hH;rwa[0122,z,its,n,r,r.length,e]
end
section
def uJ:V->List V->Hp->VK->Prop:=λx vs H Q=>∃l xs y,x=.ref l/\vs=[y]/\H l=some (.lst xs)/\xs.length<sizeLine/\Q .non (upd H l (.lst (xs++[y])))
theorem iW:MtM X "list.append" uJ:=by
 intro pins s σ H x vs v us Q I Z Y h;let#[l,xs,y,1,1,O,hz,q]:=h;cases Z;let#[u,1,U]:=Y.one;let#[z,its,n,r,hl,e]:=I.lstM O;erw[call_meets F.slot_list_append #[_,e,1] F.entry_list_append (F.args_list_append_2 _ _) (PySem.list_append l its.toArray n u (by rw[GR];lia)) #[e,?_]]
 erw[22,.non,_,I.lset (its':=its++[u]) O e (by simp) (r.append (.cons U .nil)) ?_,1,q]
 rw[y_,GV];lia
def rExtend:V->List V->Hp->VK->Prop:=λx vs H Q=>∃l b xs zs,x=.ref l/\vs=[.ref b]/\H l=some (.lst xs)/\H b=some (.lst zs)/\xs.length+zs.length<=sizeLine/\Q .non (upd H l (.lst (xs++zs)))
def rPop:V->List V->Hp->VK->Prop:=λx vs H Q=>∃l xs y,x=.ref l/\vs=[]/\H l=some (.lst xs)/\xs[xs.length-1]? = some y/\Q y (upd H l (.lst xs.dropLast))
theorem D9:MtM X "list.pop" rPop:=by
 intro pins s σ H x vs v us Q I rx rv h;let#[l,xs,y,1,1,Y,hy,q]:=h;cases rx;have O:=rv.zero;subst O;let#[z,its,n,r,Z,e]:=I.lstM Y;let#[u,hu,ru]:=r.get hy;have U:its.toArray[its.toArray.size-1]? = some u:=by
  show its.toArray[its.length-1]? = some u;rw[<- Lv,<- Z];rwa[hu]
 erw[call_meets F.slot_list_pop #[_,e,1] F.entry_list_pop (F.args_list_pop_1 _) (MeetsSeq.list_pop_last l its.toArray n u U (by rw[GR];lia)) #[e,?_]]
 erw[22,y,_,I.lset (its':=its.dropLast) Y e ?_ r.dropLast ?_,ru,q]
 ·show its.toArray.eraseIdxIfInBounds (its.toArray.size-1)=its.dropLast.toArray;rw[GR,List.eraseIdxIfInBounds_toArray,tO]
 ·rw[List.length_dropLast];lia
def rCat:R2:=λx y H Q=>∃l b xs zs,x=.ref l/\y=.ref b/\H l=some (.lst xs)/\H b=some (.lst zs)/\xs.length+zs.length<=sizeLine/\∀p,H p=none->Q (.ref p) (upd H p (.lst (xs++zs)))
theorem pJ:OpR X (binaryOp .Add) rCat:=by
 intro pins s σ H x y v u Q I rx ry h;let#[l,b,xs,zs,1,1,Z,Y,hz,q]:=h;cases rx;cases ry;let#[z,its,n,r,hl,e]:=I.lstM Z;let#[z2,O,n2,r2,a6,e2]:=I.lstM Y;erw[PySem.P.add_list e e2 ?_ (by rw[GR,GR];lia)]
 have U:its.toArray++O.toArray=(its++O).toArray:=by simp
 rw[U];rwa[22,.ref _,_,I.lnew (t':=s.toks) (r.append r2) (by rw[y_];lia),1,q _ I.fresh]
end
end L2
namespace Att
open PySem PySem.W PySem.Calls PyProof.Rows
variable {P:Params}{h:Heap}{l:OpenLaw}{n:Nat}
theorem jO:∀(ns:List Int) (vs:List Value),WellAll P h vs (ns.map WData.int)->IntsAre vs ns:=by
 intro ns
 induction ns with
 |nil=>
  intro vs w;rw[map_nil] at w;cases w;rwa[.nil]
 |cons n ns ih=>
  intro vs w;rw[K1] at w;cases w with
  |cons a b=>
   cases a;rwa[.cons _ _ (ih _ b)]
theorem xb(hn:l.most=some n){args:List WData}{vals:List Value}(hpre:l.row.toRowW.claim.pre args=true)(hwl:WellAll P h vals args):
  ∃a vs ns,vals=[Value.ref a]/\args=[WData.list (ns.map WData.int)]/\h.get? a=some { cls:=.type "list",data:=.seq vs.toArray }/\IntsAre vs ns/\ns.length<=n:=by
 have Y:WShape.hasAll [] args [.list .int]=true:=(pre_splitW hpre).1;have Z:l.pre.holds [] { args:=args }=true:=(pre_splitW hpre).2;let#[d,r,1,h1,h2]:=hasAllW_cons Y;obtain rfl:=hasAllW_nil h2;let#[xs,1,h3]:=hasW_list h1;let#[ns,1]:=items_int h3;have O:ns.length<=n:=by
  unfold OpenLaw.pre at Z;have h4:(WTm.not (.lt (.lit (.int (n:Int))) (.len (.arg 0)))).holds [] { args:=[.list (ns.map .int)] }=true:=by
   have h4:=(holds_andW Z).1;rw[hn] at h4;rwa[h4]
  have U:=condW_of h4 (w_not (w_lt w_lit (w_len_list (w_arg rfl))));rw[k_] at U;erw[Nat.le_of_not_lt λq=>?_]
  have q':(n:Int)<((ns.length:Nat):Int):=()
  first
   |(rw[p_ q'] at U;rwa[absurd U #[]])
   |(simp at U;lia)
 cases hwl with
 |cons w1 w2=>
  cases w2;cases w1 with
  |list ho hall=>rwa[34,_,_,ns,1,1,ho,jO ns _ hall,O]
theorem we(l:OpenLaw)(args:List WData):l.row.toRowW.claim.post args (.bool true) args=true:=
 postW_of (r:=l.row.toRowW) (X:=(true==true))
  (show WShape.has [] (.bool true) .bool=true by first|rfl|decide|simp[WShape.has,WShape.arms,WShape.armsAll])
  (show(WTm.eq .res (.lit (.bool true))).value [] { args:=args,res:=some (.bool true),after:=args }=some (.bool (true==true)) from w_eq_bool (w_res rfl) w_lit) rfl
theorem attach_call{q:Program}{loose:List Str}{XP:(Str->Option Value)->Heap->Prop}{YP:World->Heap->Prop}{d:DefRec}(hn:l.most=some n)(hdf:d.params.defaults=[])(call:∀(w:World) (s₀ O:Shared) (mg mb:Str->Option Value) (Z:Addr) (o:Obj) (pm cd doc:Value) (a:Addr) (vs:List Value) (ns:List Int),
   Ground q loose [] XP w s₀ mg mb O.heap->YP w O.heap->
   O.heap.get? Z=some o->o.data=.func (docDef d.name d.params d.body d.scope pm cd doc)->O.heap.CodeRec cd d.name->mg d.name=some (.ref Z)->
   O.heap.get? a=some { cls:=.type "list",data:=.seq vs.toArray }->IntsAre vs ns->ns.length<=n->O.gens = (List.toArray [])->
   codeAny (model l.prog w) callerA (.call (.ref Z) #[[.ref a],[]]) (λr s'=>r=.ok (.ret (.bool true))/\OldK O.heap s'.heap/\s'.os=O.os/\AllBare s'.gens) O):
  WalkO q loose XP YP l.row.toRowW d [] (λf vs=>PySem.call f vs):=by
 intro w s₀ O mg mb G Y Z o pm cd doc dV kV ho hd a9 hD a' hg args au as a8 ad b0 ac ax;obtain rfl:dV=.none:=Dflts.none hD hdf;obtain rfl:kV=.none:=Dflts.noKw hD;let#[a,vs,ns,1,1,a7,U,a6]:=xb hn a8 ac;erw[enter_call (codeAny_mono (call w s₀ O mg mb Z o pm cd doc a vs ns G Y ho (fd_plain hd) a9 a' a7 U a6 hg) λr s' hq=>?_)]
 let#[1,h2,h3,h4]:=hq;rwa[.inl #[34,.bool true,.bool true,[],1,λ_=>rfl,.bool true,we l _,λ_=>#[List.Pairwise.nil,λ_ hm=>(nomatch hm)]],h2,h3,h4]
end Att
namespace L2
open PySem PySem.Spec PyProof.Rows
variable {X:Cx}{P prog:Program}{w:World}{K:Frag}{x qual y:Str}{st:Stmt}{f l a it z TO i1 i2 l1 l2 C:Addr}{N ps:List Str}{sp:Sp}{n k1 k2 ek:Nat}{pos ep p apos:Pos}{A:Around}{B:Prop}{H H' H0:Hp}{xs:List V}{s:Shared}{elt iter tg e e2:Expr}{ifs es:List Expr}{scope:Scope}{env:Env}{src:List (Option Nat)}{pins:List (Addr×Obj)}{σ σ0 rest:St}{g:TG}{tt:TT}{te te2:TE}{fp:List Addr}{J:It}{Q E:Value->Shared->Prop}{wi:TI}{h h':Heap}{ys items:Array Value}{t1 t2:Bool}{ta:TA}{D:gC}
theorem jj:∀{vs:List Value} {ns:List Int},IntsAre vs ns->Fw (ns.map V.int) vs
 |_,_,.nil=>.nil
 |_,_,.cons n t h=>.cons #[t,1] (jj h)
def inClass(s:Stmt)(j:Nat):Stmt:=match s with
 |.ClassDef _ _ _ body _ _ _ _ _ _ _=>body.getD j (.Pass #[(0),(0),(0),(0)])
 |_=>.Pass #[(0),(0),(0),(0)]
def bv(s:Stmt):Arguments:=match s with
 |.FunctionDef _ a _ _ _ _ _ _ _ _=>a
 |_=>{ posonlyargs:=[],args:=[],vararg:=none,kwonlyargs:=[],kw_defaults:=[],kwarg:=none,defaults:=[] }
def aW(s:Stmt):List Stmt:=match s with
 |.FunctionDef _ _ b _ _ _ _ _ _ _=>b
 |_=>[]
def am(s:Stmt):Scope:=match s with
 |.FunctionDef _ _ _ _ _ _ sc _ _ _=>sc
 |_=>{ kind:=.function,names:=[],isGenerator:=false,isCoroutine:=false }
abbrev CX0:CXT:=λ_ _ _ _ _ _=>False
abbrev E0:XK:=λ_ _ _=>False
theorem ve:dq CX0 X E0:=λ_ _ _ _ _ _ _ h=>h.elim
structure Fun (K:Frag) (x qual:Str) (st:Stmt) (f:Addr) (fd:FuncData):Prop where
 ex:∃(oc:Value) (od:Option Addr) (kV doc pm:Value) (an:Option Addr) (cdv ct:Value) (osl:Array (Option Value)),
  fd=fnOf x qual (bv st) (aW st) (am st) .none kV doc pm an cdv ct/\K.lookup f=some #[oc,od,.func fd,osl]/\codeIn K cdv qual=true
 kp:keepIn K (.ref f)=true
section
variable {mg:Str->Option Value}{base:Heap}
theorem Fun.ok{fd:FuncData}{k:Nat}(F:Fun K x qual st f fd)(S:Fv N ps (am st))(len:∀vs H Q E,sp vs H Q E->vs.length=ps.length)(hbody:∀(cdv:Value) (A:Around) (outer:List Env) (s:Shared) (H:Hp) (vs:List V) (Q:VK) (E:XK),FD k (A.deeper (envOfC qual (am st) s.heap.objs.size f cdv))->sp vs H Q E->
   ∃t,PSs (cD CX0 P w K mg base N qual (am st) f cdv A outer s H E).nox (aW st) t/\t { nx:=λ_ H'=>Q .non H',rt:=Q } (cK N vs) H):`aC CX0 (k+1) f fd ps sp:=by
 let#[oc,od,kV,doc,pm,an,cdv,ct,osl,1,lk,O]:=F.ex;erw[uQ lk O S len λA outer s H vs Q E Y U=>?_]
 let#[t,h,q]:=hbody cdv A outer s H vs Q E Y U;rwa[t,h.nox,q]
theorem Fun.binds{fd:FuncData}(F:Fun K x qual st f fd)(h:∀(kV doc pm:Value) (an:Option Addr) (cdv ct:Value) (us:List Value),us.length=ps.length->bindArgs (fnOf x qual (bv st) (aW st) (am st) .none kV doc pm an cdv ct) #[us,[]]=pure (ps.zip us)):FT K fd ps []:=by
 let#[oc,od,kV,doc,pm,an,cdv,ct,osl,1,lk,O]:=F.ex;rwa[.all (h kV doc pm an cdv ct)]
theorem zu{oc:Value}{od an:Option Addr}{osl:Array (Option Value)}{kV doc pm cdv ct:Value}(l:K.lookup f=some #[oc,od,.func (fnOf x qual (bv st) (aW st) (am st) .none kV doc pm an cdv ct),osl])(c:codeIn K cdv qual=true)(k:keepIn K (.ref f)=true):Fun K x qual st f (fnOf x qual (bv st) (aW st) (am st) .none kV doc pm an cdv ct):=#[#[404012,oc,od,kV,doc,pm,an,cdv,ct,osl,1,l,c],k]
end
theorem iY(h:n<=1000):n<sizeLine:=Li h #[]
section
theorem pv(i:Nat)(hN:X.N[i]? = some x:=by rfl)(hv:Vis X.env.scope x:=by first|rwa[Or.inl rfl]|rwa[Or.inr #[4]]|rwa[Or.inr (Or.inr rfl)])(hd:(x==("__debug__" : Str))=false:=by decide)(hcd:(x==("__classdict__" : Str))=false:=by decide):PE X (.Name x pos) (Ed i):=Eb hN hv hd hcd
end
theorem cG{A:Prop}(h:B):if false=true then A else B:=by
 rw[t_ GT];rwa[h]
theorem cZ{A:Prop}(h:A):if true=true then A else B:=by
 rw[u_ rfl];rwa[h]
theorem cT{c A:Prop}[Decidable c](h1:c->A)(h2:¬c->B):if c then A else B:=by
 by_cases h:c
 ·rw[u_ h];rwa[h1 h]
 ·rw[t_ h];rwa[h2 h]
theorem uy{c A:Prop}[Decidable c](hc:c)(h:B):if (!decide c)=true then A else B:=by
 rw[p_ hc];rwa[cG h]
def Fu(H H':Hp):Prop:=∀b o,H b=some o->H' b=some o
theorem Fu.refl(H:Hp):Fu H H:=λ_ _ h=>h
theorem Fu.trans{H1 H2:Hp}(a:Fu H H1)(b:Fu H1 H2):Fu H H2:=λc o h=>b c o (a c o h)
theorem Fu.free(e:Fu H H')(h:H' l=Option.none):H l=Option.none:=by
 cases q:H l with
 |none=>rfl
 |some o=>
  rw[e l o q] at h;cases h
theorem Fu.seq(e:Fu H H')(h:SqL K H a xs):SqL K H' a xs:=by
 rcases h with(h|⟨o,h⟩)|h
 ·rwa[.inl (.inl (e _ _ h))]
 ·rwa[.inl (.inr #[o,e _ _ h])]
 ·rwa[.inr h]
section
variable {R:Result->Shared->Prop}
theorem ik{target:Expr}{it acc:Value}(I:Nat->Shared->Prop)(turn:∀n s,I n s->wpAny (model prog w) A (pyNext it) (λr Y=>match r with
   |none=>R (.ok .next) Y
   |some v=>wpAny (model prog w) A (letOwnedTupleGo target it v) (λ_ O=>wpAny (model prog w) A (assign target env v) (λ_ s₂=>
     wpAny (model prog w) A (forIn ifs true λc r=>if r=true then do let ok <- isTrue c env (eval c env);pure (ForInStep.yield ok) else pure (ForInStep.yield r)) (λok Z=>
      if ok=true then wpAny (model prog w) A (eval elt env) (λx s₄=>
       wpAny (model prog w) A (call (.builtin "list.append") [acc,x]) (λ_ s₅=>∃m,m<n/\I m s₅) (λ_ _=>False) s₄) (λ_ _=>False) Z
      else ∃m,m<n/\I m Z) (λ_ _=>False) s₂) (λ_ _=>False) O) (λ_ _=>False) Y) (λ_ _=>False) s)(n:Nat)(h:I n s):
  codeAny (model prog w) A (.compLoop (.ListComp elt [#[target,iter,ifs,(0)]] scope pos) 0 it acc env) R s:=by
 erw[codeAny_loop rfl I (λn s hI=>?_) n h]
 show wpAny _ A ((compTurn (.ListComp elt [#[target,iter,ifs,(0)]] scope pos) 0 it acc env).onRaise (λx=>do noteFrame x env;theTreesLotGoes x)) _ _ s
 erw[wpAny_noted ?_];rw[compTurn_list];erw[c_ (wpAny_standAt (c_ (LF (turn n s hI) (λr Y h₁=>?_) λ_ _ h'=>h'.elim)))]
 cases r with
 |none=>rwa[i_ h₁]
 |some v=>
  erw[c_ (LF h₁ (λ_ O U=>?_) λ_ _ h'=>h'.elim)]
  erw[c_ (LF U (λ_ s₂ h₂=>c_ (LF h₂ (λok Z h₃=>?_) λ_ _ h'=>h'.elim)) λ_ _ h'=>h'.elim)]
  cases ok with
  |false=>rwa[i_ #[1,h₃]]
  |true=>
   rwa[c_ (c_ (LF h₃ (λx s₄ h₄=>c_ (LF h₄ (λ_ s₅ h₅=>i_ (i_ #[1,h₅])) λ_ _ h'=>h'.elim)) λ_ _ h'=>h'.elim))]
end
def cn(env:Env):List (Str×NameKind)->List (Str×Addr)->List (Str×Addr)
 |[],cs=>cs
 |(n,k)::r,cs=>cn env r (if k == .free then(n,(env.cells.lookup n).getD 0)::cs else cs)
theorem kC{env:Env}:∀(l:List (Str×NameKind)) (O:List (Str×Addr)),(∀x∈l,x.2=.free->∃c,env.cells.lookup x.1=some c)->
  (do let r <- forIn l O (λ(x:Str×NameKind) (O:List (Str×Addr))=>if (x.2 == .free)=true then do let a <- cellOf env x.1;pure (ForInStep.yield ((x.1,a)::O)) else pure (ForInStep.yield O));pure r:Sem (List (Str×Addr)))=pure (cn env l O)
 |[],O,_=>rfl
 |(n,k)::r,O,h=>by
  have ih:=λY=>kC (env:=env) r Y λx hx=>h x (GG _ hx)
  rw[forIn_cons];cases hk:(k==NameKind.free) with
  |false=>
   simp only[hk,LW,On];show(do let r <- forIn r O _;pure r:Sem _)=_
   rw[ih];simp only[cn,hk,LW,On]
  |true=>
   let#[c,U]:=h (n,k) KQ (by simpa using hk)
   have Z:cellOf env n=pure c:=by unfold cellOf;simp only at U;rw[U]
   simp only[hk,Px,Z];show(do let r <- forIn r ((n,c)::O) _;pure r:Sem _)=_
   rw[ih];simp only at U;simp only[cn,hk,Px,U,Option.getD_some]
theorem gU(h:∀x∈scope.names,x.2=.free->∃c,env.cells.lookup x.1=some c):closureFor scope env=pure (cn env scope.names []):=by
 have q:=kC scope.names [] h;unfold closureFor;rwa[Ls (λ(m:Sem (List (Str×Addr)))=>m >>= pure) q]
theorem sg:∀(l:List (Str×NameKind)) (cs:List (Str×Addr)) (n:Str) (c:Addr),(∀x∈l,x.2=.free->∃c,env.cells.lookup x.1=some c)->
  (cn env l cs).lookup n=some c->env.cells.lookup n=some c\/cs.lookup n=some c
 |[],cs,n,c,_,h=>.inr h
 |(m,k)::r,cs,n,c,hf,h=>by
  have O:=sg r (if (k == .free)=true then(m,(env.cells.lookup m).getD 0)::cs else cs) n c (λx Y=>hf x (GG _ Y)) h
  cases hk:(k==NameKind.free) with
  |false=>
   simp only[hk,LW,On] at O;rwa[O]
  |true=>
   simp only[hk,Px] at O
   rcases O with O|O
   ·rwa[.inl O]
   ·cases Y:n==m with
    |true=>
     simp only[Lx,Y] at O;let#[Z,U]:=hf (m,k) KQ (by simpa using hk)
     simp only at U;rw[U] at O;have e:n=m:=by simpa using Y
     subst e;rwa[.inl (U.trans O)]
    |false=>
     simp only[Lx,Y] at O;rwa[.inr O]
theorem qo:∀(l:List (Str×NameKind)) (cs:List (Str×Addr)) (n:Str),(∃c,cs.lookup n=some c)->∃c,(cn env l cs).lookup n=some c
 |[],cs,n,h=>h
 |(m,k)::r,cs,n,⟨c,h⟩=>by
  erw[qo r _ n ?_]
  by_cases hk:(k==NameKind.free)=true
  ·rw[u_ hk];cases hx:n==m with
   |true=>rwa[(env.cells.lookup m).getD 0,by simp only[Lx,hx]]
   |false=>rwa[c,by simp only[Lx,hx];rwa[h]]
  ·rw[t_ hk];rwa[c,h]
theorem iP:∀(l:List (Str×NameKind)) (cs:List (Str×Addr)) (n:Str),(n,NameKind.free)∈l->∃c,(cn env l cs).lookup n=some c
 |[],_,_,h=>absurd h (by simp)
 |(m,k)::r,cs,n,h=>by
  rcases GH.mp h with e|e
  ·cases e;erw[qo r _ _ ?_];rwa[_,by simp[Lx];rfl]
  ·rwa[iP r _ n e]
theorem cA{env:Env}:∀(names:List (Str×NameKind)) (x:Str),
  (names.map λ(n,k)=>if (k==NameKind.free&&env.scope.kind == .function&&env.kindOf n==some .cell) then(n,NameKind.cell) else(n,k)).lookup x
   = (names.lookup x).map λk=>if (k==NameKind.free&&env.scope.kind == .function&&env.kindOf x==some .cell)=true then NameKind.cell else k
 |[],x=>rfl
 |(n,k)::r,x=>by
  have U:=cA (env:=env) r x;show List.lookup x ((if (k==NameKind.free&&env.scope.kind == .function&&env.kindOf n==some .cell)=true then(n,NameKind.cell) else(n,k))::_)=_
  cases hx:x==n with
  |true=>
   have e:x=n:=by simpa using hx
   subst e
   by_cases O:(k==NameKind.free&&env.scope.kind == .function&&env.kindOf x==some .cell)=true
   ·rw[u_ O];simp only[Lx,hx,Mo];rw[u_ O]
   ·rw[t_ O];simp only[Lx,hx,Mo];rw[t_ O]
  |false=>
   by_cases O:(k==NameKind.free&&env.scope.kind == .function&&env.kindOf n==some .cell)=true
   ·rw[u_ O];simp only[Lx,hx];rwa[U]
   ·rw[t_ O];simp only[Lx,hx];rwa[U]
def oF(outer scope:Scope):Bool:=
 scope.kind == .function&&outer.kind == .function&&scope.names.all λx=>x.2 != .cell&&(x.2 != .local || scope.names.lookup x.1==some .local)&&(x.2 != .free || (outer.names.lookup x.1==some .cell || outer.names.lookup x.1==some .free))
def iE(XN N:List Str)(src:List (Option Nat))(scope:Scope):Bool:=
 src.length==N.length&&(List.range N.length).all λi=>match src[i]?.join with
  |none=>true
  |some j=>N[i]? == XN[j]? && (N[i]?).any λx=>scope.names.lookup x==some .free
def bG(src:List (Option Nat))(σ:St):St:=src.map λo=>o.bind λj=>(σ[j]?).join
def cxC(X:Cx)(N:List Str)(scope:Scope)(s:Shared)(H:Hp)(ex:List Addr):Cx where
 prog:=X.prog
 w:=X.w
 K:=X.K
 mg:=X.mg
 base:=X.base
 A:=X.A
 N:=N
 s₀:=s
 H₀:=H
 env:=compEnvC scope (cn X.env scope.names []) s.heap.objs.size X.env
 outer:=X.stack
 stack:=X.stack
 ex:=ex
 fn:=λ_=>false
 calm:=X.calm
 pn:=[]
 xe:=λ_ _=>False
structure FR (X:Cx) (scope:Scope):Prop where
 kind:scope.kind=.function
 nocell:∀x∈scope.names,x.2≠.cell
 names:∀x∈scope.names,x.2=.local->scope.names.lookup x.1=some .local
 free:∀x∈scope.names,x.2=.free->X.env.kindOf x.1=some .cell\/X.env.kindOf x.1=some .free
theorem mI(h:oF X.env.scope scope=true):FR X scope:=by
 unfold oF at h;simp only[Lp,NO,all_eq_true,Bool.or_eq_true,bne_iff_ne] at h;let#[#[h1,_],h2]:=h;erw[h1,λx O=>(h2 x O).1.1,λx O e=>?_,λx O e=>?_]
 ·rcases(h2 x O).1.2 with z|z
  ·rwa[absurd e z]
  ·rwa[z]
 ·rcases(h2 x O).2 with z|z
  ·rwa[absurd e z]
  ·rwa[z]
theorem FR.cells(f:FR X scope)(ok:X.Ok):∀x∈scope.names,x.2=.free->∃c,X.env.cells.lookup x.1=some c:=λx O e=>ok.has x.1 (f.free x O e)
theorem FR.cl(f:FR X scope)(ok:X.Ok){n:Str}{c:Addr}(h:(cn X.env scope.names []).lookup n=some c):X.env.cells.lookup n=some c:=by
 rcases sg _ _ _ _ (f.cells ok) h with z|z
 ·rwa[z]
 ·cases z
theorem FR.kf(f:FR X scope)(h:(relabel scope X.env).names.lookup x=some .cell\/(relabel scope X.env).names.lookup x=some .free):scope.names.lookup x=some .free:=by
 unfold relabel at h;simp only at h;rw[cA] at h;cases e:scope.names.lookup x with
 |none=>rw[e] at h;rcases h with z|z<;>cases z
 |some k=>
  rw[e] at h;simp only[Mo,OY] at h;cases k with
  |free=>rfl
  |cell=>rwa[absurd rfl (f.nocell _ (PySem.mem_of_lookup e))]
  |_=>simp at h
theorem FR.fk(h:scope.names.lookup x=some .free):(relabel scope X.env).names.lookup x=some .cell\/(relabel scope X.env).names.lookup x=some .free:=by
 unfold relabel;simp only;rw[cA,h];simp only[Mo,OY]
 split
 ·rwa[.inl rfl]
 ·rwa[.inr rfl]
theorem rm{XN:List Str}(h:iE XN N src scope=true):src.length=N.length/\∀(i:Nat) (x:Str) (j:Nat),N[i]? = some x->src[i]? = some (some j)->XN[j]? = some x/\scope.names.lookup x=some .free:=by
 unfold iE at h;simp only[Lp,NO,all_eq_true] at h;erw[h.1,λi x j h1 h2=>?_]
 have hi:i<N.length:=(q_.mp h1).1;have q:=h.2 i (ME.mpr hi);rw[h2,h1] at q;simp only[Option.join_some,Lp,NO,Option.any_some] at q;rwa[q.1.symm,q.2]
section
theorem tw{ex:List Addr}{h1:Heap}{m:Str->Option Value}{tk:Nat}(I:Inv X pins σ H s)(f:FR X scope)(hsrc:iE X.N N src scope=true)(hex:∀b∈ex,b<s.heap.objs.size/\b≠X.env.locals/\b∉X.fs/\(∀x c,X.env.cells.lookup x=some c->c≠b)/\∀o,X.base.get? b≠some o)(hn:h1.Ns s.heap.objs.size m)(hk:∀b o,s.heap.get? b=some o->h1.get? b=some o):
  Inv (cxC X N scope s H ex) [] (bG src σ) H { s with heap:=h1,toks:=tk }:=by
 let#[a6,a']:=rm hsrc;have ok:=I.ok;have U:∀x c,(cn X.env scope.names []).lookup x=some c->∃v,s.heap.IsCell c v:=λx c e=>I.cell x c (f.cl ok e)
 have a7:∀x c,(cn X.env scope.names []).lookup x=some c->c<s.heap.objs.size:=λx c e=>by
  let#[v,o,ho,_]:=U x c e;rwa[GP ho]
 have a8:∀b∈frs X.stack,b∈X.env.locals::X.fs:=I.stkSub
 erw[#[ok.mod,f.kind,ok.glob,ok.blt,ge _,λx y c h1 h2=>ok.inj x y c (f.cl ok h1) (f.cl ok h2),λx hx=>?_,λx c hx=>?_,ok.hd,ok.frames,.inl rfl,λb Y=>#[GA (hex b Y).1,λx c e=>(hex b Y).2.2.2.1 x c (f.cl ok e)],I.bs,Lg ok.bsz I.sz,λb o e Y=>(hex b Y).2.2.2.2 o e,λb Y a9=>?_,I.stack,I.stkFree],
  1,I.bare,Un.kept hk,#[m,hn,λi x v e1 e2 e3=>?_],λx c e=>?_,I.hok.fresh (ge _),λx c e=>I.freeC x c (f.cl ok e),λp hp=>absurd (show p∈([]:List (Addr×Obj)) from hp) (by simp),I.hok.kept hk,?_]
 ·rwa[iP _ _ _ (PySem.mem_of_lookup (f.kf hx))]
 ·cases hx
 ·rcases GH.mp (a8 b a9) with z|z
  ·exact(hex b Y).2.1 z
  ·exact(hex b Y).2.2.1 z
 ·have O:(bG src σ)[i]? = some (some v):=e2;unfold bG at O;rw[Ga] at O;cases hs:src[i]? with
  |none=>rw[hs] at O;cases O
  |some o=>
   rw[hs] at O;cases o with
   |none=>cases O
   |some j=>
    let#[q1,q2]:=a' i x j e1 hs;have e4:σ[j]? = some (some v):=by
     simp only[Mo,Option.bind_some,OY] at O;cases z:σ[j]? with
     |none=>rw[z] at O;cases O
     |some o=>rw[z] at O;simp only[Option.join_some] at O;rw[O]
    have kx:=f.free (x,.free) (PySem.mem_of_lookup q2) rfl;let#[mX,ac,hl]:=I.loc;let#[u,r,l]:=hl j x v q1 e4 (by rcases kx with z|z;rwa[.inr (.inl z)];rwa[.inr (.inr z)])
    erw[u,r,.inr #[FR.fk (X:=X) q2,?_]]
    rcases l with⟨l,_⟩|⟨_,c,ec,ic⟩
    ·rcases kx with z|z
     ·rw[z] at l;cases l
     ·rw[z] at l;cases l
    ·let#[c',Z]:=iP (env:=X.env) scope.names [] x (PySem.mem_of_lookup q2);have z:=f.cl ok Z;rw[ec] at z;cases z;let#[oc,ho,hd]:=ic;rwa[51,c,Z,oc,hk c oc ho,hd]
 ·let#[v,o,ho,hd]:=U x c e;rwa[21,v,o,hk c o ho,hd]
 ·show(bG src σ).length=N.length;unfold bG;rw[k_];rwa[a6]
def PIf(X:Cx)(ifs:List Expr)(t:TT):Prop:=
 ∀(pins:List (Addr×Obj)) (s:Shared) (σ:St) (H:Hp) (Q:Bool->Hp->Prop),Inv X pins σ H s->t σ H Q->
  wpAny (model X.prog X.w) X.A (forIn ifs true λc r=>if r=true then do let ok <- isTrue c X.env (eval c X.env);pure (ForInStep.yield ok) else pure (ForInStep.yield r)) (TP X pins σ Q) X.xe s
def jQ:TT:=λ_ H Q=>Q true H
theorem aV:PIf X [] jQ:=λpins s σ H Q I h=>i_ #[H,I,h]
theorem gr{c:Expr}{t:TT}(hc:PT X c t):PIf X [c] t:=by
 intro pins s σ H Q I h;rw[forIn_cons];simp only[Px];erw[c_ (c_ (thn (hc pins s σ H Q I h) λb s1 q=>i_ ?_))]
 rwa[i_ q]
def bK(J:It)(src:List (Option Nat))(g:TG)(tt:TT)(te:TE)(σ:St)(H1:Hp)(Q:VK):Prop:=∀acc,H1 acc=none->
 ∃W:Nat->Nat->St->Hp->Prop,(∃m,W 0 m (bG src σ) (upd H1 acc (.lst [])))/\∀i m σ H,W i m σ H->
  (J.stop i H/\Q (.ref acc) H)\/(J.go i H/\∃N:St->Hp->Prop,(∀σ' H',N σ' H'->∃m',m'<m/\W (i+1) m' σ' H')/\∀x H',J.yld i H x H'->g x σ H' λσ2 H2=>tt σ2 H2 λb H3=>
   if b=true then te σ2 H3 λy H4=>∃ys,H4 acc=some (.lst ys)/\ys.length<sizeLine/\N σ2 (upd H4 acc (.lst (ys++[y]))) else N σ2 H3)
def zR(src:List (Option Nat))(wi:TI)(g:TG)(tt:TT)(te:TE):TE:=λσ H Q=>wi σ H λJ H1=>bK J src g tt te σ H1 Q
theorem rc(use:Option (Value->Sem Unit))(PQ:Value->Shared->Prop)(E:Value->Shared->Prop)(hcalm:X.calm=true)(f:FR X scope)(hsrc:iE X.N N src scope=true)(O:∀(s:Shared) (H:Hp) (ex:List Addr),PG (cxC X N scope s H ex) tg g/\PIf (cxC X N scope s H ex) ifs tt/\PE (cxC X N scope s H ex) elt te){tn:Nat->Heap->Prop}(I:Inv X pins σ H s)(T:kh X.prog X.w X.K tg J fp it tn)(st:tn 0 s.heap)(hf:∀b∈fp,FJ X pins H b){Q:VK}(h:bK J src g tt te σ H Q)(hfin:∀(acc C:Addr) (s':Shared) (H':Hp) (m:Str->Option Value),s'.heap.Ns C m->FJ X pins H' C->(∀h',Heap.SameBut C s'.heap h'->Inv X pins σ H' { s' with heap:=h' })->Q (.ref acc) H'->compPost (model X.prog X.w) X.A E use PQ (.ref acc) C (.ok .next) s'):
  wpAny (model X.prog X.w) X.A (newList []) (λacc s₃=>
   wpAny (model X.prog X.w) X.A (newFunctionEnv scope X.env.globals (cn X.env scope.names []) [] X.env.qual none .none (some X.env)) (λa7 s₄=>
    codeAny (model X.prog X.w) X.A (.compStart (.ListComp elt [#[tg,iter,ifs,(0)]] scope pos) 0 (.ref it) acc { a7 with scope:=relabel scope X.env }) (compPost (model X.prog X.w) X.A E use PQ acc a7.locals) s₄) E s₃) E s:=by
 have ok:=I.ok;have I3:Inv X pins σ (upd H s.heap.objs.size (.lst [])) { s with heap:=s.heap.push { cls:=.type "list",data:=.seq ([]:List Value).toArray },toks:=s.toks }:=I.lnew (ys:=[]) (its:=[]) .nil (Gw _)
 let#[W,#[m0,w0],turn]:=h s.heap.objs.size (I.hok.fresh (ge _));erw[KS (wpAny_newFunctionEnv f.nocell (by intro y hy;simp at hy) (λh₁ a8 a9=>?_) f.kind)]
 dsimp only at a8 a9 ⊢;generalize hs3:({ s with heap:=s.heap.push { cls:=.type "list",data:=.seq ([]:List Value).toArray },toks:=s.toks }:Shared)=U at I3
 have e3:U.heap=s.heap.push { cls:=.type "list",data:=.seq ([]:List Value).toArray }:=by rw[<- hs3]
 have hk:∀b o,U.heap.get? b=some o->h₁.get? b=some o:=λb o e=>by
  rw[e3] at e;rwa[a9.extBut b o (GA (GP e)) (h_ _ e)]
 have au:∀b o,s.heap.get? b=some o->U.heap.get? b=some o:=λb o e=>by rw[e3];rwa[h_ _ e]
 have b9:∀b∈fp,b≠s.heap.objs.size:=λb O z=>by
  let#[o,e,_]:=T.obj 0 _ st b O;rwa[absurd (GP e) (by rw[z];rwa[Lk _])]
 have b4:∀b∈fp,b<U.heap.objs.size/\b≠X.env.locals/\b∉X.fs/\(∀x c,X.env.cells.lookup x=some c->c≠b)/\∀o,X.base.get? b≠some o:=λb O=>by
  let#[o,e,_]:=T.obj 0 _ st b O;let#[f0,f1,f2,f3,f4,f5]:=hf b O;erw[GP (au b o e),f1,f2,f4,λo' z=>?_]
  rcases f3 with q|q
  ·rwa[ok.noex b o' z q]
  ·rwa[absurd (GS (GP (ok.bs b o' z).1) q) (Lk _)]
 have ac:h₁.Ns U.heap.objs.size (λx=>([]:List (Str×Value)).reverse.lookup x):=by rw[e3];rwa[a8]
 have b1:Inv (cxC X N scope U (upd H s.heap.objs.size (.lst [])) fp) [] (bG src σ) (upd H s.heap.objs.size (.lst [])) { U with heap:=h₁,toks:=s.toks+([]:List (Str×Value)).length }:=
  tw (tk:=s.toks+([]:List (Str×Value)).length) I3 f hsrc b4 ac hk
 generalize hY:cxC X N scope U (upd H s.heap.objs.size (.lst [])) fp=Y at b1;have c2:PG Y tg g/\PIf Y ifs tt/\PE Y elt te:=by rw[<- hY];rwa[O U _ fp]
 let#[hg,ht,he]:=c2;have Yp:Y.prog=X.prog:=by rw[<- hY];rfl
 have Yw:Y.w=X.w:=by rw[<- hY];rfl
 have YK:Y.K=X.K:=by rw[<- hY];rfl
 have YA:Y.A=X.A:=by rw[<- hY];rfl
 have Yc:Y.calm=true:=by rw[<- hY];rwa[hcalm]
 have Yx:Y.xe=λ_ _=>False:=by rw[<- hY];rfl
 have Ye:Y.env=compEnvC scope (cn X.env scope.names []) U.heap.objs.size X.env:=by rw[<- hY];rfl
 have Ys:Y.s₀=U:=by rw[<- hY];rfl
 have YH:Y.H₀=upd H s.heap.objs.size (.lst []):=by rw[<- hY];rfl
 have Yf:Y.fs=frs X.stack:=by rw[<- hY];rfl
 have b2:Y.ex=fp:=by rw[<- hY];rfl
 have bx:Y.pn=[]:=by rw[<- hY];rfl
 have a6:∀{H':Hp},(∀b∈fp,H' b=none)->∀b∈fp,FJ Y [] H' b:=λ{H'} hn b O=>by
  let#[x1,x2,x3,x4,x5]:=b4 b O;erw[hn b O,?_,?_,.inl (by rw[b2];rwa[O]),?_,λp hp=>?_]
  ·rw[Ye];rwa[GA x1]
  ·rw[Yf];intro z
   rcases GH.mp (I.stkSub b z) with q|q
   ·rwa[x2 q]
   ·rwa[x3 q]
  ·rw[Ye];intro x c e;rwa[x4 x c (f.cl ok e)]
  ·rw[bx] at hp;rwa[absurd hp (by simp)]
 have b8:∀s4:Shared,s4=({ U with heap:=h₁,toks:=s.toks+([]:List (Str×Value)).length }:Shared)->
   codeAny (model X.prog X.w) X.A (.compLoop (.ListComp elt [#[tg,iter,ifs,(0)]] scope pos) 0 (.ref it) (.ref s.heap.objs.size) (compEnvC scope (cn X.env scope.names []) U.heap.objs.size X.env))
    (compPost (model X.prog X.w) X.A E use PQ (.ref s.heap.objs.size) U.heap.objs.size) s4:=by
  rintro s4 rfl;erw[ik (λn s'=>∃i σ' H',Inv Y [] σ' H' s'/\tn i s'.heap/\(∀b∈fp,H' b=none)/\W i n σ' H') ?_ m0
   #[33,(0),bG src σ,_,b1,T.keep 0 _ _ st λb O o e=>hk b o (au b o e),λb O=>by rw[al (b9 b O)];exact(hf b O).1,w0]]
  rintro n s5 ⟨i,σ5,H5,I5,b',b3,w5⟩
  rcases turn i n σ5 H5 w5 with⟨stop,qn⟩|⟨go,Nn,hNn,step⟩
  ·have q:=T.done Y Yp Yw YK Yc i [] s5 σ5 H5 (λ_ _=>False) I5 (a6 b3) b' stop
   rw[YA] at q;erw[thn q λr s6 ⟨hr,I6⟩=>?_]
   subst hr;let#[m6,b5,_]:=id I6.loc;have eL:Y.env.locals=U.heap.objs.size:=by rw[Ye];rfl
   rw[eL] at b5;erw[hfin s.heap.objs.size U.heap.objs.size s6 H5 m6 b5 (I3.fpOk (ge _) (by have z:=I6.free;rw[eL] at z;rwa[z])) (λh' sb=>?_) qn]
   ·have b6:=I6.base;rw[Ys,YH,Yf,b2] at b6;have ne:∀b o,U.heap.get? b=some o->b≠U.heap.objs.size:=λb o e=>GA (GP e)
    have u6:Un (frs X.stack) fp (upd H s.heap.objs.size (.lst [])) H5 U.heap h':=
     #[λb o e n O hx=>(sb.2 b (ne b o e)).trans (b6.keep b o e n O hx),λb o e n O hx=>by
       let#[sl,z]:=b6.slot b o e n O hx;rwa[sl,(sb.2 b (ne b o e)).trans z],b6.free,λb o e hx=>by
       let#[o',z]:=b6.there b o e hx;rwa[o',(sb.2 b (ne b o e)).trans z],b6.tups,b6.frzs,b6.tbls]
    have fL:H5 U.heap.objs.size=none:=by
     have z:=I6.free;rw[eL] at z;rwa[z]
    have b7:HOk X.prog X.w H5 h':=by
     have z:=I6.hok;rw[Yp,Yw] at z;intro b ob e;refine(z b ob e).stay (λc w' hc q=>(sb.2 c ?_).trans q) (λ_ q=>q) λ_ _ q=>q
     rintro rfl
     rcases hc with rfl|hc
     ·rw[fL] at e;cases e
     ·rw[fL] at hc;cases hc
    have c5:s6.os=U.os:=by
     have z:=I6.os;rw[Ys] at z;rwa[z]
    erw[Inv.call' (s':={ s6 with heap:=h' }) I3 c5 u6 b7 I6.bare λb O=>?_]
    let#[f0,f1,f2,f3,f4,f5]:=hf b O;rwa[f3,f1,f4,f5]
  ·have q:=T.item Y Yp Yw YK Yc i [] s5 σ5 H5 (λ_ _=>False) I5 (a6 b3) b' go
   rw[YA] at q;erw[thn q λr s6 ⟨u,hr,h6⟩=>?_]
   subst hr;erw[thn h6 λ_ s7 ⟨x,H7,I7,r7,y7,ad,c1⟩=>?_]
   have be:=I7.pinned (a6 c1) (T.obj _ _ ad);have Z:∀{σ9:St} {H9:Hp} {s9:Shared},Inv Y ([]++jc fp s7.heap) σ9 H9 s9->tn (i+1) s9.heap/\∀b∈fp,H9 b=none:=λ{σ9 H9 s9} I9=>
    #[T.keep _ _ _ ad λb O o e=>(I9.pin (b,o) (KC _ (KC _ (cN O e)))).1,λb O=>by
     let#[o,e,d]:=T.obj _ _ ad b O;exact(I9.pin (b,o) (KC _ (KC _ (cN O e)))).2.1]
   have g1:=hg _ s7 σ5 H7 x u _ be r7 (step x H7 y7);rw[YA,Yx,Yp,Yw,Ye] at g1;erw[thn g1 λ_ s8 ⟨σ8,H8,I8,q8⟩=>?_]
   have g2:=ht _ s8 σ8 H8 _ I8 q8;rw[YA,Yx,Yp,Yw,Ye] at g2;erw[thn g2 λb s9 ⟨H9,I9,q9⟩=>?_]
   cases b with
   |false=>
    simp only[LW,On] at q9 ⊢;let#[m',hm,w9]:=hNn _ _ q9;rwa[73,m',hm,i+1,σ8,H9,I9.unpinned,(Z I9).1,(Z I9).2,w9]
   |true=>
    simp only[Px] at q9 ⊢;have g3:=he _ s9 σ8 H9 _ I9 q9;rw[YA,Yx,Yp,Yw,Ye] at g3;erw[thn g3 λyv c7 ⟨y,ax,bd,c6,ys,c3,hz,c4⟩=>?_]
    let#[m',hm,c9]:=hNn _ _ c4;have g4:=iW (X:=Y) _ c7 σ8 ax (.ref s.heap.objs.size) [y] (.ref s.heap.objs.size) [yv] (λ_ b0=>b0=upd ax s.heap.objs.size (.lst (ys++[y]))) bd rfl (.cons c6 .nil) #[34,_,ys,y,1,1,c3,hz,1]
    rw[YA,Yx,Yp,Yw] at g4;erw[thn g4 λ_ c' ⟨_,b0,a',_,bz⟩=>?_]
    subst bz;rwa[73,m',hm,i+1,σ8,_,a'.unpinned,(Z a').1,(Z a').2,c9]
 have q:=b8 _ rfl;have c0:({ U with heap:=h₁,toks:=s.toks+([]:List (Str×Value)).length }:Shared)={ s with heap:=h₁,toks:=s.toks+([]:List (Str×Value)).length }:=by rw[<- hs3]
 rw[c0] at q;rw[e3] at q;have c8:tn 0 h₁:=T.keep 0 _ _ st λb O o e=>hk b o (au b o e)
 rwa[codeAny_compStart_list q (T.self X.A 0 _ _ _ c8 q)]
theorem bh(hcalm:X.calm=true)(hsc:oF X.env.scope scope=true)(hsrc:iE X.N N src scope=true)(hi:PI X tg iter wi)(hb:∀(s:Shared) (H:Hp) (ex:List Addr),PG (cxC X N scope s H ex) tg g/\PIf (cxC X N scope s H ex) ifs tt/\PE (cxC X N scope s H ex) elt te)(hs:∀x,foldedSetIterable iter X.env x=pure x:=by intro _;rfl):
  PE X (.ListComp elt [#[tg,iter,ifs,(0)]] scope pos) (zR src wi g tt te):=by
 intro pins s σ H Q I h;have f:=mI hsc;rw[eval_ListComp];erw[wpAny_comprehension_free (use:=none) rfl hs (gU (f.cells I.ok)) f.kind f.names (thn (hi pins s σ H _ I h) λv s1 h1=>thn h1 λa6 s2 h2=>?_)]
 let#[it,fp,tn,J,H2,1,U,T,O,Y,q2]:=h2;erw[rc (N:=N) (src:=src) none (EP X pins σ Q) X.xe hcalm f hsrc hb U T O Y q2 ?_];intro acc C s' H' m hn _ Z hq;rwa[m,hn,λh' sb=>#[22,.ref acc,H',Z h' sb,1,hq]]
theorem fF{i:Nat}{py spos:Pos}(hN:X.N.Nodup)(hix:X.N[i]? = some y)(hx:Loc X.env.scope y)(hcalm:X.calm=true)(hsc:oF X.env.scope scope=true)(hsrc:iE X.N N src scope=true)(hi:PI X tg iter wi)(Z:∀(s:Shared) (H:Hp) (ex:List Addr),PG (cxC X N scope s H ex) tg g/\PIf (cxC X N scope s H ex) ifs tt/\PE (cxC X N scope s H ex) elt te)(hs:∀x,foldedSetIterable iter X.env x=pure x:=by intro _;rfl)(hsw:swapsWith (.ListComp elt [#[tg,iter,ifs,(0)]] scope pos) (some (.Name y py)) spos.line X.env=pure true:=by rfl)(hf:X.fn y=true\/X.env.scope.names.lookup y=some .local:=by first|rwa[.inl rfl]|rwa[.inr rfl]|assumption):
  PS X (.Assign [.Name y py] (.ListComp elt [#[tg,iter,ifs,(0)]] scope pos) spos) (Da (zR src wi g tt te) (bV i)):=by
 intro pins s σ H D I h;have f:=mI hsc;rw[exec_Assign_Name_used _ _ _ _ hsw];erw[c_ (wpAny_standAt (c_ ?_))];show wpAny _ X.A (do let _ <- comprehension (.ListComp elt [#[tg,iter,ifs,(0)]] scope pos) scope X.env _ (newList []) false (eval iter X.env) (some (assign (.Name y py) X.env))) _ _ s
 erw[c_ (LF (wpAny_comprehension_free (use:=some (assign (.Name y py) X.env)) (Q:=λ_ s'=>SP X pins D .next s') rfl hs (gU (f.cells I.ok)) f.kind f.names
  (thn (hi pins s σ H _ I h) λv s1 h1=>thn h1 λa8 s2 h2=>?_)) (λ_ s' hq=>i_ (i_ hq)) λ_ _ e=>e)]
 let#[it,fp,tn,J,H2,1,I2,T,a7,f2,q2]:=h2;erw[rc (N:=N) (src:=src) (some (assign (.Name y py) X.env)) (λ_ s'=>SP X pins D .next s') X.xe hcalm f hsrc Z I2 T a7 f2 (Q:=λx H1=>bV i x σ H1 D.nx) q2 ?_]
 intro acc C s' H' m hn O hI hq;let#[c0,c1,c2,c3,c4,c5]:=O;have I':Inv X pins σ H' s':=hI s'.heap (Heap.SameBut.refl ..);show wpAny _ X.A (assign (.Name y py) X.env (.ref acc)) _ _ _;erw[wpAny_assign_Name (oa (v:=.ref acc) I' hN hix hx rfl (λs2 J2 ⟨a,sb,Y⟩=>?_) hf)]
 have U:C≠a:=by
  rcases Y with rfl|Y
  ·rwa[c1]
  ·rwa[λz=>c4 y a Y z.symm]
 erw[m,hn.sameBut sb U,λh' a6=>?_]
 rwa[21,_,H',J2.turned (t':=s2.toks) (λb o Z e=>(a6.2 b Z).trans e) c0 c1 c3 c4 c5,hq]
end
def SqI(t:Bool)(h:Heap)(it l:Addr)(i:Nat):Prop:=if t=true then h.IsTupleIter it l i else h.IsListIter it l i
def SqO(t:Bool)(h:Heap)(l:Addr)(xs:Array Value):Prop:=if t=true then h.IsTuple l xs else h.IsList l xs
def SqV(t:Bool)(K:Frag)(H:Hp)(a:Addr)(xs:List V):Prop:=if t=true then SqT K H a xs else SqL K H a xs
theorem SqI.at{t:Bool}{i:Nat}(x:SqI t h it l i)(k:∀o,h.get? it=some o->h'.get? it=some o):SqI t h' it l i:=by
 cases t
 ·rwa[Heap.IsListIter.at x k]
 ·let#[o,O,r]:=(show h.IsTupleIter it l i from x)
  exact(show h'.IsTupleIter it l i from#[o,k o O,r])
theorem SqI.obj{t:Bool}{i:Nat}(x:SqI t h it l i):∃o,h.get? it=some o/\∀v,o.data≠.cell v:=by
 cases t
 ·let#[o,O,_,d]:=(show h.IsListIter it l i from x)
  rwa[o,O,λv z=>by rw[d] at z;cases z]
 ·let#[o,O,_,d]:=(show h.IsTupleIter it l i from x)
  rwa[o,O,λv z=>by rw[d] at z;cases z]
theorem SqO.at{t:Bool}{xs:Array Value}(x:SqO t h l xs)(k:∀o,h.get? l=some o->h'.get? l=some o):SqO t h' l xs:=by
 cases t
 ·let#[o,O,r]:=(show h.IsList l xs from x)
  exact(show h'.IsList l xs from#[o,k o O,r])
 ·let#[o,O,r]:=(show h.IsTuple l xs from x)
  exact(show h'.IsTuple l xs from#[o,k o O,r])
theorem SqO.obj{t:Bool}{xs:Array Value}(x:SqO t h l xs):∃o,h.get? l=some o:=by
 cases t
 ·let#[o,O,r]:=(show h.IsList l xs from x)
  rwa[o,O]
 ·let#[o,O,r]:=(show h.IsTuple l xs from x)
  rwa[o,O]
theorem Inv.seqV{t:Bool}(I:Inv X pins σ H s)(h:SqV t X.K H a xs):∃its:List Value,Fw xs its/\SqO t s.heap a its.toArray/\xs.length<=sizeLine:=by
 cases t
 ·let#[its,r,p,z]:=I.list (show SqL X.K H a xs from h)
  rwa[its,r,p.isList,z]
 ·let#[its,r,p,z]:=I.tuple (show SqT X.K H a xs from h)
  rwa[its,r,p,z]
theorem Inv.seqV_inj{t:Bool}{ys:List V}(I:Inv X pins σ H s)(h:SqV t X.K H a xs)(h':SqV t X.K H a ys):xs=ys:=by
 cases t
 ·rwa[I.list_inj h h']
 ·rwa[I.tuple_inj h h']
section
theorem iC{i:Nat}{x:Value}(hit:s.heap.IsTupleIter it l i)(hl:s.heap.IsTuple l items)(hx:items[i]? = some x)(hQ:∀h',h'.IsTupleIter it l (i+1)->Heap.SameBut it s.heap h'->Q x { s with heap:=h' }):
  wpAny (model prog w) A (Builtin.SmallTypes.nextOf (.ref it)) Q E s:=by
 let#[o,O,Z,hd]:=id hit;let#[ol,Y,_,nl,U]:=hl;unfold Builtin.SmallTypes.nextOf;erw[c_ (Mb (name:=Str.ofString "__next__") hit.typeIs NQ
  (Lh NQ hit.typeIs F.entry_tuple_iterator_next ?_ (F.args_tuple_iterator_next_1 _)))]
 show wpAny _ _ (field (.ref it) 0 >>= _) _ _ s;erw[c_ (Mh O hd (x:=.ref l) rfl ?_)];show wpAny _ _ (if (Value.ref l==Value.none)=true then _ else _) _ _ s
 rw[t_ (show ¬((Value.ref l==Value.none)=true) from GT)]
 show wpAny _ _ (field (.ref it) 1 >>= _) _ _ s;erw[c_ (Mh O hd (x:=.int i 0) rfl ?_)];show wpAny _ _ (seqItems? (.ref l) >>= _) _ _ s;erw[c_ (Mi Y U ?_)];simp only[Lq,hx];erw[c_ (NR O hd (by simp) (i_ #[x,1,i_ (hQ _ ?_ (Mx ..))]))]
 rwa[_,get?_update_self _ O (Obj.isFreed_of_fields (OI hd _)),(Obj.cls_mapFields ..).trans Z,by
  rw[OI hd];simp[rawInt]]
theorem i5{i:Nat}(hh:A.handled=none)(hit:s.heap.IsTupleIter it l i)(hl:s.heap.IsTuple l items)(hx:items[i]? = none)(hE:∀h' e,Heap.ExtBut it s.heap h'->(∃o,h'.get? e=some o/\o.cls=.type "StopIteration")->E (.ref e) { s with heap:=h' }):
  wpAny (model prog w) A (Builtin.SmallTypes.nextOf (.ref it)) Q E s:=by
 let#[o,U,Z,hd]:=id hit;let#[ol,Y,_,nl,O]:=hl;unfold Builtin.SmallTypes.nextOf;erw[c_ (Mb (name:=Str.ofString "__next__") hit.typeIs NQ
  (Lh NQ hit.typeIs F.entry_tuple_iterator_next ?_ (F.args_tuple_iterator_next_1 _)))]
 show wpAny _ _ (field (.ref it) 0 >>= _) _ _ s;erw[c_ (Mh U hd (x:=.ref l) rfl ?_)];show wpAny _ _ (if (Value.ref l==Value.none)=true then _ else _) _ _ s
 rw[t_ (show ¬((Value.ref l==Value.none)=true) from GT)]
 show wpAny _ _ (field (.ref it) 1 >>= _) _ _ s;erw[c_ (Mh U hd (x:=.int i 0) rfl ?_)];show wpAny _ _ (seqItems? (.ref l) >>= _) _ _ s;erw[c_ (Mi Y O ?_)];simp only[Lq,hx];erw[c_ (PF (c_ (NR U hd (by simp) ?_)))]
 show wpAny _ _ (newExc (.type "StopIteration") [] >>= _) _ _ _;erw[c_ ?_];simp only[newExc,newTuple];erw[c_ (KS ?_ (by size_fits))]
 erw[c_ (m:=firstArgMember _ _) (N_ (a:=Value.none) (by first|rfl|(simp only[firstArgMember];rfl)) ?_)]
 erw[KS ?_ (by size_fits)]
 simp only[raiseNew];erw[c_ (wpAny_handled ?_)]
 first|rw[show A.in1.handled=none from hh]|rw[hh]
 erw[c_ (i_ (wpAny_throw ?_))];rwa[hE _ _ (((Mx ..).extBut.push _).push _) #[_,z_ _ rfl,1]]
theorem gj{t:Bool}{i:Nat}{x:Value}(hit:SqI t s.heap it l i)(hl:SqO t s.heap l items)(hx:items[i]? = some x)(hQ:∀h',SqI t h' it l (i+1)->Heap.SameBut it s.heap h'->Q x { s with heap:=h' }):
  wpAny (model prog w) A (Builtin.SmallTypes.nextOf (.ref it)) Q E s:=by
 cases t
 ·rwa[wpAny_nextOf_list_item hit hl hx hQ]
 ·rwa[iC hit hl hx hQ]
theorem lj{t:Bool}{i:Nat}(hh:A.handled=none)(hit:SqI t s.heap it l i)(hl:SqO t s.heap l items)(hx:items[i]? = none)(hE:∀h' e,Heap.ExtBut it s.heap h'->(∃o,h'.get? e=some o/\o.cls=.type "StopIteration")->E (.ref e) { s with heap:=h' }):
  wpAny (model prog w) A (Builtin.SmallTypes.nextOf (.ref it)) Q E s:=by
 cases t
 ·rwa[wpAny_nextOf_list_end hh hit hl hx hE]
 ·rwa[i5 hh hit hl hx hE]
theorem gz{t:Bool}(hl:SqO t s.heap l items)(hQ:∀o,SqI t (s.heap.push o) s.heap.objs.size l 0->Q (.ref s.heap.objs.size) { s with heap:=s.heap.push o }):wpAny (model prog w) A (pyIter (.ref l)) Q E s:=by
 cases t
 ·rwa[MW hl (hQ _ (show Heap.IsListIter _ _ _ _ from#[_,z_ _ rfl,1,1]))]
 ·rwa[NN hl (hQ _ (show Heap.IsTupleIter _ _ _ _ from#[_,z_ _ rfl,1,1]))]
theorem wb{TI:Addr}{xs:Array Value}{x y a b:Value}(D:ZipApart z TI TO i1 i2 l1 l2)(hz:IsZip s.heap z TI TO .none)(hTI:IsPair s.heap TI (.ref i1) (.ref i2))(hTO:IsPair s.heap TO a b)(h1:SqI t1 s.heap i1 l1 k1)(h2:SqI t2 s.heap i2 l2 k2)(hl1:SqO t1 s.heap l1 xs)(hl2:SqO t2 s.heap l2 ys)(hx:xs[k1]? = some x)(hy:ys[k2]? = some y)(hQ:∀h',IsZip h' z TI TO (rawInt s.heap.objs.size)->IsPair h' TO x y->SqI t1 h' i1 l1 (k1+1)->SqI t2 h' i2 l2 (k2+1)->IsPair h' s.heap.objs.size x y->h'.objs.size=s.heap.objs.size+1->
   (∀c o,c≠z->c≠TO->c≠i1->c≠i2->s.heap.get? c=some o->h'.get? c=some o)->Q (.ref s.heap.objs.size) { s with heap:=h' }):
  wpAny (model prog w) A (Builtin.«zip.__next__» #[[.ref z],[]]) (λfin s'=>∃v,fin=.done (.ret v)/\Q v s') E s:=by
 show wpAny _ _ (field (.ref z) 2 >>= _) _ _ _;erw[c_ (Mh hz rfl (x:=.bool false) rfl ?_)];show wpAny _ _ (field (.ref z) 3 >>= _) _ _ _;erw[c_ (Mh hz rfl (x:=.ref TI) rfl ?_)];erw[c_ (Mi hTI rfl ?_)];show wpAny _ _ (Builtin.SmallTypes.ownedTupleIsFree (.ref z) >>= _) _ _ _;erw[c_ ?_];unfold Builtin.SmallTypes.ownedTupleIsFree;erw[c_ (Mh hz rfl (x:=.none) rfl (i_ ?_))];simp only[Px];erw[c_ (PF ?_)];erw[c_ (Mh hz rfl (x:=.ref TO) rfl ?_)];erw[c_ (LG hz (by simp) λh₁ b1 Y=>?_)]
 replace b1:IsZip h₁ z TI TO .ellipsis:=b1
 erw[c_ ?_];simp only[List.zipIdx_cons,List.zipIdx_nil,forIn_cons,forIn_nil];erw[c_ (c_ (wpAny_onRaise ?_))];show wpAny _ _ (Builtin.SmallTypes.nextOf (.ref i1) >>= _) _ _ _;erw[c_ (gj (h1.at λo e=>Y.extBut _ _ D.i1z e) (hl1.at λo e=>Y.extBut _ _ D.l1z e) hx λh₂ b6 Z=>i_ ?_)]
 have ac:IsPair h₂ TO a b:=Z.extBut _ _ D.TOi1 (Y.extBut _ _ D.TOz hTO);erw[c_ (Mi ac rfl ?_)];erw[c_ (wpAny_updateSeq_pair ac λh₃ a7 a6=>?_)]
 replace a7:IsPair h₃ TO x b:=a7
 erw[c_ (Oz (i_ ?_))];erw[c_ (c_ (wpAny_onRaise ?_))];show wpAny _ _ (Builtin.SmallTypes.nextOf (.ref i2) >>= _) _ _ _;erw[c_ (gj (h2.at λo e=>a6.extBut _ _ D.TOi2.symm (Z.extBut _ _ D.i12.symm (Y.extBut _ _ D.i2z e)))
  (hl2.at λo e=>a6.extBut _ _ D.l2TO (Z.extBut _ _ D.l2i1 (Y.extBut _ _ D.l2z e))) hy λh₄ b8 a8=>i_ ?_)]
 have ad:IsPair h₄ TO x b:=a8.extBut _ _ D.TOi2 a7;erw[c_ (Mi ad rfl ?_)];erw[c_ (wpAny_updateSeq_pair ad λU O a9=>?_)]
 replace O:IsPair U TO x y:=O
 erw[c_ (Oz (i_ (i_ ?_)))];erw[c_ (Mi O rfl ?_)];erw[c_ (wpAny_newTuple ?_)];have hsz:U.objs.size=s.heap.objs.size:=by rw[a9.1,a8.1,a6.1,Z.1,Y.1]
 have b5:IsZip U z TI TO .ellipsis:=a9.extBut _ _ D.TOz.symm (a8.extBut _ _ D.i2z.symm (a6.extBut _ _ D.TOz.symm (Z.extBut _ _ D.i1z.symm b1)));have bd:∀c o,c≠z->c≠TO->c≠i1->c≠i2->s.heap.get? c=some o->U.get? c=some o:=λc o c1 c2 c3 c4 e=>
  a9.extBut _ _ c2 (a8.extBut _ _ c4 (a6.extBut _ _ c2 (Z.extBut _ _ c3 (Y.extBut _ _ c1 e))))
 have b7:SqI t1 U i1 l1 (k1+1):=b6.at λo e=>a9.extBut _ _ D.TOi1.symm (a8.extBut _ _ D.i12 (a6.extBut _ _ D.TOi1.symm e))
 have b9:SqI t2 U i2 l2 (k2+1):=b8.at λo e=>a9.extBut _ _ D.TOi2.symm e
 have au:z<U.objs.size:=GP b5;have b':TO<U.objs.size:=GP O;show wpAny _ _ (Builtin.SmallTypes.ownedTupleHandOut (.ref z) (.ref U.objs.size) >>= _) _ _ _;erw[c_ ?_];unfold Builtin.SmallTypes.ownedTupleHandOut;have be:IsZip (U.push { cls:=.type "tuple",data:=.seq (List.toArray [x,y]) }) z TI TO .ellipsis:=h_ _ b5;erw[c_ (LG be (by simp) λh₇ b2 ax=>?_)]
 replace b2:IsZip h₇ z TI TO (rawInt U.objs.size):=b2
 erw[LG b2 (by simp) λh₈ a' b0=>?_]
 replace a':IsZip h₈ z TI TO (rawInt U.objs.size):=a'
 have up:∀c o,c≠z->U.get? c=some o->h₈.get? c=some o:=λc o c1 e=>b0.extBut _ _ c1 (ax.extBut _ _ c1 (h_ _ e))
 have b3:IsPair h₈ U.objs.size x y:=b0.extBut _ _ (OC au) (ax.extBut _ _ (OC au) (z_ _ rfl));have b4:h₈.objs.size=U.objs.size+1:=by rw[b0.1,ax.1,MQ]
 rw[hsz] at a' b3 b4;erw[i_ #[0,?_]];show Q (.ref U.objs.size) _;rw[hsz];rwa[hQ h₈ a' (up _ _ D.TOz O) (b7.at λo e=>up _ o D.i1z e) (b9.at λo e=>up _ o D.i2z e) b3 b4 λc o c1 c2 c3 c4 e=>up c o c1 (bd c o c1 c2 c3 c4 e)]
theorem An{TI:Addr}{xs:Array Value}{a b:Value}{Q:PySem.Fin->Shared->Prop}(hh:A.handled=none)(D:ZipApart z TI TO i1 i2 l1 l2)(hz:IsZip s.heap z TI TO .none)(hTI:IsPair s.heap TI (.ref i1) (.ref i2))(hTO:IsPair s.heap TO a b)(h1:SqI t1 s.heap i1 l1 k1)(h2:SqI t2 s.heap i2 l2 k2)(hl1:SqO t1 s.heap l1 xs)(hl2:SqO t2 s.heap l2 ys)(hend:xs[k1]? = none\/ys[k2]? = none)(hE:∀h' e,(∀c o,c≠z->c≠TO->c≠i1->c≠i2->s.heap.get? c=some o->h'.get? c=some o)->(∃o,h'.get? e=some o/\o.cls=.type "StopIteration")->E (.ref e) { s with heap:=h' }):
  wpAny (model prog w) A (Builtin.«zip.__next__» #[[.ref z],[]]) Q E s:=by
 show wpAny _ _ (field (.ref z) 2 >>= _) _ _ _;erw[c_ (Mh hz rfl (x:=.bool false) rfl ?_)];show wpAny _ _ (field (.ref z) 3 >>= _) _ _ _;erw[c_ (Mh hz rfl (x:=.ref TI) rfl ?_)];erw[c_ (Mi hTI rfl ?_)];show wpAny _ _ (Builtin.SmallTypes.ownedTupleIsFree (.ref z) >>= _) _ _ _;erw[c_ ?_];unfold Builtin.SmallTypes.ownedTupleIsFree;erw[c_ (Mh hz rfl (x:=.none) rfl (i_ ?_))];simp only[Px];erw[c_ (PF ?_)];erw[c_ (Mh hz rfl (x:=.ref TO) rfl ?_)];erw[c_ (LG hz (by simp) λh₁ a7 O=>?_)]
 replace a7:IsZip h₁ z TI TO .ellipsis:=a7
 erw[c_ ?_];simp only[List.zipIdx_cons,List.zipIdx_nil,forIn_cons,forIn_nil];erw[c_ (c_ (wpAny_onRaise ?_))];show wpAny _ _ (Builtin.SmallTypes.nextOf (.ref i1) >>= _) _ _ _;cases hx:xs[k1]? with
 |none=>
  erw[c_ (lj hh (h1.at λo e=>O.extBut _ _ D.i1z e) (hl1.at λo e=>O.extBut _ _ D.l1z e) hx λh₂ e U he=>?_)]
  let#[oe,Y,a6]:=he;have ad:IsZip h₂ z TI TO .ellipsis:=U _ _ D.i1z.symm a7;have a9:e≠z:=λx=>by subst x;rw[ad] at Y;cases Y;simp at a6
  erw[LG ad (by simp) λh₃ _ Z=>hE h₃ e (λc o c1 _ c3 _ x=>Z.extBut _ _ c1 (U _ _ c3 (O.extBut _ _ c1 x))) #[oe,Z.extBut _ _ a9 Y,a6]]
 |some x=>
  have hy:ys[k2]? = none:=by rcases hend with h|h;rw[hx] at h;cases h;rwa[h]
  erw[c_ (gj (h1.at λo e=>O.extBut _ _ D.i1z e) (hl1.at λo e=>O.extBut _ _ D.l1z e) hx λh₂ b0 U=>i_ ?_)]
  have a8:IsPair h₂ TO a b:=U.extBut _ _ D.TOi1 (O.extBut _ _ D.TOz hTO);erw[c_ (Mi a8 rfl ?_)];erw[c_ (wpAny_updateSeq_pair a8 λh₃ ax Z=>?_)]
  erw[c_ (Oz (i_ ?_))];erw[c_ (c_ (wpAny_onRaise ?_))];show wpAny _ _ (Builtin.SmallTypes.nextOf (.ref i2) >>= _) _ _ _;erw[c_ (lj hh (h2.at λo e=>Z.extBut _ _ D.TOi2.symm (U.extBut _ _ D.i12.symm (O.extBut _ _ D.i2z e)))
   (hl2.at λo e=>Z.extBut _ _ D.l2TO (U.extBut _ _ D.l2i1 (O.extBut _ _ D.l2z e))) hy λh₄ e a' he=>?_)]
  let#[oe,Y,a6]:=he;have au:IsZip h₄ z TI TO .ellipsis:=a' _ _ D.i2z.symm (Z.extBut _ _ D.TOz.symm (U.extBut _ _ D.i1z.symm a7));have a9:e≠z:=λx=>by subst x;rw[au] at Y;cases Y;simp at a6
  erw[LG au (by simp) λh₅ _ ac=>hE h₅ e (λc o c1 c2 c3 c4 x=>ac.extBut _ _ c1 (a' _ _ c4 (Z.extBut _ _ c2 (U.extBut _ _ c3 (O.extBut _ _ c1 x))))) #[oe,ac.extBut _ _ a9 Y,a6]]
theorem jm{TI:Addr}{xs:Array Value}{x y a b:Value}{Q:Option Value->Shared->Prop}(D:ZipApart z TI TO i1 i2 l1 l2)(hz:IsZip s.heap z TI TO .none)(hTI:IsPair s.heap TI (.ref i1) (.ref i2))(hTO:IsPair s.heap TO a b)(h1:SqI t1 s.heap i1 l1 k1)(h2:SqI t2 s.heap i2 l2 k2)(hl1:SqO t1 s.heap l1 xs)(hl2:SqO t2 s.heap l2 ys)(hx:xs[k1]? = some x)(hy:ys[k2]? = some y)(hQ:∀h',IsZip h' z TI TO (rawInt s.heap.objs.size)->IsPair h' TO x y->SqI t1 h' i1 l1 (k1+1)->SqI t2 h' i2 l2 (k2+1)->IsPair h' s.heap.objs.size x y->h'.objs.size=s.heap.objs.size+1->
   (∀c o,c≠z->c≠TO->c≠i1->c≠i2->s.heap.get? c=some o->h'.get? c=some o)->Q (some (.ref s.heap.objs.size)) { s with heap:=h' }):
  wpAny (model prog w) A (pyNext (.ref z)) Q E s:=by
 have O:s.TypeIs (.ref z) "zip":=#[_,hz,1];unfold pyNext;rwa[c_ (wpAny_attempt (Mb (name:=Str.ofString "__next__") O F.slot_zip_next
  (Lh F.slot_zip_next O F.entry_zip_next
   (wb D hz hTI hTO h1 h2 hl1 hl2 hx hy λh' a1 a2 a3 a4 a5 U Y=>i_ (hQ h' a1 a2 a3 a4 a5 U Y)) (F.args_zip_next_1 _))))]
theorem jR{TI:Addr}{xs:Array Value}{a b:Value}{Q:Option Value->Shared->Prop}(hh:A.handled=none)(D:ZipApart z TI TO i1 i2 l1 l2)(hz:IsZip s.heap z TI TO .none)(hTI:IsPair s.heap TI (.ref i1) (.ref i2))(hTO:IsPair s.heap TO a b)(h1:SqI t1 s.heap i1 l1 k1)(h2:SqI t2 s.heap i2 l2 k2)(hl1:SqO t1 s.heap l1 xs)(hl2:SqO t2 s.heap l2 ys)(hend:xs[k1]? = none\/ys[k2]? = none)(hQ:∀h',(∀c o,c≠z->c≠TO->c≠i1->c≠i2->s.heap.get? c=some o->h'.get? c=some o)->Q none { s with heap:=h' }):wpAny (model prog w) A (pyNext (.ref z)) Q E s:=by
 have O:s.TypeIs (.ref z) "zip":=#[_,hz,1];unfold pyNext;erw[c_ (wpAny_attempt (Mb (name:=Str.ofString "__next__") O F.slot_zip_next
  (Lh F.slot_zip_next O F.entry_zip_next (An hh D hz hTI hTO h1 h2 hl1 hl2 hend λh' e hk Y=>?_) (F.args_zip_next_1 _))))]
 let#[o,Z,U]:=Y;erw[c_ (Oo (T := "StopIteration") (b:=true) #[o,Z,U] isSubtype_stop ?_)];rwa[i_ (hQ _ hk)]
end
def ud(t:Bool)(l:Addr):Obj:=if t=true then { cls:=.type "tuple_iterator",data:=.fields (List.toArray [.ref l,.int 0 0]) } else { cls:=.type "list_iterator",data:=.fields (List.toArray [.ref l,.int 0 0]) }
theorem qT{t:Bool}(e:h.get? it=some (ud t l)):SqI t h it l 0:=by
 cases t
 ·exact(show h.IsListIter it l 0 from#[_,e,1,1])
 ·exact(show h.IsTupleIter it l 0 from#[_,e,1,1])
abbrev BM(t1:Bool)(h:Heap)(l1:Addr):Heap:=h.push (ud t1 l1)
abbrev AF(t1 t2:Bool)(h:Heap)(l1 l2:Addr):Heap:=(BM t1 h l1).push (ud t2 l2)
abbrev AD(t1 t2:Bool)(h:Heap)(l1 l2:Addr):Heap:=(AF t1 t2 h l1 l2).push { cls:=.type "tuple",data:=.seq (List.toArray [.ref h.objs.size,.ref (BM t1 h l1).objs.size]) }
abbrev Av(t1 t2:Bool)(h:Heap)(l1 l2:Addr):Heap:=(AD t1 t2 h l1 l2).push { cls:=.type "tuple",data:=.seq (List.toArray [.none,.none]) }
abbrev tF(t1 t2:Bool)(h:Heap)(l1 l2:Addr):Heap:=(Av t1 t2 h l1 l2).push { cls:=.type "zip",data:=.fields (List.toArray [.none,.bool false,.bool false,.ref (AF t1 t2 h l1 l2).objs.size,.ref (AD t1 t2 h l1 l2).objs.size]) }
set_option maxHeartbeats 8000000 in
theorem se(t1 t2:Bool)(l1 l2:Addr)(xs ys:Array Value):
  Meets (Builtin.«zip.__new__» #[[.type "zip",.ref l1,.ref l2],[]]) (λ_ R s=>SqO t1 s.heap l1 xs/\SqO t2 s.heap l2 ys/\
   R (.ok (.ret (.ref (Av t1 t2 s.heap l1 l2).objs.size))) { s with heap:=tF t1 t2 s.heap l1 l2 }):=
 .of_wp λprog w A R s h=>by
  let#[hp,g,d,tk,os]:=s;let#[Y,Z,h]:=h;have a6:=sub_zip;cases t1<;>cases t2
  ·have O:Heap.IsList (Shared.heap #[hp,g,d,tk,os]) l1 xs:=Y;have U:Heap.IsList (Shared.heap #[hp.push { cls:=.type "list_iterator",data:=.fields (List.toArray [.ref l1,.int 0 0]) },g,d,tk,os]) l2 ys:=Heap.IsList.push Z _
   wp_walk using MW O,MW U
   rwa[0,h]
  ·have O:Heap.IsList (Shared.heap #[hp,g,d,tk,os]) l1 xs:=Y;have U:Heap.IsTuple (Shared.heap #[hp.push { cls:=.type "list_iterator",data:=.fields (List.toArray [.ref l1,.int 0 0]) },g,d,tk,os]) l2 ys:=Heap.IsTuple.push Z _
   wp_walk using MW O,NN U
   rwa[0,h]
  ·have O:Heap.IsTuple (Shared.heap #[hp,g,d,tk,os]) l1 xs:=Y;have U:Heap.IsList (Shared.heap #[hp.push { cls:=.type "tuple_iterator",data:=.fields (List.toArray [.ref l1,.int 0 0]) },g,d,tk,os]) l2 ys:=Heap.IsList.push Z _
   wp_walk using NN O,MW U
   rwa[0,h]
  ·have O:Heap.IsTuple (Shared.heap #[hp,g,d,tk,os]) l1 xs:=Y;have U:Heap.IsTuple (Shared.heap #[hp.push { cls:=.type "tuple_iterator",data:=.fields (List.toArray [.ref l1,.int 0 0]) },g,d,tk,os]) l2 ys:=Heap.IsTuple.push Z _
   wp_walk using NN O,NN U
   rwa[0,h]
section
theorem vq{xs:Array Value}(hl1:SqO t1 s.heap l1 xs)(hl2:SqO t2 s.heap l2 ys)(h:∀h',IsZip h' (s.heap.objs.size+4) (s.heap.objs.size+2) (s.heap.objs.size+3) .none->IsPair h' (s.heap.objs.size+2) (.ref s.heap.objs.size) (.ref (s.heap.objs.size+1))->
   IsPair h' (s.heap.objs.size+3) .none .none->SqI t1 h' s.heap.objs.size l1 0->SqI t2 h' (s.heap.objs.size+1) l2 0->h'.objs.size=s.heap.objs.size+5->
   (∀c o,s.heap.get? c=some o->h'.get? c=some o)->Q (.ref (s.heap.objs.size+4)) { s with heap:=h' }):
  wpAny (model prog w) A (call (.type "zip") [.ref l1,.ref l2]) Q E s:=by
 erw[callType_new F.called_zip #[] (F.typeCall_zip_2 _ _) (F.newCall_zip_2 _ _) (λobj=>F.args_object_init_3 obj _ _) F.entry_zip_new
  (se t1 t2 l1 l2 xs ys) #[hl1,hl2,?_]]
 have fr:∀t l,(ud t l).isFreed=false:=λt l=>by cases t<;>rfl
 have z1:(BM t1 s.heap l1).objs.size=s.heap.objs.size+1:=MQ ..;have z2:(AF t1 t2 s.heap l1 l2).objs.size=s.heap.objs.size+2:=by rw[MQ,z1]
 have z3:(AD t1 t2 s.heap l1 l2).objs.size=s.heap.objs.size+3:=by rw[MQ,z2]
 have z4:(Av t1 t2 s.heap l1 l2).objs.size=s.heap.objs.size+4:=by rw[MQ,z3]
 have z5:(tF t1 t2 s.heap l1 l2).objs.size=s.heap.objs.size+5:=by rw[MQ,z4]
 have O:(tF t1 t2 s.heap l1 l2).get? (Av t1 t2 s.heap l1 l2).objs.size=some _:=z_ _ rfl;have Z:(tF t1 t2 s.heap l1 l2).get? (AD t1 t2 s.heap l1 l2).objs.size=some _:=h_ _ (z_ _ rfl);have Y:(tF t1 t2 s.heap l1 l2).get? (AF t1 t2 s.heap l1 l2).objs.size=some _:=h_ _ (h_ _ (z_ _ rfl));have U:(tF t1 t2 s.heap l1 l2).get? (BM t1 s.heap l1).objs.size=some _:=h_ _ (h_ _ (h_ _ (z_ _ (fr t2 l2))));have g1:(tF t1 t2 s.heap l1 l2).get? s.heap.objs.size=some _:=h_ _ (h_ _ (h_ _ (h_ _ (z_ _ (fr t1 l1)))));show _/\_;rw[z2,z3,z4] at O;rw[z1,z2] at Y;rw[z3] at Z;rw[z1] at U;rw[z4];rwa[#[_,O,1],h _ O Y Z (qT g1) (qT U) z5 λc o x=>
  h_ _ (h_ _ (h_ _ (h_ _ (h_ _ x))))]
end
def Itz(t1 t2:Bool)(K:Frag)(a b:Addr):It:=
 #[λi H=>∃xs ys x y,SqV t1 K H a xs/\SqV t2 K H b ys/\xs[i]? = some x/\ys[i]? = some y,
  λi H v H'=>∃p x y,v=.ref p/\H p=none/\H'=upd H p (.tup [x,y])/\(∀xs,SqV t1 K H a xs->xs[i]? = some x)/\∀ys,SqV t2 K H b ys->ys[i]? = some y,
  λi H=>∃xs ys,SqV t1 K H a xs/\SqV t2 K H b ys/\(xs.length<=i\/ys.length<=i)]
def Zst(t1 t2:Bool)(z TI TO i1 i2 a b:Addr)(i:Nat)(h:Heap):Prop:=
 IsZip h z TI TO .none/\IsPair h TI (.ref i1) (.ref i2)/\(∃x y,IsPair h TO x y)/\SqI t1 h i1 a i/\SqI t2 h i2 b i
structure Cm (z TI TO i1 i2:Addr):Prop where
 TIz:TI≠z
 TOz:TO≠z
 i1z:i1≠z
 i2z:i2≠z
 TITO:TI≠TO
 TIi1:TI≠i1
 TIi2:TI≠i2
 TOi1:TO≠i1
 TOi2:TO≠i2
 i12:i1≠i2
theorem Inv.turnedN{t':Nat}(I:Inv X pins σ H s)(k:∀b o,b∉fp->s.heap.get? b=some o->h'.get? b=some o)(hf:∀b∈fp,FJ X pins H b):Inv X pins σ H { s with heap:=h',toks:=t' }:=by
 have U:∀b u,H b=some u->b∉fp:=λb u e z=>by rw[(hf b z).1] at e;cases e
 erw[I.step (g':=s.gens) (d':=s.drawn) (ch:=fp) (λb hb=>?_) (λb o _ _ O e _=>k b o O e) (λb o _ _ O e _=>#[o.slots,k b o O e]) (λ_ _ _ _ n=>n)
  (λb o O e=>#[o,k b o O e]) (λ_ _ e=>e) (λ_ _ _ e=>e) (λb ps e=>#[(List.toArray []),by rw[e];simp]) (λm hm=>?_) (λb u e=>?_) I.bare]
 ·let#[f0,Y,f2,Z,f4,f5]:=hf b hb;rwa[Z,Y,f4,f5]
 ·let#[o,es,ep,ho,r]:=hm;rwa[31,o,es,ep,k _ o (λz=>(hf _ z).2.1 rfl) ho,r]
 ·refine(I.hok b u e).stay (λc v O q=>k c v ?_ q) (λ_ q=>q) λ_ _ q=>q
  rcases O with z|z
  ·rw[z];rwa[U b u e]
  ·rwa[U c _ z]
theorem EK(n:Nat):Cm (n+4) (n+2) (n+3) n (n+1):=by
 constructor<;>(intro h;have h':(_:Nat)=_:=h;lia)
theorem gb{t:Bool}{vs:List V}(I:Inv X pins σ H s)(hf:∀b∈fp,FJ X pins H b)(q:SqV t X.K H l vs):l∉fp:=λZ=>by
 have O:=hf l Z;have U:∀o,X.K.lookup l=some o->False:=λo hk=>by
  rcases O.2.2.2.1 with Y|Y
  ·rwa[I.ok.noex l o (I.ok.mod.kin l o hk) Y]
  ·rwa[absurd (GS (GP (I.ok.bs l o (I.ok.mod.kin l o hk)).1) Y) (Lk _)]
 cases t
 ·rcases(show SqL X.K H l vs from q) with(q|⟨o,q⟩)|⟨o,_,_,hk,_⟩
  ·rw[O.1] at q;cases q
  ·rw[O.1] at q;cases q
  ·rwa[U o hk]
 ·rcases(show SqT X.K H l vs from q) with(q|⟨o,q⟩)|⟨o,_,_,hk,_⟩
  ·rw[O.1] at q;cases q
  ·rw[O.1] at q;cases q
  ·rwa[U o hk]
theorem xZ(a b z TI TO i1 i2:Addr)(D:Cm z TI TO i1 i2):
  kh P w K (.Tuple es ek ep) (Itz t1 t2 K a b) [z,TI,TO,i1,i2] z (Zst t1 t2 z TI TO i1 i2 a b) where
 mem:=by simp
 obj:=λi h ⟨hz,U,⟨x,y,Y⟩,h1,h2⟩ c O=>by
  simp only[Mv,Lm,MG] at O
  rcases O with rfl|rfl|rfl|rfl|rfl
  ·rwa[_,hz,λv z=>by cases z]
  ·rwa[_,U,λv z=>by cases z]
  ·rwa[_,Y,λv z=>by cases z]
  ·rwa[h1.obj]
  ·rwa[h2.obj]
 keep:=λi h h' ⟨hz,U,⟨x,y,Y⟩,h1,h2⟩ k=>
  #[k z (by simp) _ hz,k TI (by simp) _ U,#[20,x,y,k TO (by simp) _ Y],h1.at λo e=>k i1 (by simp) o e,h2.at λo e=>k i2 (by simp) o e]
 item:=by
  intro X hP hw hK O i pins s σ H E I hf st hg;subst hP hw hK;let#[xs,ys,x,y,qx,qy,hx,hy]:=hg;let#[hz,U,#[xo,yo,Y],h1,h2]:=st;let#[ix,rx,px,zx]:=I.seqV qx;let#[iy,ry,py,zy]:=I.seqV qy;let#[u,hu,ru]:=rx.get hx;let#[v,hv,rv]:=ry.get hy;have ad:∀c,c∈[z,TI,TO,i1,i2]->H c=none:=λc O=>(hf c O).1
  have Z:=gb I hf qx;have nb:=gb I hf qy;simp only[Mv,Lm,MG,P7] at Z nb;have DA:ZipApart z TI TO i1 i2 a b:=#[D.TIz,D.TOz,D.i1z,D.i2z,D.TITO,D.TIi1,D.TIi2,D.TOi1,D.TOi2,D.i12,Z.1,Z.2.2.1,Z.2.2.2.1,Z.2.2.2.2,nb.1,nb.2.2.1,nb.2.2.2.1,nb.2.2.2.2];erw[jm DA hz U Y h1 h2 px py (x:=u) (y:=v) (by simpa using hu) (by simpa using hv) λh' a1 a2 a3 a4 a5 a6 hk=>?_]
  erw[0,wpAny_letOwnedTupleGo_zip a1 λa7 a' sb=>?_]
  have kk:∀c o,c∉[z,TI,TO,i1,i2]->s.heap.get? c=some o->a7.get? c=some o:=λc o O e=>by
   simp only[Mv,Lm,MG,P7] at O;exact(sb.2 c O.1).trans (hk c o O.1 O.2.2.1 O.2.2.2.1 O.2.2.2.2 e)
  have ac:∀c∈[z,TI,TO,i1,i2],c<s.heap.objs.size:=λc O=>by
   simp only[Mv,Lm,MG] at O
   rcases O with rfl|rfl|rfl|rfl|rfl
   ·rwa[GP hz]
   ·rwa[GP U]
   ·rwa[GP Y]
   ·let#[o,e,_]:=h1.obj;rwa[GP e]
   ·let#[o,e,_]:=h2.obj;rwa[GP e]
  have nT:s.heap.objs.size∉[z,TI,TO,i1,i2]:=λO=>absurd (ac _ O) (Lk _)
  have hT:a7.get? s.heap.objs.size=some { cls:=.type "tuple",data:=.seq (List.toArray [u,v]) }:=(sb.2 _ (λe=>nT (by simp[e]))).trans a5
  have fresh:H s.heap.objs.size=none:=I.hok.fresh (ge _);have gT:(s.heap.push { cls:=.type "tuple",data:=.seq (List.toArray [u,v]) }).get? s.heap.objs.size=some { cls:=.type "tuple",data:=.seq (List.toArray [u,v]) }:=z_ _ rfl;have I1:Inv X pins σ (upd H s.heap.objs.size (.tup [x,y])) { s with heap:=s.heap.push { cls:=.type "tuple",data:=.seq (List.toArray [u,v]) },toks:=s.toks }:=
   I.laid (λb o e=>h_ _ e) (ge _) #[015210,by show 2<=sizeLine;decide,[u,v],.cons ru (.cons rv .nil),_,gT,1,0]
  have a8:∀c∈[z,TI,TO,i1,i2],FJ X pins (upd H s.heap.objs.size (.tup [x,y])) c:=λc O=>
   #[by rw[al (GA (ac c O))];exact(hf c O).1,(hf c O).2]
  have I2:=I1.turnedN (h':=a7) (t':=s.toks) (fp:=[z,TI,TO,i1,i2]) (λc o O e=>by
   rcases get?_push_cases e with⟨e1,e2⟩|e1
   ·rw[e1,e2];rwa[hT]
   ·rwa[kk c o O e1]) a8
  erw[24,.ref s.heap.objs.size,_,I2,1,#[34,_,x,y,1,fresh,1,λau q=>by rw[I.seqV_inj q qx];rwa[hx],λax q=>by rw[I.seqV_inj q qy];rwa[hy]],?_,λc O=>(a8 c O).1]
  rwa[a',(sb.2 _ D.TIz).trans (hk _ _ D.TIz D.TITO D.TIi1 D.TIi2 U),#[20,u,v,(sb.2 _ D.TOz).trans a2],a3.at λo e=>(sb.2 _ D.i1z).trans e,a4.at λo e=>(sb.2 _ D.i2z).trans e]
 done:=by
  intro X hP hw hK O i pins s σ H E I hf st hg;subst hP hw hK;let#[xs,ys,qx,qy,a9]:=hg;let#[hz,U,#[xo,yo,Y],h1,h2]:=st;let#[ix,rx,px,zx]:=I.seqV qx;let#[iy,ry,py,zy]:=I.seqV qy;have Z:=gb I hf qx;have nb:=gb I hf qy;simp only[Mv,Lm,MG,P7] at Z nb;have DA:ZipApart z TI TO i1 i2 a b:=#[D.TIz,D.TOz,D.i1z,D.i2z,D.TITO,D.TIi1,D.TIi2,D.TOi1,D.TOi2,D.i12,Z.1,Z.2.2.1,Z.2.2.2.1,Z.2.2.2.2,nb.1,nb.2.2.1,nb.2.2.2.1,nb.2.2.2.2];have lx:=rx.length;have ly:=ry.length;erw[jR (I.ok.hd O) DA hz U Y h1 h2 px py ?_ λh' hk=>#[1,I.turnedN (t':=s.toks) (λc o O e=>?_) hf]]
  ·rcases a9 with q|q
   ·rwa[.inl (by simp;lia)]
   ·rwa[.inr (by simp;lia)]
  ·simp only[Mv,Lm,MG,P7] at O;rwa[hk c o O.1 O.2.2.1 O.2.2.2.1 O.2.2.2.2 e]
 self:=λ_ _ _ _ _ st h=>wpAny_pyIter_zip st.1 h
def Eo(t1 t2:Bool)(K:Frag)(ta:TA):TI:=λσ H R=>ta σ H λvs H1=>∃a b,vs=[.ref a,.ref b]/\(∃xs,SqV t1 K H1 a xs)/\(∃ys,SqV t2 K H1 b ys)/\R (Itz t1 t2 K a b) H1
theorem DJ(t1 t2:Bool){a b:Expr}(hg:Gl X "zip")(hm:X.mg "zip" = none)(ha:PA X [a,b] ta)(hs:starEach [a,b] X.env=[(false,eval a X.env),(false,eval b X.env)]:=by rfl)(hs2:starEach [b] X.env=[(false,eval b X.env)]:=by rfl):
  PI X (.Tuple es ek ep) (.Call (.Name "zip" p) [a,b] [] pos) (Eo t1 t2 X.K ta):=by
 intro pins s σ H R I h;erw[Call_ (dM I hg hm boot_zip (LH (thn (ha pos pins s σ H _ I h) λus s1 ⟨vs,H1,O,r1,q1⟩=>?_) (by rw[hs,hs2]) (by rw[hs2];rfl)))]
 let#[l1,l2,e,#[xs,qx],#[ys,qy],q]:=q1;subst e;cases r1 with
 |cons r rr=>
  cases rr with
  |cons r' rr=>
   cases rr;cases r;cases r';let#[ix,rx,px,zx]:=O.seqV qx;let#[iy,ry,py,zy]:=O.seqV qy;erw[vq px py λh' a1 a2 a3 a4 a5 a6 a7=>?_]
   have Z:Inv X pins σ H1 { s1 with heap:=h',toks:=s1.toks }:=O.kept a7
   erw[wpAny_pyIter_zip (s:={ s1 with heap:=h' }) a1 ?_]
   erw[4015,_,[s1.heap.objs.size+4,s1.heap.objs.size+2,s1.heap.objs.size+3,s1.heap.objs.size,s1.heap.objs.size+1],_,_,H1,1,Z,xZ l1 l2 (s1.heap.objs.size+4) (s1.heap.objs.size+2) (s1.heap.objs.size+3) s1.heap.objs.size (s1.heap.objs.size+1) (EK _),#[a1,a2,#[20,_,_,a3],a4,a5],λb Y=>?_,q]
   have U:s1.heap.objs.size<=b:=by
    simp only[Mv,Lm,MG] at Y
    rcases Y with rfl|rfl|rfl|rfl|rfl
    ·rwa[Op _ _]
    ·rwa[Op _ _]
    ·rwa[Op _ _]
    ·rwa[ge _]
    ·rwa[Op _ _]
   rwa[O.fpOk U (O.hok.fresh U)]
mutual
inductive DR (K:Frag) (H:Hp):PyData->V->Prop
 |non:DR K H .none .non
 |bl (b:Bool):DR K H (.bool b) (.bl b)
 |int (i:Int):DR K H (.int i) (.int i)
 |str (x:Str):DR K H (.str x) (.str x)
 |tup {a:Addr} {vs:List V} {ds:List PyData}:SqT K H a vs->DRs K H ds vs->DR K H (.tuple ds) (.ref a)
 |lst {a:Addr} {vs:List V} {ds:List PyData}:SqL K H a vs->DRs K H ds vs->DR K H (.list ds) (.ref a)
inductive DRs (K:Frag) (H:Hp):List PyData->List V->Prop
 |nil:DRs K H [] []
 |cons {d:PyData} {v:V} {ds:List PyData} {vs:List V}:DR K H d v->DRs K H ds vs->DRs K H (d::ds) (v::vs)
end
section
mutual
theorem DR.reads(I:Inv X pins σ H s):∀{d:PyData} {v:V} {u:Value},DR X.K H d v->Fy v u->∃as,Reads s.heap u d as
 |_,_,_,.non,r=>by cases (show _=Value.none from r);rwa[_,.none]
 |_,_,_,.bl b,r=>by cases (show _=Value.bool b from r);rwa[_,.bool b]
 |_,_,_,.int i,r=>by let#[t,q]:=(show ∃t,_=Value.int i t from r);subst q;rwa[_,.int i t]
 |_,_,_,.str x,r=>by let#[t,q]:=(show ∃t,_=Value.str x t from r);subst q;rwa[_,.str x t]
 |_,_,_,.tup (a:=a) q qs,r=>by
  cases (show _=Value.ref a from r)
  let#[its,U,#[o,e,c,n,d],z]:=I.tuple q;let#[as,O]:=DRs.reads I qs U;rwa[as,.tuple e c d (by simpa using O)]
 |_,_,_,.lst (a:=a) q qs,r=>by
  cases (show _=Value.ref a from r)
  let#[its,U,#[o,n,e,c,_,d],z]:=I.list q;let#[as,O]:=DRs.reads I qs U;rwa[_,.list e c d (by simpa using O)]
theorem DRs.reads(I:Inv X pins σ H s):∀{ds:List PyData} {vs:List V} {us:List Value},DRs X.K H ds vs->Fw vs us->∃as,ReadsAll s.heap us ds as
 |_,_,_,.nil,r=>by cases r;rwa[_,.nil]
 |_,_,_,.cons q qs,r=>by
  cases r with
  |cons r rr=>
   let#[as,O]:=DR.reads I q r;let#[bs,U]:=DRs.reads I qs rr;rwa[_,.cons O U]
end
def E6(K:Frag):R2:=λx y H Q=>∃d e,DR K H d x/\DR K H e y/\SeqAt.shaped d=true/\SeqAt.shaped e=true/\Q (.bl (PyData.eqv d e)) H
def Fk(K:Frag):R2:=λx y H Q=>∃d e,DR K H d x/\DR K H e y/\SeqAt.shaped d=true/\SeqAt.shaped e=true/\Q (.bl (!PyData.eqv d e)) H
theorem CQ(hu:X.A.units+64<cLine):OpR X (compareOp .Eq) (E6 X.K):=by
 intro pins s σ H x y v u Q I Z ry h;let#[d,e,dx,O,sx,sy,q]:=h;let#[as,U]:=dx.reads I Z;let#[bs,Y]:=O.reads I ry;rwa[eq_dataH U Y sx sy hu #[22,.bl _,H,I,1,q]]
theorem Dq(hu:X.A.units+64<cLine):OpR X (compareOp .NotEq) (Fk X.K):=by
 intro pins s σ H x y v u Q I Z ry h;let#[d,e,dx,O,sx,sy,q]:=h;let#[as,U]:=dx.reads I Z;let#[bs,Y]:=O.reads I ry;rwa[ne_dataH U Y sx sy hu #[22,.bl _,H,I,1,q]]
end
def fJ(ns:List Int):PyData:=.tuple (ns.map .int)
theorem lg:∀ns:List Int,DRs K H (ns.map PyData.int) (ns.map V.int)
 |[]=>.nil
 |n::r=>.cons (.int n) (lg r)
theorem dB{ns:List Int}(h:SqT K H a (ns.map V.int)):DR K H (fJ ns) (.ref a):=.tup h (lg ns)
theorem bH(ns:List Int):SeqAt.shaped (fJ ns)=true:=by
 simp[fJ,SeqAt.shaped,PyData.canLay0,PyData.depth,PySem.W.ke_canLayAll0,PySem.W.ke_depthAll]
theorem jJ:∀ns ms:List Int,PyData.eqvAll (ns.map PyData.int) (ms.map PyData.int)=decide (ns=ms)
 |[],[]=>by simp[PyData.eqvAll]
 |[],_::_=>by simp[PyData.eqvAll]
 |_::_,[]=>by simp[PyData.eqvAll]
 |a::r,b::t=>by
  simp only[K1,PyData.eqvAll,PyData.eqv,jJ r t]
  by_cases h:a=b<;>by_cases h':r=t<;>simp[h,h']
theorem iL(ns ms:List Int):PyData.eqv (fJ ns) (fJ ms)=decide (ns=ms):=by
 simp only[fJ,PyData.eqv];rwa[jJ ns ms]
section
theorem Walks.sq(t:Bool)(hh:A.handled=none)(I ax:Addr)(hne:ax≠I)(items:Array Value):
  Walks prog w A I [I,ax] [I] items.size (λi v=>items[i]? = some v) (λi h=>SqI t h I ax i/\SqO t h ax items):=by
 cases t
 ·rwa[Walks.list hh I ax hne items]
 ·rwa[Walks.tuple hh I ax hne items]
theorem wq(hc:X.calm=true)(t:Bool):cq X (.builtin "all") (λxs H Q=>∃(p:Addr) (bs:List Bool),xs=[.ref p]/\SqV t X.K H p (bs.map V.bl)/\Q (.bl (bs.all id)) H):=by
 intro pins s σ H xs us Q I rv h;let#[p,bs,1,q,hq]:=h;let#[u,1,ru]:=cJ rv;cases ru;let#[its,rb,po,z]:=I.seqV q;have hh:X.A.in1.handled=none:=I.ok.hd hc;erw[call_all_walk (gz po λo hi=>?_)]
 have Z:p<s.heap.objs.size:=by let#[ob,e]:=po.obj;rwa[GP e]
 erw[4034,s.heap.objs.size,_,_,_,_,_,λi=>bs.getD i false,1,Walks.sq t hh s.heap.objs.size p (GA Z) its.toArray,#[hi,po.at λo' e=>h_ _ e],?_,λh' tk hk=>?_]
 ·intro i v s' Q' E' hv hQ;have Y:its[i]? = some v:=by simpa using hv
  have O:=rb.length;have a6:i<its.length:=(q_.mp Y).1;rw[k_] at O;have U:(bs.map V.bl)[i]? = some (.bl (bs.getD i false)):=by
   rw[Ga,Gc,e_ ()]
   rfl
  let#[u,hu,ru]:=rb.get U;rw[Y] at hu;cases hu;cases (show v=Value.bool _ from ru)
  rwa[MA hQ]
 ·have I1:Inv X pins σ H { s with heap:=s.heap.push o,toks:=s.toks }:=I.kept λb u e=>h_ _ e
  have fp:FJ X pins H s.heap.objs.size:=I.fpOk (ge _) (I.hok.fresh (ge _));have I2:Inv X pins σ H { s with heap:=h',toks:=tk }:=by
   have:=I1.turnedN (fp:=[s.heap.objs.size]) (h':=h') (t':=tk) (λb ob U e=>hk b ob U e) (λb U=>by have e:b=s.heap.objs.size:=(by simpa using U);subst e;rwa[fp])
   rwa[this]
  erw[22,.bl (bs.all id),H,I2,?_,hq];show Value.bool _=Value.bool _;congr 1;have O:=rb.length;rw[k_] at O;have hsz:its.toArray.size=bs.length:=by simp[O]
  rw[hsz];rw[OP];simp only[all_eq_true,ME]
  constructor
  ·intro h b U;let#[i,hi,1]:=getElem_of_mem U;have:=h i hi;simpa[Gc,e_ hi] using this
  ·intro h i hi;have:=h (bs[i]) (PR hi);simpa[Gc,e_ hi] using this
theorem qD(ns:List Int):∀k,k<=ns.length->preSum (λi=>ns.getD i 0) k=(ns.take k).sum:=by
 intro k
 induction k with
 |zero=>intro _;rfl
 |succ k ih=>
  intro h;have e:=ih ()
  show preSum _ k+_=_;rw[e,take_succ,sum_append,e_ ()]
  show _+ns.getD k 0=_;rw[Gc,e_ ()]
  simp
theorem xf(hc:X.calm=true)(t:Bool):cq X (.builtin "sum") (λxs H Q=>∃(p:Addr) (ns:List Int),xs=[.ref p]/\SqV t X.K H p (ns.map V.int)/\Q (.int ns.sum) H):=by
 intro pins s σ H xs us Q I rv h;let#[p,ns,1,q,hq]:=h;let#[u,1,ru]:=cJ rv;cases ru;let#[its,rb,po,z]:=I.seqV q;have hh:X.A.in1.handled=none:=I.ok.hd hc;erw[call_sum_walkG (gz po λo hi=>?_)]
 have Y:p<s.heap.objs.size:=by let#[ob,e]:=po.obj;rwa[GP e]
 erw[4035,s.heap.objs.size,_,_,_,_,_,λi=>ns.getD i 0,1,Walks.sq t hh s.heap.objs.size p (GA Y) its.toArray,#[hi,po.at λo' e=>h_ _ e],λb U=>?_,?_,λh' tk t' hk=>?_]
 ·show b<(s.heap.push o).objs.size;rw[MQ]
  rcases GH.mp U with rfl|U
  ·rwa[Ol _]
  ·rcases GH.mp U with rfl|U
   ·rwa[OZ Y]
   ·cases U
 ·intro i v hv;have Z:its[i]? = some v:=by simpa using hv
  have O:=rb.length;have a6:i<its.length:=(q_.mp Z).1;rw[k_] at O;have U:(ns.map V.int)[i]? = some (.int (ns.getD i 0)):=by
   rw[Ga,Gc,e_ ()]
   rfl
  let#[u,hu,ru]:=rb.get U;rw[Z] at hu;cases hu;rwa[ru]
 ·have I1:Inv X pins σ H { s with heap:=s.heap.push o,toks:=s.toks }:=I.kept λb u e=>h_ _ e
  have fp:FJ X pins H s.heap.objs.size:=I.fpOk (ge _) (I.hok.fresh (ge _));have I2:Inv X pins σ H { s with heap:=h',toks:=tk }:=by
   have:=I1.turnedN (fp:=[s.heap.objs.size]) (h':=h') (t':=tk) (λb ob U e=>hk b ob U e) (λb U=>by have e:b=s.heap.objs.size:=(by simpa using U);subst e;rwa[fp])
   rwa[this]
  have O:=rb.length;rw[k_] at O;have hsz:its.toArray.size=ns.length:=by simp[O]
  erw[22,.int ns.sum,H,I2,#[t',?_],hq];rw[hsz,qD ns _ (ge _),Ob (ge _)]
end
section
theorem wQ:bootBuiltins "all"=some (.builtin "all"):=by decide +kernel
theorem vt:bootBuiltins "sum"=some (.builtin "sum"):=by decide +kernel
theorem i8:bootBuiltins "max"=some (.builtin "max"):=by decide +kernel
theorem mV:bootBuiltins "min"=some (.builtin "min"):=by decide +kernel
theorem vJ:bootBuiltins "abs"=some (.builtin "abs"):=by decide +kernel
theorem jz:bootBuiltins "tuple"=some (.type "tuple"):=by decide +kernel
theorem kG:bootBuiltins "list"=some (.type "list"):=by decide +kernel
theorem nN:bootBuiltins "int"=some (.type "int"):=by decide +kernel
theorem dE:OpR X (binaryOp .Mult) (rI IntMulOk λi j=>.int (i*j)):=opI λ_ _ _ _ _ _ _ O q=>mul_int q O
end
structure FnB (P:Program) (w:World) (K:Frag) (mg:Str->Option Value) (base:Heap) (k:Nat) (x:Str) (sp:Sp):Prop where
 ex:∃f fd ps,`aC CX0 k f fd ps sp/\mg x=some (.ref f)/\keepIn K (.ref f)=true/\FT K fd ps []
structure Blt (mg:Str->Option Value):Prop where
 len:mg "len" = none
 range:mg "range" = none
 zip:mg "zip" = none
 all:mg "all" = none
 sum:mg "sum" = none
 max:mg "max" = none
 min:mg "min" = none
 abs:mg "abs" = none
 tuple:mg "tuple" = none
 list:mg "list" = none
 int:mg "int" = none
 bool:mg "bool" = none
 isinst:mg "isinstance" = none
 enum:mg "enumerate" = none
 sorted:mg "sorted" = none
 set:mg "set" = none
 str:mg "str" = none
section
variable {t:TA}
theorem ay{k:Nat}(F:FnB X.prog X.w X.K X.mg X.base k x sp)(hr:FD k X.A)(ha:PA X (e::es) t)(hg:Gl X x:=by rfl)(hdb:(x==("__debug__" : Str))=false:=by decide)(he:starEach (e::es) X.env=(false,eval e X.env)::starEach es X.env:=by rfl)(hpl:(backTo pos (starEach es X.env)).any (·.1)=false:=by rfl):PE X (.Call (.Name x p) (e::es) [] pos) (xA sp [] E0 t):=by
 let#[f,fd,ps,O,Y,hk,U]:=F.ex;rwa[uI O hr hg Y hk U .nil ve ha hdb he hpl]
theorem Ct(T:Blt X.mg)(ha:PE X e te)(hg:Gl X "len":=by rfl)(hs:starEach [e] X.env=[(false,eval e X.env)]:=by rfl):PE X (.Call (.Name "len" p) [e] [] pos) (tCB (λxs H Q=>∃p ys,xs=[.ref p]/\(SqL X.K H p ys\/SqT X.K H p ys)/\Q (.int ys.length) H) (bR te cI)):=
 bP pH hg T.len PySem.boot_len (aa ha ag hs) #[] #[] hs
theorem DD(T:Blt X.mg)(ha:PE X e te)(b:Bool)(hc:X.calm=true:=by rfl)(hg:Gl X "all":=by rfl)(hs:starEach [e] X.env=[(false,eval e X.env)]:=by rfl):PE X (.Call (.Name "all" p) [e] [] pos) (tCB (λxs H Q=>∃(p:Addr) (bs:List Bool),xs=[.ref p]/\SqV b X.K H p (bs.map V.bl)/\Q (.bl (bs.all id)) H) (bR te cI)):=
 bP (wq hc b) hg T.all wQ (aa ha ag hs) #[] #[] hs
theorem D4(T:Blt X.mg)(ha:PE X e te)(b:Bool)(hc:X.calm=true:=by rfl)(hg:Gl X "sum":=by rfl)(hs:starEach [e] X.env=[(false,eval e X.env)]:=by rfl):PE X (.Call (.Name "sum" p) [e] [] pos) (tCB (λxs H Q=>∃(p:Addr) (ns:List Int),xs=[.ref p]/\SqV b X.K H p (ns.map V.int)/\Q (.int ns.sum) H) (bR te cI)):=
 bP (xf hc b) hg T.sum vt (aa ha ag hs) #[] #[] hs
theorem yT(T:Blt X.mg)(ha:PE X e te)(hg:Gl X "tuple":=by rfl)(hs:starEach [e] X.env=[(false,eval e X.env)]:=by rfl):PE X (.Call (.Name "tuple" p) [e] [] pos) (tCB (λxs H Q=>∃p ys,xs=[.ref p]/\SqL X.K H p ys/\∀l,H l=none->Q (.ref l) (upd H l (.tup ys))) (bR te cI)):=by
 erw[ci (r:=λxs H Q=>∃p ys,xs=[.ref p]/\SqL X.K H p ys/\∀l,H l=none->Q (.ref l) (upd H l (.tup ys))) ?_ hg T.tuple jz (aa ha ag hs) #[] #[] hs]
 intro pins s σ H xs us Q I U h;let#[p,ys,1,q,O]:=h;rwa[mh pins s σ H _ us Q I U #[21,p,ys,1,.inl #[q,O]]]
theorem ya(T:Blt X.mg)(ha:PA X [e,e2] t)(hc:X.calm=true:=by rfl)(hg:Gl X "max":=by rfl)(he:starEach [e,e2] X.env=(false,eval e X.env)::starEach [e2] X.env:=by rfl)(hpl:(backTo pos (starEach [e2] X.env)).any (·.1)=false:=by rfl):
  PE X (.Call (.Name "max" p) [e,e2] [] pos) (tCB (λxs H Q=>∃i j,xs=[.int i,.int j]/\Q (.int (if j>i then j else i)) H) t):=
 bP (v7 hc) hg T.max i8 ha #[] #[] he hpl
theorem CC(T:Blt X.mg)(ha:PA X [e,e2] t)(hc:X.calm=true:=by rfl)(hg:Gl X "min":=by rfl)(he:starEach [e,e2] X.env=(false,eval e X.env)::starEach [e2] X.env:=by rfl)(hpl:(backTo pos (starEach [e2] X.env)).any (·.1)=false:=by rfl):
  PE X (.Call (.Name "min" p) [e,e2] [] pos) (tCB (λxs H Q=>∃i j,xs=[.int i,.int j]/\Q (.int (if j<i then j else i)) H) t):=
 bP (wJ hc) hg T.min mV ha #[] #[] he hpl
theorem kJ(T:Blt X.mg)(ha:PE X e te)(hg:Gl X "abs":=by rfl)(hs:starEach [e] X.env=[(false,eval e X.env)]:=by rfl):PE X (.Call (.Name "abs" p) [e] [] pos) (tCB (λxs H Q=>∃i,xs=[.int i]/\Q (.int (if i<0 then -i else i)) H) (bR te cI)):=
 bP Ad hg T.abs vJ (aa ha ag hs) #[] #[] hs
end
theorem kW{acc:Addr}{Q:VK}(Pv:Nat->List V->St->Hp->Prop)(hn:n<=sizeLine)(h0:Pv 0 [] σ0 (upd H0 acc (.lst [])))(hgo:∀i zs σ H,i<n->H acc=some (.lst zs)->Pv i zs σ H->J.go i H)(hst:∀zs σ H,H acc=some (.lst zs)->Pv n zs σ H->J.stop n H)(hs:∀i zs σ H x H',i<n->H acc=some (.lst zs)->zs.length<=i->Pv i zs σ H->J.yld i H x H'->g x σ H' λσ2 H2=>tt σ2 H2 λb U=>
   if b=true then te σ2 U λy Y=>∃ys,Y acc=some (.lst ys)/\ys.length<sizeLine/\∃zs,(upd Y acc (.lst (ys++[y]))) acc=some (.lst zs)/\zs.length<=i+1/\Pv (i+1) zs σ2 (upd Y acc (.lst (ys++[y])))
   else ∃zs,U acc=some (.lst zs)/\zs.length<=i+1/\Pv (i+1) zs σ2 U)(hd:∀zs σ H,H acc=some (.lst zs)->zs.length<=n->Pv n zs σ H->Q (.ref acc) H):
  ∃W:Nat->Nat->St->Hp->Prop,(∃m,W 0 m σ0 (upd H0 acc (.lst [])))/\∀i m σ H,W i m σ H->
   (J.stop i H/\Q (.ref acc) H)\/(J.go i H/\∃N:St->Hp->Prop,(∀σ' H',N σ' H'->∃m',m'<m/\W (i+1) m' σ' H')/\∀x H',J.yld i H x H'->g x σ H' λσ2 H2=>tt σ2 H2 λb U=>
    if b=true then te σ2 U λy Y=>∃ys,Y acc=some (.lst ys)/\ys.length<sizeLine/\N σ2 (upd Y acc (.lst (ys++[y]))) else N σ2 U):=by
 erw[λi m σ H=>m=n-i/\i<=n/\∃zs,H acc=some (.lst zs)/\zs.length<=i/\Pv i zs σ H,#[n,by simp,Gw _,[],ae,ge _,h0],?_]
 rintro i m σ H ⟨rfl,hi,zs,Z,hl,p⟩
 by_cases O:i<n
 ·erw[.inr #[hgo i zs σ H O Z p,λσ' H'=>∃zs,H' acc=some (.lst zs)/\zs.length<=i+1/\Pv (i+1) zs σ' H',λσ' H' p'=>#[n-(i+1),(),1,O,p'],λx H' y=>?_]]
  rwa[hs i zs σ H x H' O Z hl p y]
 ·have e:i=n:=()
  subst e;rwa[.inl #[hst zs σ H Z p,hd zs σ H Z hl p]]
theorem Fu.sqT(e:Fu H H')(h:SqT K H a xs):SqT K H' a xs:=by
 rcases h with(h|⟨o,h⟩)|h
 ·rwa[.inl (.inl (e _ _ h))]
 ·rwa[.inl (.inr #[o,e _ _ h])]
 ·rwa[.inr h]
theorem Fu.sqV{t:Bool}(e:Fu H H')(h:SqV t K H a xs):SqV t K H' a xs:=by
 cases t
 ·rwa[Fu.seq e h]
 ·rwa[Fu.sqT e h]
theorem Fu.new{o:HO}(h:H a=none):Fu H (upd H a o):=λb u e=>by rw[al (ah e h)];rwa[e]
theorem Fu.put{o:HO}(s:Fu H H')(h:H a=none):Fu H (upd H' a o):=λb u e=>by rw[al (ah e h)];rwa[s b u e]
theorem ow{α β γ:Type}(f:α->β->γ):∀(xs:List α) (ys:List β) (i:Nat) (x:α) (y:β),xs[i]? = some x->ys[i]? = some y->(List.zipWith f xs ys).take (i+1)=(List.zipWith f xs ys).take i++[f x y]:=by
 intro xs ys i x y O U;rw[take_succ,List.getElem?_zipWith,O,U]
 rfl
theorem yp{α β:Type}(f:α->β)(xs:List α)(i:Nat)(x:α)(hx:xs[i]? = some x):(xs.map f).take (i+1)=(xs.map f).take i++[f x]:=by
 rw[take_succ,Ga,hx]
 rfl
theorem qM{K':Frag}{b:Addr}{ys:List V}{Q:VK}{σ:St}(f:V->V->V)(hσ:bG src σ=none::none::rest)(hx:SqV t1 K H0 a xs)(hy:SqV t2 K H0 b ys)(hl:xs.length<=sizeLine)(he:∀(i:Nat) x y H (R:VK),xs[i]? = some x->ys[i]? = some y->Fu H0 H->R (f x y) H->te (some x::some y::rest) H R)(hd:∀acc H,H0 acc=none->Fu H0 H->H acc=some (.lst (List.zipWith f xs ys))->Q (.ref acc) H):
  bK (Itz t1 t2 K a b) src (zS K' 2 (gJ (bV 0) (gJ (bV 1) zm))) jQ te σ H0 Q:=by
 intro acc U;rw[hσ];have ac:(List.zipWith f xs ys).length=min xs.length ys.length:=List.length_zipWith;erw[kW (n:=min xs.length ys.length) (λi zs σ H=>Fu H0 H/\zs=(List.zipWith f xs ys).take i/\∃u v,σ=u::v::rest) () #[0220,Fu.new U,1,none,none,1] ?_ ?_ ?_ ?_]
 ·rintro i zs σ H hi Z ⟨O,_⟩;rwa[43,xs,ys,xs[i]'(),ys[i]'(),O.sqV hx,O.sqV hy,by simp,by simp]
 ·rintro zs σ H Z ⟨O,_⟩;erw[22,xs,ys,O.sqV hx,O.sqV hy,?_];lia
 ·rintro i zs σ H x H' hi Z a' ⟨O,ez,u,v,rfl⟩ ⟨p,x1,Y,rfl,hp,rfl,gx,gy⟩;have a7:=gx xs (O.sqV hx);have a8:=gy ys (O.sqV hy);have a9:acc≠p:=ah Z hp;have a6:H0 p=none:=O.free hp;erw[232122,p,[x1,Y],1,SqT.of ae,1,x1,[Y],1,Y,[],1,1,?_];show te (some x1::some Y::rest) _ _;erw[he i x1 Y _ _ a7 a8 (O.put a6) ?_];erw[121420,zs,by rw[al a9];rwa[Z],(),zs++[f x1 Y],ae,by rw[y_,GV];lia,(O.put a6).put U,?_,_,0]
  rw[ow f xs ys i x1 Y a7 a8,ez]
 ·rintro zs σ H Z a' ⟨O,ez,_⟩;erw[hd acc H U O ?_];rw[Z,ez,Ob ()]
theorem cY{Q:VK}{σ:St}(hσ:bG src σ=σ0)(Pv:Addr->Nat->List V->St->Hp->Prop)(hn:n<=sizeLine)(h0:∀acc,H0 acc=none->Pv acc 0 [] σ0 (upd H0 acc (.lst [])))(hgo:∀acc i zs σ H,H0 acc=none->i<n->H acc=some (.lst zs)->Pv acc i zs σ H->J.go i H)(hst:∀acc zs σ H,H0 acc=none->H acc=some (.lst zs)->Pv acc n zs σ H->J.stop n H)(hs:∀acc i zs σ H x H',H0 acc=none->i<n->H acc=some (.lst zs)->zs.length<=i->Pv acc i zs σ H->J.yld i H x H'->g x σ H' λσ2 H2=>tt σ2 H2 λb U=>
   if b=true then te σ2 U λy Y=>∃ys,Y acc=some (.lst ys)/\ys.length<sizeLine/\∃zs,(upd Y acc (.lst (ys++[y]))) acc=some (.lst zs)/\zs.length<=i+1/\Pv acc (i+1) zs σ2 (upd Y acc (.lst (ys++[y])))
   else ∃zs,U acc=some (.lst zs)/\zs.length<=i+1/\Pv acc (i+1) zs σ2 U)(hd:∀acc zs σ H,H0 acc=none->H acc=some (.lst zs)->zs.length<=n->Pv acc n zs σ H->Q (.ref acc) H):bK J src g tt te σ H0 Q:=by
 intro acc O;rw[hσ];rwa[kW (Pv acc) hn (h0 acc O) (λi zs σ H=>hgo acc i zs σ H O) (λzs σ H=>hst acc zs σ H O) (λi zs σ H x H'=>hs acc i zs σ H x H' O) (λzs σ H=>hd acc zs σ H O)]
theorem cc{i:Nat}(hN:X.N.Nodup)(hi:X.N[i]? = some x)(hx:X.env.scope.names.lookup x=some .local):PG X (.Name x pos) (bV i):=aO hN hi (.inl hx) (.inr hx)
section
variable (K:Frag){t:TA}
theorem bc{i j:Nat}{p1 p2:Pos}{k:Nat}(hK:X.K=K)(hc:X.calm=true)(hN:X.N.Nodup)(hi:X.N[i]? = some x)(hj:X.N[j]? = some y)(hx:X.env.scope.names.lookup x=some .local)(hy:X.env.scope.names.lookup y=some .local):
  PG X (.Tuple [.Name x p1,.Name y p2] k pos) (zS K 2 (gJ (bV i) (gJ (bV j) zm))):=by
 subst hK;rwa[jd hc (ba (cc hN hi hx) (ba (cc hN hj hy) gw))]
theorem aF(hK:X.K=K):IxR X (Fb K):=hK▸AE
theorem aI(hK:X.K=K):IxR X (Ek K):=hK▸CK
theorem EM(hK:X.K=K)(hu:X.A.units+64<cLine):OpR X (compareOp .Eq) (E6 K):=hK▸CQ hu
theorem wA(hK:X.K=K)(hu:X.A.units+64<cLine):OpR X (compareOp .NotEq) (Fk K):=hK▸Dq hu
theorem aL(hK:X.K=K)(hl:PE X e te):PI X tg e (yP K te):=hK▸Bg hl
theorem A4(hK:X.K=K)(hl:PE X e te):PI X tg e (C1 K te):=hK▸DN hl
theorem iz(t1 t2:Bool){a b:Expr}(hK:X.K=K)(hg:Gl X "zip")(hm:X.mg "zip" = none)(ha:PA X [a,b] ta)(hs:starEach [a,b] X.env=[(false,eval a X.env),(false,eval b X.env)]:=by rfl)(hs2:starEach [b] X.env=[(false,eval b X.env)]:=by rfl):
  PI X (.Tuple es ek ep) (.Call (.Name "zip" p) [a,b] [] pos) (Eo t1 t2 K ta):=hK▸DJ t1 t2 hg hm ha hs hs2
def rLen(K:Frag):List V->Hp->VK->Prop:=λxs H Q=>∃p ys,xs=[.ref p]/\(SqL K H p ys\/SqT K H p ys)/\Q (.int ys.length) H
def rAll(b:Bool)(K:Frag):List V->Hp->VK->Prop:=λxs H Q=>∃(p:Addr) (bs:List Bool),xs=[.ref p]/\SqV b K H p (bs.map V.bl)/\Q (.bl (bs.all id)) H
def rSum(b:Bool)(K:Frag):List V->Hp->VK->Prop:=λxs H Q=>∃(p:Addr) (ns:List Int),xs=[.ref p]/\SqV b K H p (ns.map V.int)/\Q (.int ns.sum) H
def Ds(K:Frag):List V->Hp->VK->Prop:=λxs H Q=>∃p ys,xs=[.ref p]/\SqL K H p ys/\∀l,H l=none->Q (.ref l) (upd H l (.tup ys))
theorem bU(T:Blt X.mg)(ha:PE X e te)(hK:X.K=K:=by rfl)(hg:Gl X "len":=by rfl)(hs:starEach [e] X.env=[(false,eval e X.env)]:=by rfl):PE X (.Call (.Name "len" p) [e] [] pos) (tCB (rLen K) (bR te cI)):=by
 subst hK;rwa[Ct T ha hg hs]
theorem ur(T:Blt X.mg)(ha:PE X e te)(b:Bool)(hK:X.K=K:=by rfl)(hc:X.calm=true:=by rfl)(hg:Gl X "all":=by rfl)(hs:starEach [e] X.env=[(false,eval e X.env)]:=by rfl):PE X (.Call (.Name "all" p) [e] [] pos) (tCB (rAll b K) (bR te cI)):=by
 subst hK;rwa[DD T ha b hc hg hs]
theorem BS(T:Blt X.mg)(ha:PE X e te)(b:Bool)(hK:X.K=K:=by rfl)(hc:X.calm=true:=by rfl)(hg:Gl X "sum":=by rfl)(hs:starEach [e] X.env=[(false,eval e X.env)]:=by rfl):PE X (.Call (.Name "sum" p) [e] [] pos) (tCB (rSum b K) (bR te cI)):=by
 subst hK;rwa[D4 T ha b hc hg hs]
theorem nX(T:Blt X.mg)(ha:PE X e te)(hK:X.K=K:=by rfl)(hg:Gl X "tuple":=by rfl)(hs:starEach [e] X.env=[(false,eval e X.env)]:=by rfl):PE X (.Call (.Name "tuple" p) [e] [] pos) (tCB (Ds K) (bR te cI)):=by
 subst hK;rwa[yT T ha hg hs]
end
section
variable (K:Frag){t:TA}
def zK(K:Frag):List V->Hp->VK->Prop:=λxs H Q=>∃p ys,xs=[.ref p]/\(SqL K H p ys\/SqT K H p ys)/\∀l,H l=none->Q (.ref l) (upd H l (.lst ys))
theorem yb(T:Blt X.mg)(ha:PE X e te)(hK:X.K=K:=by rfl)(hg:Gl X "list":=by rfl)(hs:starEach [e] X.env=[(false,eval e X.env)]:=by rfl):PE X (.Call (.Name "list" p) [e] [] pos) (tCB (zK K) (bR te cI)):=by
 subst hK;rwa[ci oP hg T.list kG (aa ha ag hs) #[] #[] hs]
end
theorem ut{i:Nat}{x:V}{t u:TS}(M:St->Hp->Prop)(h1:∀R:St->Hp->Prop,(∀σ' H',M σ' H'->R σ' H')->t { D with nx:=R } (σ.set i (some x)) H)(h2:∀σ' H',M σ' H'->u D σ' H'):bV i x σ H (Fs t u D):=h1 (u D) h2
section
open PySem.SeqAt
open PySem.AutoSeq1 (wpAny_loadPart')
open PySem.MeetsSeq PySem.MeetsSeq2 PySem.MeetsSeq3
def RcO(op:CmpOp)(A:Around)(s:Shared)(y x:Value)(b:Bool):Prop:=
 ∀(prog:Program) (w:World) (E:Value->Shared->Prop) (Q:Value->Shared->Prop),Q (.bool b) s->wpAny (model prog w) A (richCompare op y x) Q E s
inductive oQ (op:CmpOp) (A:Around) (s:Shared):List Value->List Value->List (Bool×Bool)->Prop
 |nil (ws:List Value):oQ op A s [] ws []
 |nilr (vs:List Value):oQ op A s vs [] []
 |cons {v w:Value} {e r:Bool} {vs ws:List Value} {ks:List (Bool×Bool)}:EqAt A s v w e->(e=false->RcO op A s v w r)->oQ op A s vs ws ks->oQ op A s (v::vs) (w::ws) ((e,r)::ks)
def pC:List (Bool×Bool)->Bool->Bool
 |[],f=>f
 |(true,_)::r,f=>pC r f
 |(false,b)::_,_=>b
theorem sO(l b:Addr)(items items2:Array Value)(n n2:Nat)(dd dd2:Option Addr)(sl sl2:Array (Option Value))(ks:List (Bool×Bool)):
  Meets (Builtin.«tuple.__gt__» #[[.ref l,.ref b],[]])
   (λA R s=>s.heap.get? l=some { cls:=.type "tuple",dict:=dd,data:=.seq items n,slots:=sl }/\s.heap.get? b=some { cls:=.type "tuple",dict:=dd2,data:=.seq items2 n2,slots:=sl2 }/\
    oQ .Gt A.in1 s items.toList items2.toList ks/\R (.ok (.ret (.bool (pC ks (decide (items.size>items2.size)))))) s):=
 .of_wp λprog w A R s h=>by
  let#[U,g,d,tk,os]:=s;let#[hl,Z,hc,h]:=h;have f2:=AutoSeq1.sub_tuple_tuple
  wp_walk using OQ hl,OQ Z,wpAny_forIn_list _ (λrest b s'=>b.1=none/\s'=#[U,g,d,tk,os]/\∃(vs ws:List Value) (ks':List (Bool×Bool)),rest=vs.zip ws/\
   oQ .Gt A.in1 #[U,g,d,tk,os] vs ws ks'/\R (.ok (.ret (.bool (pC ks' (decide (items.size>items2.size)))))) #[U,g,d,tk,os]) _
  case turn=>
   rintro⟨y,x⟩ rest b s' ⟨hb',rfl,vs,ws,ks',hz,hk,hR⟩;cases hk with
   |nil=>rw[List.zip_nil_left] at hz;cases hz
   |nilr=>rw[List.zip_nil_right] at hz;cases hz
   |@cons v w' e r vs' ws' ks'' he hr hk'=>
    rw[zip_cons_cons] at hz;injection hz with hyx hrest
    injection hyx with hy hx
    subst hy hx;erw[c_ (he prog w _ _ ?_)];cases e with
    |true=>
     wp_walk
     rwa[0232,1,1,_,_,_,hrest,hk',hR]
    |false=>
     have Y:=hr rfl prog w
     wp_walk using Y
     rwa[0,hR]
  case fin=>
   rintro⟨b1,b2⟩ s' ⟨hb',rfl,vs,ws,ks',hz,hk,hR⟩;simp only at hb';subst hb';have O:ks'=[]:=by
    cases hk with
    |nil=>rfl
    |nilr=>rfl
    |cons he hr hk'=>rw[zip_cons_cons] at hz;cases hz
   subst O
   wp_walk
   rwa[0,by simpa[Builtin.Tuple.tupleCompareSizes,pC] using hR]
  case h=>
   rwa[0232,1,1,items.toList,items2.toList,ks,1,hc,h]
theorem B8{b:Addr}{items2:Array Value}{ks:List (Bool×Bool)}(hl:s.heap.IsTuple l items)(hb:s.heap.IsTuple b items2)(hu:A.units<cLine)(hk:oQ .Gt A.in1 s items.toList items2.toList ks):
  RcO .Gt A s (.ref l) (.ref b) (pC ks (decide (items.size>items2.size))):=λprog w E Q h=>by
 let#[#[cls,dd,data,sl],ho,hc,n,hd]:=id hl;let#[#[a8,a6,Z,a7],Y,O,n2,U]:=id hb;simp only at hc hd O U;subst hc hd O U;rwa[richCompare_meets_room (op:=.Gt) #[_,ho,1] #[_,Y,1] PySem.F.slot_tuple_gt PySem.F.entry_tuple_gt (PySem.F.args_tuple_gt_2 _ _) (sO l b items items2 n n2 dd a6 sl a7 ks)
  #[ho,Y,hk,show Value.bool _≠Value.notImplemented/\Q (.bool _) s from#[(λx=>nomatch x),h]] hu]
end
def Ev(f:Int->Int->Bool)(fin:Bool)(ns ms:List Int):Bool:=pC (List.zipWith (λa b=>(a==b,f a b)) ns ms) fin
def gtI(a b:Int):Bool:=decide (b<a)
def m8(ns ms:List Int):Bool:=Ev gtI (decide (ns.length>ms.length)) ns ms
theorem p7(A:Around)(s:Shared)(a:Int)(t:Tok)(c:Int)(u:Tok):RcO .Gt A s (.int a t) (.int c u) (gtI a c):=λprog w E Q h=>
 (PyProof.Rows.gt_int h:wpAny (model prog w) A (compareOp .Gt (.int a t) (.int c u)) Q E s)
theorem nk{op:CmpOp}{f:Int->Int->Bool}(hf:∀a t c u,RcO op A s (.int a t) (.int c u) (f a c)):∀{ns ms:List Int} {us ws:List Value},Fw (ns.map V.int) us->Fw (ms.map V.int) ws->
  oQ op A s us ws (List.zipWith (λa b=>(a==b,f a b)) ns ms)
 |[],_,_,ws,.nil,_=>.nil ws
 |_::_,[],us,_,_,.nil=>.nilr us
 |n::ns,m::ms,_,_,.cons r rr,.cons q qq=>by
  let#[t,1]:=(show ∃t,_=Value.int n t from r)
  let#[u,1]:=(show ∃t,_=Value.int m t from q)
  rwa[.cons (SeqAt.EqAt.int_int n t m u) (λ_=>hf n t m u) (nk hf rr qq)]
theorem ig:∀{ns ms:List Int},ns.map V.int=ms.map V.int->ns=ms
 |[],[],_=>rfl
 |[],_::_,h=>by cases h
 |_::_,[],h=>by cases h
 |n::ns,m::ms,h=>by
  rw[K1,K1] at h;injection h with h1 h2
  injection h1 with h1
  rw[h1,ig h2]
def Ite(K:Frag)(a:Addr):It:=
 #[λi H=>∃xs x,SqL K H a xs/\xs[i]? = some x,
  λi H v H'=>∃p x,v=.ref p/\H p=none/\H'=upd H p (.tup [.int i,x])/\∀xs,SqL K H a xs->xs[i]? = some x,
  λi H=>∃xs,SqL K H a xs/\xs.length<=i]
theorem vY(a e it:Addr)(hne:e≠it):
  kh P w K (.Tuple es ek ep) (Ite K a) [e,it] e (λi h=>(∃U,IsEnum h e it ((i:Nat):Int) U)/\h.IsListIter it a i) where
 mem:=by simp
 obj:=λi h ⟨⟨U,Y⟩,hi⟩ c O=>by
  simp only[Mv,Lm,MG] at O
  rcases O with rfl|rfl
  ·rwa[_,Y,λv z=>by cases z]
  ·let#[o,ho,_,d]:=hi;rwa[o,ho,λv z=>by rw[d] at z;cases z]
 keep:=λi h h' ⟨⟨U,Y⟩,hi⟩ k=>#[#[U,k e (by simp) _ Y],hi.at λo q=>k it (by simp) o q]
 item:=by
  intro X hP hw hK O i pins s σ H E I hf st hg;subst hP hw hK;let#[xs,x,qx,hx]:=hg;let#[#[U,Y],hi]:=st;let#[ix,rx,px,zx]:=I.list qx;let#[u,hu,ru]:=rx.get hx;have na:=gb (t:=false) I hf qx;simp only[Mv,Lm,MG,P7] at na;erw[wpAny_pyNext_enum_item Y hi px.isList (x:=u) (by simpa using hu) hne λh' a1 a2 a3 a4 hk=>?_]
  erw[0,wpAny_letOwnedTupleGo_enum a1 λZ a7 sb=>?_]
  have a8:∀c∈[e,it],c<s.heap.objs.size:=λc O=>by
   simp only[Mv,Lm,MG] at O
   rcases O with rfl|rfl
   ·rwa[GP Y]
   ·let#[o,ho,_]:=hi;rwa[GP ho]
  have nT:s.heap.objs.size∉[e,it]:=λO=>absurd (a8 _ O) (Lk _)
  have kk:∀c o,c∉[e,it]->s.heap.get? c=some o->Z.get? c=some o:=λc o O q=>by
   simp only[Mv,Lm,MG,P7] at O;exact(sb.2 c O.1).trans (hk c o O.1 O.2 q)
  have hT:Z.get? s.heap.objs.size=some { cls:=.type "tuple",data:=.seq (List.toArray [.int i s.toks,u]) }:=(sb.2 _ (λz=>nT (by simp[z]))).trans a3
  have fresh:H s.heap.objs.size=none:=I.hok.fresh (ge _);have gT:(s.heap.push { cls:=.type "tuple",data:=.seq (List.toArray [.int i s.toks,u]) }).get? s.heap.objs.size=some { cls:=.type "tuple",data:=.seq (List.toArray [.int i s.toks,u]) }:=z_ _ rfl;have I1:Inv X pins σ (upd H s.heap.objs.size (.tup [.int i,x])) { s with heap:=s.heap.push { cls:=.type "tuple",data:=.seq (List.toArray [.int i s.toks,u]) },toks:=s.toks+1 }:=
   I.laid (λb o q=>h_ _ q) (ge _) #[015210,by show 2<=sizeLine;decide,[.int i s.toks,u],.cons #[0] (.cons ru .nil),_,gT,1,0]
  have a6:∀c∈[e,it],FJ X pins (upd H s.heap.objs.size (.tup [.int i,x])) c:=λc O=>
   #[by rw[al (GA (a8 c O))];exact(hf c O).1,(hf c O).2]
  have I2:=I1.turnedN (h':=Z) (t':=s.toks+1) (fp:=[e,it]) (λc o O q=>by
   rcases get?_push_cases q with⟨e1,e2⟩|e1
   ·rw[e1,e2];rwa[hT]
   ·rwa[kk c o O e1]) a6
  erw[24,.ref s.heap.objs.size,_,I2,1,#[23,_,x,1,fresh,1,λa' q=>by rw[I.list_inj q qx];rwa[hx]],#[#[u,?_],a2.extBut sb.extBut hne.symm],λc O=>(a6 c O).1]
  have e1:((i+1:Nat):Int)=(i:Int)+1:=by push_cast;rfl
  rw[e1];rwa[a7]
 done:=by
  intro X hP hw hK O i pins s σ H E I hf st hg;subst hP hw hK;let#[xs,qx,a9]:=hg;let#[#[U,Y],hi]:=st;let#[ix,rx,px,zx]:=I.list qx;have lx:=rx.length;erw[wpAny_pyNext_enum_end (I.ok.hd O) Y hi px.isList (by simp;lia) λh' eb=>#[1,I.turnedN (fp:=[e,it]) (t':=s.toks) (λc o O q=>?_) hf]]
  simp only[Mv,Lm,MG,P7] at O;rwa[eb c o O.2 q]
 self:=λ_ _ _ _ _ st h=>by
  let#[#[U,Y],_]:=st;rwa[wpAny_pyIter_enum Y h]
def Fq(K:Frag)(ta:TA):TI:=λσ H R=>ta σ H λvs H1=>∃a,vs=[.ref a]/\(∃xs,SqL K H1 a xs)/\R (Ite K a) H1
theorem gh(K:Frag){a:Expr}(hK:X.K=K)(hg:Gl X "enumerate")(hm:X.mg "enumerate" = none)(ha:PA X [a] ta)(hs:starEach [a] X.env=[(false,eval a X.env)]:=by rfl):
  PI X (.Tuple es ek ep) (.Call (.Name "enumerate" p) [a] [] pos) (Fq K ta):=by
 subst hK;intro pins s σ H R I h;erw[Call_ (dM I hg hm boot_enumerate (LH (thn (ha pos pins s σ H _ I h) λus s1 ⟨vs,H1,U,r1,q1⟩=>?_) hs rfl))]
 let#[l,e,#[xs,qx],q]:=q1;subst e;cases r1 with
 |cons r rr=>
  cases rr;cases r;let#[ix,rx,px,zx]:=U.list qx;erw[call_enumerate_list px.isList λh' a1 a2 a3 a4=>?_]
  have Z:Inv X pins σ H1 { s1 with heap:=h',toks:=s1.toks }:=U.kept a4
  erw[wpAny_pyIter_enum (s:={ s1 with heap:=h' }) a1 ?_]
  erw[4015,_,[s1.heap.objs.size+1,s1.heap.objs.size],_,_,H1,1,Z,vY l (s1.heap.objs.size+1) s1.heap.objs.size (Nat.succ_ne_self _),#[#[.none,a1],a2],λb Y=>?_,q]
  have O:s1.heap.objs.size<=b:=by
   simp only[Mv,Lm,MG] at Y
   rcases Y with rfl|rfl
   ·rwa[Op _ _]
   ·rwa[ge _]
  rwa[U.fpOk O (U.hok.fresh O)]
theorem lU{tb:TS}(Pv:Nat->St->Hp->Prop)(h0:Pv 0 σ H)(hl:∀i σ H,i<=xs.length->Pv i σ H->SqL K H a xs)(hs:∀i x σ H p,xs[i]? = some x->Pv i σ H->H p=none->g (.ref p) σ (upd H p (.tup [.int i,x])) λσ2 H2=>tb { D with nx:=Pv (i+1),ct:=Pv (i+1),bk:=D.nx } σ2 H2)(hd:∀σ H,Pv xs.length σ H->D.nx σ H):
  ∃W:Nat->Nat->St->Hp->Prop,(∃m,W 0 m σ H)/\∀i m σ H,W i m σ H->
   ((Ite K a).stop i H/\D.nx σ H)\/((Ite K a).go i H/\∃N:St->Hp->Prop,(∀σ' H',N σ' H'->∃Y,Y<m/\W (i+1) Y σ' H')/\∀x H',(Ite K a).yld i H x H'->g x σ H' λσ2 H2=>tb { D with nx:=N,ct:=N,bk:=D.nx } σ2 H2):=by
 erw[λi m σ H=>m=xs.length-i/\i<=xs.length/\Pv i σ H,#[xs.length,by simp,Gw _,h0],?_]
 rintro i m σ H ⟨rfl,hi,p⟩;have q:=hl i σ H hi p
 by_cases O:i<xs.length
 ·erw[.inr #[#[21,xs,xs[i],q,by simp[O]],Pv (i+1),λσ' H' Z=>#[xs.length-(i+1),(),1,O,Z],λx H' y=>?_]]
  let#[l,x1,1,U,1,y]:=y;rwa[hs i x1 σ _ l (y xs q) p U]
 ·have e:i=xs.length:=()
  subst e;rwa[.inl #[#[xs,q,ge _],hd σ H p]]
def Dz(t1 t2:TE):TE:=λσ H Q=>t1 σ H Q\/t2 σ H Q
def tMk0(C:Addr):TE:=λσ H Q=>∀x dx,H x=none->H dx=none->dx≠x->Q (.ref x) (upd (upd H dx (.own x)) x (.ins C dx []))
section
variable {o:Expr}{ta t1 t2:TE}{t:TA}
theorem rW(h1:PE X e t1)(h2:PE X e t2):PE X e (Dz t1 t2):=λpins s σ H Q I h=>h.elim (h1 pins s σ H Q I) (h2 pins s σ H Q I)
structure Mk0 (K:Frag) (C:Addr):Prop where
 makes:makesIn K C=true
 init:findIn K (.ref C) "__init__"=some (some (.builtin "object.__init__"))
 kp:keepIn K (.ref C)=true
theorem Di(M:Mk0 X.K C)(hm:X.mg x=some (.ref C))(hg:Gl X x:=by rfl)(hdb:(x==("__debug__" : Str))=false:=by decide):PE X (.Call (.Name x p) [] [] pos) (tMk0 C):=by
 intro pins s σ H Q I h;erw[LV (iJ I hg hm ?_ hdb)];have Z:=h (s.heap.objs.size+1) s.heap.objs.size (I.hok.fresh (Nat.le_succ _)) (I.hok.fresh (ge _)) (GA (Ol _));have U:=Inv.made (C:=C) I;erw[PySem.W.callWith_K0 I.kIn M.kp (wpAny_call (wg I.kIn M.makes M.init (λself=>PySem.W.Looks.of_pure (PySem.W.oi_bind self)) ?_))]
 have Y:=PySem.W.makes_of (M:=model X.prog X.w) I.kIn M.makes;have hx:((s.heap.push emptyDict).push (instObj C s.heap.objs.size)).get? (s.heap.objs.size+1)=some (instObj C s.heap.objs.size):=by
  have:=z_ (s.heap.push emptyDict) (o:=instObj C s.heap.objs.size) rfl;rwa [MQ] at this
 have y1:PySem.W.Looks (model X.prog X.w) ((s.heap.push emptyDict).push (instObj C s.heap.objs.size)) (typeOf (.ref (s.heap.objs.size+1))) (.ref C):=(PySem.W.Looks.ld hx).andThen .now;have y2:PySem.W.Looks (model X.prog X.w) ((s.heap.push emptyDict).push (instObj C s.heap.objs.size)) (isInstance (.ref (s.heap.objs.size+1)) (.type "object")) true:=y1.andThen (Y.top.keeps λb o e=>h_ _ (h_ _ e))
 let#[O,g,d,tk,os]:=s;erw[codeAny_call_builtin PySem.W.oi_plain PySem.W.entry_oi (@PySem.W.check_slot (model X.prog X.w) _ _ _ "object.__init__" "object" "__init__" (.ref (O.objs.size+1)) [] [] _ PySem.W.oi_kind PySem.W.oi_split y2 (PySem.W.oi_args (.ref (O.objs.size+1))) ?_)];rw[PySem.W.oi_run];rwa[i_ (And.intro rfl #[22,V.ref (O.objs.size+1),_,U,1,Z])]
end
structure MtB (P:Program) (w:World) (K:Frag) (mg:Str->Option Value) (base:Heap) (k:Nat) (C:Addr) (m:Str) (sp:Sp):Prop where
 ex:∃f fd ps,`aC CX0 k f fd ps sp/\qg K C m f/\FT K fd ps []
 cl:Cls K C
structure MkB (P:Program) (w:World) (K:Frag) (mg:Str->Option Value) (base:Heap) (k:Nat) (C:Addr) (x:Str) (sp:Sp):Prop where
 ex:∃f fd ps,`aC CX0 k f fd ps sp/\Mk K C f/\FT K fd ps []
 at_:mg x=some (.ref C)
section
variable {m:Str}{k:Nat}{o:Expr}{ta:TE}{t:TA}
theorem cL{pl:Sem Bool}(M:MtB X.prog X.w X.K X.mg X.base k C m sp)(hr:FD k X.A)(he:PE X o ta)(ha:PA X (e::es) t)(hst:starEach (e::es) X.env=(false,eval e X.env)::starEach es X.env:=by rfl)(hpl:(backTo pos (starEach es X.env)).any (·.1)=false:=by rfl)(ht:eval (.Call (.Attribute o m apos) (e::es) [] pos) X.env=(do
   let ov <- eval o X.env
   standAt apos.atName
   let (f,first) <- holding [ov] (getMethod ov m pl)
   callWith pos f first (backTo pos (starEach (e::es) X.env)) (backToKw pos (keywordEach [] X.env))):=by rfl):
  PE X (.Call (.Attribute o m apos) (e::es) [] pos) (iD C m sp [] E0 ta t):=by
 let#[f,fd,ps,F,U,O]:=M.ex;rwa[vg he M.cl U F hr O .nil ve ha hst hpl ht]
theorem pc(M:MkB X.prog X.w X.K X.mg X.base k C x sp)(hr:FD (k+1) X.A)(ha:PA X (e::es) t)(hg:Gl X x:=by rfl)(hdb:(x==("__debug__" : Str))=false:=by decide)(he:starEach (e::es) X.env=(false,eval e X.env)::starEach es X.env:=by rfl)(hpl:(backTo pos (starEach es X.env)).any (·.1)=false:=by rfl):
  PE X (.Call (.Name x p) (e::es) [] pos) (zO C sp [] E0 t):=by
 let#[f,fd,ps,F,U,O]:=M.ex;rwa[uE U F hr hg M.at_ O .nil ve ha hdb he hpl]
end
def nrm(a b:Int):Int×Int:=if b<0 then(a.fdiv (-(Int.gcd a b:Int)),b.fdiv (-(Int.gcd a b:Int))) else(a.fdiv (Int.gcd a b:Int),b.fdiv (Int.gcd a b:Int))
theorem km(a b:Int)(h:b≠0):∃(g:Nat) (O U:Int),0<g/\Int.gcd a b=g/\a=g*O/\b=g*U/\Int.gcd O U=1/\nrm a b=(if b<0 then(-O,-U) else(O,U)):=by
 have hg:0<Int.gcd a b:=Int.gcd_pos_of_ne_zero_right a h;let#[O,Z]:=Int.gcd_dvd_left (a:=a) (b:=b);let#[U,hb]:=Int.gcd_dvd_right (a:=a) (b:=b);have Y:(Int.gcd a b:Int)≠0:=()
 erw[35,Int.gcd a b,O,U,hg,1,Z,hb,?_,?_]
 ·have e:Int.gcd (Int.gcd a b*O) (Int.gcd a b*U)=Int.gcd a b*Int.gcd O U:=by
   rw[Int.gcd_mul_left];rfl
  rw[<- Z,<- hb] at e;have:Int.gcd a b*1=Int.gcd a b*Int.gcd O U:=()
  exact(Nat.eq_of_mul_eq_mul_left hg this).symm
 ·unfold nrm;generalize hG:(Int.gcd a b:Int)=G at *;have f1:a.fdiv G=O:=by rw[Z];rwa[K4 _ Y]
  have f2:b.fdiv G=U:=by rw[hb];rwa[K4 _ Y]
  have f3:a.fdiv (-G) = -O:=by rw[Z,show G*O=(-G)*(-O) by rw[Int.neg_mul_neg]];rwa[K4 _ ()]
  have f4:b.fdiv (-G) = -U:=by rw[hb,show G*U=(-G)*(-U) by rw[Int.neg_mul_neg]];rwa[K4 _ ()]
  rw[f1,f2,f3,f4]
theorem iM(a b:Int)(h:b≠0):0<(nrm a b).2:=by
 let#[g,Y,O,hg,_,Z,hb,_,e]:=km a b h;rw[e]
 by_cases U:b<0
 ·rw[u_ U];show 0 < -O;have:¬0<=O:=λz=>by have:=Int.mul_nonneg (show(0:Int)<=g by lia) z;lia
  lia
 ·rw[t_ U];show 0<O;have:¬O<=0:=λz=>by have:=Int.mul_nonneg (show(0:Int)<=g by lia) (show 0 <= -O by lia);rw[Int.mul_neg] at this;lia
  lia
theorem iS(a b:Int)(h:b≠0):Int.gcd (nrm a b).1 (nrm a b).2=1:=by
 let#[g,O,U,hg,_,Y,Z,c,e]:=km a b h;rw[e]
 split
 ·show Int.gcd (-O) (-U)=1;rw[Int.neg_gcd,Int.gcd_neg];rwa[c]
 ·rwa[c]
theorem lF(a b:Int)(h:b≠0):(nrm a b).1*b=a*(nrm a b).2:=by
 let#[g,O,U,hg,_,Y,Z,c,e]:=km a b h;rw[e]
 split
 ·show -O*b=a * -U;rw[Y,Z,Int.neg_mul,Int.mul_neg,MY,MS]
 ·show O*b=a*U;rw[Y,Z,MY,MS]
theorem gH(g:Nat)(x:Int)(hg:0<g):x.natAbs<=((g:Int)*x).natAbs:=by
 rw[Nj,K5];rwa[Nz _ hg]
theorem oS(a b:Int)(h:b≠0):(nrm a b).1.natAbs<=a.natAbs/\(nrm a b).2.natAbs<=b.natAbs:=by
 let#[g,O,U,Y,_,Z,hb,c,e]:=km a b h;have h1:=gH g O Y;have h2:=gH g U Y;rw[<- Z] at h1;rw[<- hb] at h2;rw[e]
 split
 ·rwa[by show(-O).natAbs<=_;lia,by show(-U).natAbs<=_;lia]
 ·rwa[h1,h2]
theorem fO(a b:Int)(h:0<b):nrm a b=(a,b)↔Int.gcd a b=1:=by
 let#[g,U,Y,hg,O,Z,hb,c,e]:=km a b ()
 constructor
 ·intro z;have:=iS a b ()
  rw[z] at this;rwa[this]
 ·intro z;rw[z] at O;subst O;rw[e,t_ ()]
  rw[show U=a by lia,show Y=b by lia]
theorem EO{k m n:Int}(h:Int.gcd k m=1)(hd:k ∣ m*n):k ∣ n:=Int.natAbs_dvd_natAbs.mp (Nat.Coprime.dvd_of_dvd_mul_left (show Nat.Coprime k.natAbs m.natAbs from h) (by rw[<- Nj];rwa[Int.natAbs_dvd_natAbs.mpr hd]))
theorem BN{n d n' d':Int}(h1:0<d)(h2:0<d')(c1:Int.gcd n d=1)(c2:Int.gcd n' d'=1)(e:n*d'=n'*d):n=n'/\d=d':=by
 have U:Int.gcd d n=1:=by rw[Int.gcd_comm];rwa[c1]
 have Y:Int.gcd d' n'=1:=by rw[Int.gcd_comm];rwa[c2]
 have d1:d ∣ d':=EO U (show d ∣ n*d' from#[n',by rw[e,MZ]])
 have d2:d' ∣ d:=EO Y (show d' ∣ n'*d from#[n,by rw[<- e,MZ]])
 have O:d=d':=Int.dvd_antisymm () () d1 d2
 subst O;rwa[Int.eq_of_mul_eq_mul_right () e,1]
theorem zL{Q:VK}{σ:St}(f:V->V)(hσ:bG src σ=none::rest)(hx:SqL K H0 a xs)(hl:xs.length<=sizeLine)(he:∀(i:Nat) x H (R:VK),xs[i]? = some x->Fu H0 H->R (f x) H->te (some x::rest) H R)(hd:∀acc H,H0 acc=none->Fu H0 H->H acc=some (.lst (xs.map f))->Q (.ref acc) H):
  bK (Itl K a) src (bV 0) jQ te σ H0 Q:=by
 intro acc O;rw[hσ];have a7:(xs.map f).length=xs.length:=k_ ..;erw[kW (n:=xs.length) (λi zs σ H=>Fu H0 H/\zs=(xs.map f).take i/\∃u,σ=u::rest) () #[Fu.new O,1,none,1] ?_ ?_ ?_ ?_]
 ·rintro i zs σ H hi Z ⟨U,_⟩;rwa[21,xs,xs[i],U.seq hx,by simp]
 ·rintro zs σ H Z ⟨U,_⟩;rwa[xs,U.seq hx,ge _]
 ·rintro i zs σ H x H' hi Z a6 ⟨U,ez,u,rfl⟩ ⟨rfl,gx⟩;have Y:=gx xs (U.seq hx);show te (some x::rest) _ _;erw[he i x _ _ Y U ?_];erw[zs,Z,(),zs++[f x],ae,by rw[y_,GV];lia,U.put O,?_,0]
  rw[yp f xs i x Y,ez]
 ·rintro zs σ H Z a6 ⟨U,ez,_⟩;erw[hd acc H O U ?_];rw[Z,ez,Ob ()]
end L2
set_option exponentiation.threshold 5000
namespace L2
open PySem PySem.Spec PyProof.Rows
variable {P prog:Program}{x qual name:Str}{y v:V}{j n t' e1 ep tk:Nat}{w:World}{K:Frag}{mg:Str->Option Value}{st:Stmt}{f C d D kS it l c0 P0 c':Addr}{oc doc pm cdv cd u ctv:Value}{od an:Option Addr}{osl:Array (Option Value)}{X:Cx}{N ps:List Str}{scope:Scope}{A:Around}{outer:List Env}{s₀ s:Shared}{H₀ H H' H0:Hp}{E Q:Value->Shared->Prop}{pins:List (Addr×Obj)}{σ:St}{h' h:Heap}{e value body tg:Expr}{cpos pos apos tp p2 lpos:Pos}{es:Array DictEntry}{sp:Sp}{p:Array Nat}{te ta tl tb:TE}{us:List Value}{α β κ:Type}{c:Nat->Nat->Bool}{q:Addr×Obj}{kvs:List (List Key×V)}{xs ys:List V}{vs:List (Key×Value)}{env:Env}{R:List Value->Shared->Prop}{B:List V->Prop}{tes ifs:List Expr}{g:TG}{src:List (Option Nat)}{tt:TT}{ns:List Int}{params:Arguments}{items:Array Value}{led:Bool}
def bu(P:Int)(x y:Int×Int):Int×Int:=if P=0 then nrm (x.1*y.2+y.1*x.2) (x.2*y.2) else((x.1+y.1)%P,1)
def EX(P:Int)(x y:Int×Int):Int×Int:=if P=0 then nrm (x.1*y.2-y.1*x.2) (x.2*y.2) else((x.1-y.1)%P,1)
def gF(P:Int)(x y:Int×Int):Int×Int:=if P=0 then nrm (x.1*y.1) (x.2*y.2) else((x.1*y.1)%P,1)
def OkN(P:Int)(x:Int×Int):Prop:=(P=0/\0<x.2/\Int.gcd x.1 x.2=1)\/(P≠0/\0<=x.1/\x.1<P/\x.2=1)
theorem pK{a b:Int}(h:b≠0):OkN 0 (nrm a b):=.inl #[1,iM a b h,iS a b h]
theorem uH{P a:Int}(h:0<=P)(h0:P≠0):OkN P (a%P,1):=.inr #[h0,Lr a h0,La a (),1]
theorem OkN.den{P:Int}{x:Int×Int}(h:OkN P x):0<x.2:=by
 rcases h with⟨_,h,_⟩|⟨_,_,_,h⟩<;>lia
theorem dD{x y:Int×Int}(h1:0<x.2)(h2:0<y.2):x.2*y.2≠0:=λz=>by have:=Int.mul_pos h1 h2;lia
theorem iO{P:Int}{x y:Int×Int}(hP:0<=P)(h1:OkN P x)(h2:OkN P y):OkN P (bu P x y):=by
 unfold bu
 split
 ·rename_i h;subst h;rwa[pK (dD h1.den h2.den)]
 ·rwa[uH hP ‹_›]
theorem Bo{P:Int}{x y:Int×Int}(hP:0<=P)(h1:OkN P x)(h2:OkN P y):OkN P (gF P x y):=by
 unfold gF
 split
 ·rename_i h;subst h;rwa[pK (dD h1.den h2.den)]
 ·rwa[uH hP ‹_›]
theorem eZ{P:Int}(hP:0<=P)(h2:P≠1):OkN P (0,1):=by
 by_cases h:P=0
 ·rwa[.inl #[h,#[],#[]]]
 ·rwa[.inr #[h,#[],by show(0:Int)<P;lia,1]]
def Sz(k:Nat)(x:Int×Int):Prop:=x.1.natAbs<2^k/\x.2.natAbs<2^k
theorem kN{a b:Int}{i:Nat}(h1:a.natAbs<2^i)(h2:b.natAbs<2^j):(a*b).natAbs<2^(i+j):=by
 rw[Nj,Nat.pow_add];rwa[NJ h1 h2]
theorem DQ{a b:Int}{k:Nat}(h1:a.natAbs<2^k)(h2:b.natAbs<2^k):(a+b).natAbs<2^(k+1)/\(a-b).natAbs<2^(k+1):=by
 rw[Nat.pow_succ];lia
theorem iN{i:Nat}(h:i<=j):2^i<=2^j:=Nat.pow_le_pow_right #[] h
theorem Sz.mono{i:Nat}{x:Int×Int}(h:Sz i x)(hij:i<=j):Sz j x:=#[GS h.1 (iN hij),GS h.2 (iN hij)]
theorem rT{a b:Int}{k:Nat}(hb:b≠0)(h1:a.natAbs<2^k)(h2:b.natAbs<2^k):Sz k (nrm a b):=#[Li (oS a b hb).1 h1,Li (oS a b hb).2 h2]
theorem rM{P a:Int}(h:0<=P)(h0:P≠0)(h9:P<=9973){k:Nat}(hk:14<=k):Sz k (a%P,1):=by
 have h1:=Lr a h0;have h2:=La a (show 0<P by lia)
 have h3:2^14<=2^k:=iN hk;rwa[by show(a%P).natAbs<2^k;lia,by show(1:Int).natAbs<2^k;lia]
theorem gB{P:Int}{x y:Int×Int}{i:Nat}(hP:0<=P)(h9:P<=9973)(o1:OkN P x)(o2:OkN P y)(h1:Sz i x)(h2:Sz j y)(hi:14<=i):Sz (i+j+1) (bu P x y)/\Sz (i+j+1) (EX P x y)/\Sz (i+j+1) (gF P x y):=by
 have d:=dD o1.den o2.den;have U:=kN h1.1 h2.2;have O:=kN h2.1 h1.2;rw[Nat.add_comm j i] at O;have Y:=kN h1.2 h2.2;have Z:=kN h1.1 h2.1;have a:=DQ U O;have le:2^(i+j)<=2^(i+j+1):=iN ()
 erw[?_,?_,?_]
 ·unfold bu
  split
  ·rwa[rT d a.1 ()]
  ·rwa[rM hP ‹_› h9 ()]
 ·unfold EX
  split
  ·rwa[rT d a.2 ()]
  ·rwa[rM hP ‹_› h9 ()]
 ·unfold gF
  split
  ·rwa[rT d () ()]
  ·rwa[rM hP ‹_› h9 ()]
structure FunD (K:Frag) (x qual:Str) (st:Stmt) (f:Addr) (fd:FuncData):Prop where
 ex:∃(oc:Value) (od:Option Addr) (dV kV doc pm:Value) (an:Option Addr) (cdv ct:Value) (osl:Array (Option Value)),
  fd=fnOf x qual (bv st) (aW st) (am st) dV kV doc pm an cdv ct/\K.lookup f=some #[oc,od,.func fd,osl]/\codeIn K cdv qual=true
 kp:keepIn K (.ref f)=true
section
variable {base:Heap}
theorem uG{dV kV ct:Value}(l:K.lookup f=some #[oc,od,.func (fnOf x qual (bv st) (aW st) (am st) dV kV doc pm an cdv ct),osl])(c:codeIn K cdv qual=true)(k:keepIn K (.ref f)=true):FunD K x qual st f (fnOf x qual (bv st) (aW st) (am st) dV kV doc pm an cdv ct):=#[#[404022,oc,od,dV,kV,doc,pm,an,cdv,ct,osl,1,l,c],k]
end
structure Fly (P:Program) (w:World) (outer:List Env) (H:Hp) (s:Shared) (x:Addr) (cls:Value) (B:Heap) (H':Hp) (s':Shared):Prop where
 os:s'.os=s.os
 bare:AllBare s'.gens
 fly:∃a0,Heap.FlyingW B outer x cls a0 s'.heap
 keep:∀b o,s.heap.get? b=some o->H b=none->b∉frs outer->B.get? b=some o
 there:∀b o,s.heap.get? b=some o->b∉frs outer->∃o',B.get? b=some o'
 slot:∀b o,s.heap.get? b=some o->b∈frs outer->∃sl,s'.heap.get? b=some { o with slots:=sl }
 free:∀b o,s.heap.get? b=some o->H b=none->H' b=none
 tups:∀b xs,H b=some (.tup xs)->H' b=some (.tup xs)
 frzs:∀b o u,H b=some (.frz o u)->H' b=some (.frz o u)
 tbls:∀b ps,H b=some (.tbl ps)->∃more,H' b=some (.tbl (ps++more))
 hok:HOk P w H' B
def CXE(P:Program)(w:World):CXT:=λouter H s E e s'=>∃x cls B H',e=.ref x/\Fly P w outer H s x cls B H' s'/\E cls none H'
theorem pA:dq (CXE P w) X E0:=λ_ _ _ _ _ _ _ ⟨_,_,_,_,_,_,z⟩=>z.elim
section
variable {base:Heap}{E:XK}
theorem xU{e:Addr}{cls:Value}{args:List Value}(I:Inv (cD (CXE P w) P w K mg base N qual scope f cd A outer s₀ H₀ E) pins σ H s)(hx:Heap.MadeExcOf s.heap h' e cls args)(q:E cls none H):
  (cD (CXE P w) P w K mg base N qual scope f cd A outer s₀ H₀ E).xe (.ref e) { s with heap:=h' }:=by
 show wpAny (model P w) (A.deeper (envOfC qual scope s₀.heap.objs.size f cd)) (leaving (envOfC qual scope s₀.heap.objs.size f cd) (.ref e)) (λ_ Z=>CXE P w outer H₀ s₀ E (.ref e) Z) (λe' Z=>CXE P w outer H₀ s₀ E e' Z) { s with heap:=h' }
 have a8:s.heap.FunFrames base (envOfC qual scope s₀.heap.objs.size f cd::outer):=I.stack;have O:∀b:Addr,b∉(cD (CXE P w) P w K mg base N qual scope f cd A outer s₀ H₀ E).ex:=λb z=>absurd (show b∈([]:List Addr) from z) (by simp)
 have nL:∀b o,s₀.heap.get? b=some o->b∉frs outer->b∉frs (envOfC qual scope s₀.heap.objs.size f cd::outer):=λb o U Y hm=>by
  rcases GH.mp (I.stkSub b hm) with z|z
  ·have a6:=GP U;rw[show b=s₀.heap.objs.size from z] at a6
   rwa[absurd a6 (Lk _)]
  ·rwa[Y z]
 erw[wpAny_leaves_madeW (base:=PySem.W.hideAll s.heap (frs (envOfC qual scope s₀.heap.objs.size f cd::outer))) (h:=s.heap) I.ok.frames rfl (λb o z=>PySem.W.of_hideAll _ z)
  (PySem.W.funFrames_hide a8 λenv he a ha=>OD.mpr #[env,he,ha]) hx λa' t fl _ _ up=>?_]
 erw[42,e,cls,_,H,1,#[I.os,I.bare,#[_,fl],λb o U n Y=>?_,λb o U Y=>?_,λb o U Y=>?_,λb o U n=>I.base.free b o U n (O b),I.base.tups,I.base.frzs,I.base.tbls,λa ob ea=>?_],q]
 ·rwa[hideAll_get _ (I.base.keep b o U n Y (O b)) (nL b o U Y)]
 ·let#[o',e2]:=I.base.there b o U (O b);rwa[o',hideAll_get _ e2 (nL b o U Y)]
 ·let#[sl,e2]:=I.base.slot b o U (I.ok.frf b Y) Y (O b);let#[_,o3,e3,hd]:=I.ok.funs.mem Y;have a7:(cD (CXE P w) P w K mg base N qual scope f cd A outer s₀ H₀ E).s₀.heap.get? b=some o:=U;rw[a7] at e3;cases e3;let#[a9,e4]:=up b _ (hx.keeps b _ e2) hd;rwa[a9,e4]
 ·refine(I.hok a ob ea).stay (λb u Y e2=>hideAll_get _ e2 λhm=>?_) (λ_ z=>z) λ_ _ z=>z
  have hn:=I.stkFree b hm
  rcases Y with z|z
  ·rw[z,ea] at hn;cases hn
  ·rw[z] at hn;cases hn
theorem xg:dq (CXE P w) (cD (CXE P w) P w K mg base N qual scope f cd A outer s₀ H₀ E) E:=by
 intro pins σ H s e s' I hx;let#[x,cls,B,H',1,F,q]:=hx;show wpAny (model P w) (A.deeper (envOfC qual scope s₀.heap.objs.size f cd)) (leaving (envOfC qual scope s₀.heap.objs.size f cd) (.ref x)) (λ_ Z=>CXE P w outer H₀ s₀ E (.ref x) Z) (λe' Z=>CXE P w outer H₀ s₀ E e' Z) s'
 have U:∀b:Addr,b∉(cD (CXE P w) P w K mg base N qual scope f cd A outer s₀ H₀ E).ex:=λb z=>absurd (show b∈([]:List Addr) from z) (by simp)
 have nL:∀b o,s₀.heap.get? b=some o->b∉frs outer->b∉frs (envOfC qual scope s₀.heap.objs.size f cd::outer):=λb o O Y hm=>by
  rcases GH.mp (I.stkSub b hm) with z|z
  ·have a6:=GP O;rw[show b=s₀.heap.objs.size from z] at a6
   rwa[absurd a6 (Lk _)]
  ·rwa[Y z]
 let#[a0,fl]:=F.fly;erw[wpAny_leaves_onW (base:=B) I.ok.frames rfl fl λac a8 up=>?_]
 erw[42,x,cls,B,H',1,#[F.os.trans I.os,F.bare,#[_,a8],λb o O n Y=>?_,λb o O Y=>?_,λb o O Y=>?_,λb o O n=>?_,λb xs O=>F.tups b xs (I.base.tups b xs O),λb o u O=>F.frzs b o u (I.base.frzs b o u O),λb ps O=>?_,F.hok],q]
 ·rwa[F.keep b o (I.base.keep b o O n Y (U b)) (I.base.free b o O n (U b)) (nL b o O Y)]
 ·let#[o',e2]:=I.base.there b o O (U b);rwa[F.there b o' e2 (nL b o O Y)]
 ·let#[sl,e2]:=I.base.slot b o O (I.ok.frf b Y) Y (U b);let#[_,o3,e3,hd]:=I.ok.funs.mem Y;have a7:(cD (CXE P w) P w K mg base N qual scope f cd A outer s₀ H₀ E).s₀.heap.get? b=some o:=O;rw[a7] at e3;cases e3;have a9:b∈frs (envOfC qual scope s₀.heap.objs.size f cd::outer):=by
   let#[env,he,hf]:=OD.mp Y;rwa[OD.mpr #[env,GG _ he,hf]]
  let#[ad,e4]:=F.slot b _ e2 a9;let#[a',e5]:=up b _ e4 hd;rwa[a',e5]
 ·let#[o',e2]:=I.base.there b o O (U b);rwa[F.free b o' e2 (I.base.free b o O n (U b))]
 ·let#[m1,e2]:=I.base.tbls b ps O;let#[m2,e3]:=F.tbls b _ e2;rwa[m1++m2,by rw[e3,Array.append_assoc]]
end
abbrev sC:List Value:=[.type "ValueError",.type "Exception",.type "BaseException",.type "object"]
abbrev A0(K:Frag)(C:Addr):Prop:=PySem.W.excIn K C sC "ValueError.__new__"=true
theorem Ao(X:K.In h)(q:A0 K C):∃bm N nm qn bs hdct sn sub ab col dd k0 k1 k2 k3 k5 mN,
  h.get? C=some (excClassObj nm qn C N bs bm hdct sn sub ab col dd k0 k1 k2 k3 k5 "ValueError.__new__")/\h.Ns N mN/\mN "__init__" = none/\OwnTail h sC bm:=by
 have O:=q;unfold A0 PySem.W.excIn at O;cases hl:K.lookup C with
 |none=>rw[hl] at O;cases O
 |some ob=>
  rw[hl] at O;let#[oc,od,a6,osl]:=ob
  split at O
  ·rename_i dz cz sz heq;cases heq
   split at O
   ·rename_i Cz bz z0 z1 z2 z3 nz z5 hm hs;rw[Lp,Lp,Lp,Lp,Lp] at O;let#[#[#[#[#[w1,w2],w3],w4],Y],w6]:=O;let#[c1,c2,c3,c4,c5,c6,c7,c8,c9,Z,U]:=cz;have e1:=NO.mp w1;have e2:=NO.mp w2;have e6:=NO.mp w6;have e3:U=false:=by simpa using w3
    have em:c3=.ref Cz::bz:=hm;subst e1 e2 e3 em;have es:osl = (List.toArray [z0,z1,z2,z3,some (.builtin "ValueError.__new__"),z5]):=by
     cases osl;simp only at hs;rw[hs]
    subst es;rwa[4040404013,bz,_,_,_,_,_,_,_,_,_,_,_,_,_,_,_,_,X _ _ hl,.of_isNs (PySem.W.isNs_of_in X Y),PySem.W.nsMap_none_of_in X Y e6,PySem.W.tail_of_in X w4]
   ·cases O
  ·cases O
def D5(E:XK)(C:Addr)(t:TA):TS:=λ_ σ H=>t σ H λvs H1=>vs.length<=sizeLine/\E (.ref C) none H1
section
variable {base:Heap}{E:XK}
theorem ii{np:Pos}{e₀:Expr}{es:List Expr}{t:TA}(hC:A0 K C)(hm:mg x=some (.ref C))(ha:PA (cD (CXE P w) P w K mg base N qual scope f cd A outer s₀ H₀ E) (e₀::es) t)(hg:Gl (cD (CXE P w) P w K mg base N qual scope f cd A outer s₀ H₀ E) x:=by rfl)(hd:(x==("__debug__" : Str))=false:=by decide)(he:starEach (e₀::es) (cD (CXE P w) P w K mg base N qual scope f cd A outer s₀ H₀ E).env=(false,eval e₀ (cD (CXE P w) P w K mg base N qual scope f cd A outer s₀ H₀ E).env)::starEach es (cD (CXE P w) P w K mg base N qual scope f cd A outer s₀ H₀ E).env:=by rfl)(hpl:(backTo cpos (starEach es (cD (CXE P w) P w K mg base N qual scope f cd A outer s₀ H₀ E).env)).any (·.1)=false:=by rfl):
  PS (cD (CXE P w) P w K mg base N qual scope f cd A outer s₀ H₀ E) (.Raise (some (.Call (.Name x np) (e₀::es) [] cpos)) none pos) (D5 E C t):=by
 intro pins s σ H D I h;let#[bm,Nn,nm,qn,bs,hdct,sn,sub,ab,col,dd,k0,k1,k2,k3,k5,mN,Z,hN,a6,T]:=Ao I.mod.kin hC;have O:(backTo cpos (starEach (e₀::es) (cD (CXE P w) P w K mg base N qual scope f cd A outer s₀ H₀ E).env)).any (·.1)=false:=by
  rw[he];show(false || (backTo cpos (starEach es _)).any (·.1))=false
  rw[hpl];rfl
 erw[wpAny_Raise_call_subU (C:=C) (nm:=nm) (q:=qn) (N:=Nn) (bs:=bs) (bm:=bm) (hdct:=hdct) (sn:=sn) (sub:=sub) (ab:=ab) (col:=col) (dd:=dd) (k0:=k0) (k1:=k1) (k2:=k2) (k3:=k3) (k5:=k5)
  PySem.F.excBase_ValueError (bmB:=sC) (by decide +kernel) PySem.F.excBase_ValueError (mN:=mN) (T.hasType PySem.F.excBase_ValueError.hasBase) (I.ok.hd rfl) O a6 (iJ I hg hm #[1,?_] hd)]
 have a1:=ha cpos pins s σ H _ I h;rw[he] at a1 ⊢;erw[Calls.evalArgs_plain (LF a1 (λus s2 z=>?_) λ_ _ z=>z)]
 let#[vs,H2,Y,r,U,q]:=z;rwa[1,by rw[<- r.length];rwa[U],Y.bk _ _ Z,hN.keeps Y.bk,T.keeps Y.bk,λh' e mk=>xU Y mk q]
end
section
variable {base:Heap}
theorem Fun.okX{fd:FuncData}{k:Nat}(F:Fun K x qual st f fd)(S:Fv N ps (am st))(len:∀vs H Q E,sp vs H Q E->vs.length=ps.length)(hbody:∀(cdv:Value) (A:Around) (outer:List Env) (s:Shared) (H:Hp) (vs:List V) (Q:VK) (E:XK),FD k (A.deeper (envOfC qual (am st) s.heap.objs.size f cdv))->sp vs H Q E->
   ∃t,PSs (cD (CXE P w) P w K mg base N qual (am st) f cdv A outer s H E) (aW st) t/\t { nx:=λ_ H'=>Q .non H',rt:=Q } (cK N vs) H):`aC (CXE P w) (k+1) f fd ps sp:=by
 let#[oc,od,kV,doc,pm,an,cdv,ct,osl,1,lk,O]:=F.ex;rwa[uQ lk O S len λA outer s H vs Q E Y U=>hbody cdv A outer s H vs Q E Y U]
theorem FunD.okX{fd:FuncData}{k:Nat}(F:FunD K x qual st f fd)(S:Fv N ps (am st))(len:∀vs H Q E,sp vs H Q E->vs.length=ps.length)(hbody:∀(cdv:Value) (A:Around) (outer:List Env) (s:Shared) (H:Hp) (vs:List V) (Q:VK) (E:XK),FD k (A.deeper (envOfC qual (am st) s.heap.objs.size f cdv))->sp vs H Q E->
   ∃t,PSs (cD (CXE P w) P w K mg base N qual (am st) f cdv A outer s H E) (aW st) t/\t { nx:=λ_ H'=>Q .non H',rt:=Q } (cK N vs) H):`aC (CXE P w) (k+1) f fd ps sp:=by
 let#[oc,od,dV,kV,doc,pm,an,cdv,ct,osl,1,lk,O]:=F.ex;rwa[uQ lk O S len λA outer s H vs Q E Y U=>hbody cdv A outer s H vs Q E Y U]
end
structure sf (P:Program) (w:World) (K:Frag) (mg:Str->Option Value) (base:Heap) (k:Nat) (x:Str) (sp:Sp):Prop where
 ex:∃f fd ps,`aC (CXE P w) k f fd ps sp/\mg x=some (.ref f)/\keepIn K (.ref f)=true/\FT K fd ps []
structure Aa (P:Program) (w:World) (K:Frag) (mg:Str->Option Value) (base:Heap) (k:Nat) (C:Addr) (m:Str) (dvs:List V) (sp:Sp):Prop where
 ex:∃f fd ps ds,`aC (CXE P w) k f fd ps sp/\qg K C m f/\FT K fd ps ds/\Fw dvs ds
 cl:Cls K C
structure Bm (P:Program) (w:World) (K:Frag) (mg:Str->Option Value) (base:Heap) (k:Nat) (C:Addr) (x:Str) (sp:Sp):Prop where
 ex:∃f fd ps,`aC (CXE P w) k f fd ps sp/\Mk K C f/\FT K fd ps []
 at_:mg x=some (.ref C)
section
variable {m:Str}{k:Nat}{dvs:List V}{p:Pos}{o:Expr}{es:List Expr}{t:TA}{E:XK}
theorem yk(F:sf X.prog X.w X.K X.mg X.base k x sp)(hr:FD k X.A)(hx:dq (CXE X.prog X.w) X E)(ha:PA X (e::es) t)(hg:Gl X x:=by rfl)(hdb:(x==("__debug__" : Str))=false:=by decide)(he:starEach (e::es) X.env=(false,eval e X.env)::starEach es X.env:=by rfl)(hpl:(backTo pos (starEach es X.env)).any (·.1)=false:=by rfl):
  PE X (.Call (.Name x p) (e::es) [] pos) (xA sp [] E t):=by
 let#[f,fd,ps,F,U,hk,O]:=F.ex;rwa[uI F hr hg U hk O .nil hx ha hdb he hpl]
theorem yt{pl:Sem Bool}(M:Aa X.prog X.w X.K X.mg X.base k C m dvs sp)(hr:FD k X.A)(hx:dq (CXE X.prog X.w) X E)(he:PE X o ta)(ha:PA X (e::es) t)(hst:starEach (e::es) X.env=(false,eval e X.env)::starEach es X.env:=by rfl)(hpl:(backTo pos (starEach es X.env)).any (·.1)=false:=by rfl)(ht:eval (.Call (.Attribute o m apos) (e::es) [] pos) X.env=(do
   let ov <- eval o X.env
   standAt apos.atName
   let (f,first) <- holding [ov] (getMethod ov m pl)
   callWith pos f first (backTo pos (starEach (e::es) X.env)) (backToKw pos (keywordEach [] X.env))):=by rfl):
  PE X (.Call (.Attribute o m apos) (e::es) [] pos) (iD C m sp dvs E ta t):=by
 let#[f,fd,ps,ds,F,U,O,Y]:=M.ex;rwa[vg he M.cl U F hr O Y hx ha hst hpl ht]
theorem D8(M:Bm X.prog X.w X.K X.mg X.base k C x sp)(hr:FD (k+1) X.A)(hx:dq (CXE X.prog X.w) X E)(ha:PA X (e::es) t)(hg:Gl X x:=by rfl)(hdb:(x==("__debug__" : Str))=false:=by decide)(he:starEach (e::es) X.env=(false,eval e X.env)::starEach es X.env:=by rfl)(hpl:(backTo pos (starEach es X.env)).any (·.1)=false:=by rfl):
  PE X (.Call (.Name x p) (e::es) [] pos) (zO C sp [] E t):=by
 let#[f,fd,ps,F,U,O]:=M.ex;rwa[uE U F hr hg M.at_ O .nil hx ha hdb he hpl]
end
structure XCl (K:Frag) (D:Addr):Prop where
 ek:A0 K D
 ga:findIn K (.ref D) "__getattribute__"=some (some (.builtin "BaseException.__getattribute__"))
 gt:findIn K (.ref D) "__getattr__"=some none
 ca:findIn K (.ref D) "__class__"=some (some (.builtin "object.__class__"))
 mo:PySem.W.mroIn K D (.type "object")=some true
 mb:PySem.W.mroIn K D (.type "BaseException")=some true
 dg:PySem.W.specialIn K (.builtin "object.__class__") "__get__"=some (some (.builtin "getset_descriptor.__get__"))
 dt:PySem.W.takesIn K (.builtin "object.__class__")=some true
theorem yq{d:Value}(h:(us++[d]).length=3):∃a b,us=[a,b]:=by
 rw[y_,GV] at h
 match us,h with
 |[a,b],_=>rwa[20,a,b,1]
section
variable {m:Str}{k:Nat}{p:Pos}{o:Expr}{es:List Expr}{t:TA}
theorem cu{pl:Sem Bool}(M:MtB X.prog X.w X.K X.mg X.base k C m sp)(hr:FD k X.A)(he:PE X o ta)(ht:eval (.Call (.Attribute o m apos) [] [] pos) X.env=(do
   let ov <- eval o X.env
   standAt apos.atName
   let (f,first) <- holding [ov] (getMethod ov m pl)
   callWith pos f first (backTo pos (starEach [] X.env)) (backToKw pos (keywordEach [] X.env))):=by rfl):
  PE X (.Call (.Attribute o m apos) [] [] pos) (iD C m sp [] E0 ta cI):=by
 let#[f,fd,ps,F,U,O]:=M.ex;rwa[zQ he M.cl U F hr O .nil ve ht]
end
open PySem.W
def ev(c:Nat->Nat->Bool):KasT α->α
 |.ret a=>a
 |.ask i j k=>ev c (k (c i j))
theorem gp{f:α->KasT β}:∀t:KasT α,ev c (t.bind f)=ev c (f (ev c t))
 |.ret _=>rfl
 |.ask i j k=>gp (k (c i j))
structure Tot (n:Nat) (c:Nat->Nat->Bool):Prop where
 tr:∀i j k,i<n->j<n->k<n->c i j=true->c j k=true->c i k=true
 to:∀i j,i<n->j<n->i≠j->c i j=false->c j i=true
def Pm(n:Nat)(p:Array Nat):Prop:=p.toList.Perm (List.range n)
section
theorem Pm.sz(h:Pm n p):p.size=n:=by
 have:=h.length_eq;rw[Ng] at this;rw[<- this];rfl
theorem qb{i:Nat}(hi:i<p.size):p.getD i 0=p[i]:=by simp[Array.getD,hi]
theorem pY(p:Array Nat)(i:Nat):p.getD i 0=(p[i]?).getD 0:=by simp[Array.getD_eq_getD_getElem?]
theorem Pm.lt(h:Pm n p){i:Nat}(hi:i<n):p.getD i 0<n:=by
 have O:=h.sz;rw[qb ()]
 rwa[ME.mp (h.mem_iff.mp (by rw[Array.mem_toList_iff];rwa[Array.getElem_mem _]))]
theorem Pm.inj(h:Pm n p){i:Nat}(hi:i<n)(hj:j<n)(hne:i≠j):p.getD i 0≠p.getD j 0:=by
 have O:=h.sz;have nd:p.toList.Nodup:=h.nodup_iff.mpr List.nodup_range;intro z;rw[qb (),qb ()] at z
 rwa[hne ((getElem_inj (h₀:=by rw[Lj];lia) (h₁:=by rw[Lj];lia) nd).mp (by rw[Array.getElem_toList,Array.getElem_toList];rwa[z]))]
theorem Pm.of{q:Array Nat}(h:Pm n p)(e:q.Perm p):Pm n q:=(Array.perm_iff_toList_perm.mp e).trans h
def So(c:Nat->Nat->Bool)(p:Array Nat)(k:Nat):Prop:=∀i j,i<j->j<k->c (p.getD i 0) (p.getD j 0)=true
def De(c:Nat->Nat->Bool)(p:Array Nat)(k:Nat):Prop:=∀i j,i<j->j<k->c (p.getD j 0) (p.getD i 0)=true
theorem Tot.other(T:Tot n c)(hp:Pm n p){i:Nat}(hi:i<n)(hj:j<n)(hne:i≠j)(h:¬c (p.getD i 0) (p.getD j 0)=true):c (p.getD j 0) (p.getD i 0)=true:=
 T.to _ _ (hp.lt hi) (hp.lt hj) (hp.inj hi hj hne) (by simpa using h)
theorem Tot.trp(T:Tot n c)(hp:Pm n p){i k:Nat}(hi:i<n)(hj:j<n)(hk:k<n)(h1:c (p.getD i 0) (p.getD j 0)=true)(h2:c (p.getD j 0) (p.getD k 0)=true):c (p.getD i 0) (p.getD k 0)=true:=
 T.tr _ _ _ (hp.lt hi) (hp.lt hj) (hp.lt hk) h1 h2
theorem So.step(T:Tot n c)(hp:Pm n p){m:Nat}(h1:1<=m)(hm:m<n)(hs:So c p m)(h:c (p.getD (m-1) 0) (p.getD m 0)=true):So c p (m+1):=λi j O U=>by
 by_cases e:j=m
 ·subst e
  by_cases e2:i=j-1
  ·rw[e2];rwa[h]
  ·rwa[T.trp hp () () hm (hs i (j-1) () ()) h]
 ·rwa[hs i j O ()]
theorem De.step(T:Tot n c)(hp:Pm n p){m:Nat}(h1:1<=m)(hm:m<n)(hs:De c p m)(h:c (p.getD m 0) (p.getD (m-1) 0)=true):De c p (m+1):=λi j O U=>by
 by_cases e:j=m
 ·subst e
  by_cases e2:i=j-1
  ·rw[e2];rwa[h]
  ·rwa[T.trp hp hm () () h (hs i (j-1) () ())]
 ·rwa[hs i j O ()]
theorem sY(T:Tot n c)(hp:Pm n p):∀f m,1<=m->m+f<=n->So c p m->m<=ev c (kas_asc p f m)/\ev c (kas_asc p f m)<=m+f/\So c p (ev c (kas_asc p f m))/\(ev c (kas_asc p f m)<m+f->c (p.getD (ev c (kas_asc p f m)) 0) (p.getD (ev c (kas_asc p f m)-1) 0)=true)
 |0,m,_,_,hs=>#[ge _,ge _,hs,λh=>absurd h (Lk _)]
 |f+1,m,h1,h2,hs=>by
  by_cases O:c (p.getD m 0) (p.getD (m-1) 0)=true
  ·have e:ev c (kas_asc p (f+1) m)=m:=by
    show ev c (if c (p.getD m 0) (p.getD (m-1) 0)=true then .ret m else kas_asc p f (m+1))=m
    rw[u_ O];rfl
   rw[e];rwa[ge _,(),hs,λ_=>O]
  ·have e:ev c (kas_asc p (f+1) m)=ev c (kas_asc p f (m+1)):=by
    show ev c (if c (p.getD m 0) (p.getD (m-1) 0)=true then .ret m else kas_asc p f (m+1))=_
    rw[t_ O]
   rw[e];let#[a,b,d,g]:=sY T hp f (m+1) () () (hs.step T hp h1 () (T.other hp () () () O))
   rwa[(),(),d,λh=>g ()]
theorem vd(T:Tot n c)(hp:Pm n p):∀f m,1<=m->m+f<=n->De c p m->∃r,ev c (kas_desc f p m 0)=(p,r,0)/\m<=r/\r<=m+f/\De c p r
 |0,m,_,_,hs=>#[m,1,ge _,ge _,hs]
 |f+1,m,h1,h2,hs=>by
  by_cases O:c (p.getD m 0) (p.getD (m-1) 0)=true
  ·let#[r,e,a,b,d]:=vd T hp f (m+1) () () (hs.step T hp h1 () O)
   erw[r,?_,(),(),d]
   rw[<- e];show ev c (if c (p.getD m 0) (p.getD (m-1) 0)=true then(if 0>0 then kas_desc f (kas_rev p (m-(0+1)) m) (m+1) 0 else kas_desc f p (m+1) 0) else _)=_
   rw[u_ O,t_ #[]]
  ·erw[m,?_,ge _,(),hs]
   have U:=T.other hp (show m<n by lia) (show m-1<n by lia) () O
   show ev c (if c (p.getD m 0) (p.getD (m-1) 0)=true then _ else .ask (p.getD (m-1) 0) (p.getD m 0) λd=>if d=true then .ret (p,m,0) else kas_desc f p (m+1) (0+1))=_
   rw[t_ O];show ev c (if c (p.getD (m-1) 0) (p.getD m 0)=true then .ret (p,m,0) else kas_desc f p (m+1) (0+1))=_
   rw[u_ U]
   rfl
theorem yR(hj:j<=p.size)(k:Nat):(kas_rev p 0 j).getD k 0=if k<j then p.getD (j-1-k) 0 else p.getD k 0:=by
 rw[pY];unfold kas_rev;rw[getElem?_mirror_all hj]
 by_cases h:k<j
 ·rw[u_ #[Gw _,h],u_ h,pY,Nat.zero_add]
 ·rw[t_ (λz=>h z.2),t_ h,pY]
theorem Dd(hp:Pm n p)(j:Nat):Pm n (kas_rev p 0 j):=hp.of (mirror_perm _ _ _ _)
theorem De.rev{k:Nat}(hk:k<=p.size)(h:De c p k):So c (kas_rev p 0 k) k:=λi j O U=>by
 rw[yR hk,yR hk,u_ (),u_ U]
 rwa[h (k-1-j) (k-1-i) () ()]
theorem yj(T:Tot n c)(hp:Pm n p)(hn:1<=n):∃m q,ev c (kas_count n p)=(m,q)/\1<=m/\m<=n/\Pm n q/\So c q m:=by
 have s1:So c p 1:=λi j O Y=>()
 let#[a,b,d,g]:=sY T hp (n-1) 1 (ge _) () s1
 unfold kas_count;rw[gp];generalize ev c (kas_asc p (n-1) 1)=r at *
 by_cases h1:(r==n)=true
 ·rw[u_ h1];rwa[24,r,p,1,a,(),hp,d]
 ·rw[t_ h1];have hr:r≠n:=by simpa using h1
  by_cases h2:r>1
  ·rw[u_ h2];show ∃m q,ev c (if c (p.getD 0 0) (p.getD (r-1) 0)=true then .ret (r,p) else _)=(m,q)/\_
   rw[u_ (d 0 (r-1) () ())]
   rwa[24,r,p,1,a,(),hp,d]
  ·rw[t_ h2];have r1:r=1:=()
   subst r1;have d1:De c p 2:=λi j O Y=>by
    have:i=0/\j=1:=()
    rw[this.1,this.2];rwa[g ()]
   unfold kas_descPart;rw[gp];let#[k,e,ka,kb,Z]:=vd T hp (n-(1+1)) (1+1) #[] () d1
   rw[e];show ∃m q,ev c (if 0>0 then _ else kas_tail3 k n p)=(m,q)/\_
   rw[t_ #[]]
   unfold kas_tail3;rw[gp];have U:=Dd hp k;have sq:=De.rev (by rw[hp.sz];lia) Z
   let#[a',b',d',_]:=sY T U (n-k) k () () sq
   rwa[24,_,0,(),(),U,d']
theorem lM(T:Tot n c)(hp:Pm n p){k:Nat}(hk:k<n)(hs:So c p k):∀f l r,r<=l+f->l<=r->r<=k->(∀i,i<l->c (p.getD i 0) (p.getD k 0)=true)->(∀i,r<=i->i<k->c (p.getD k 0) (p.getD i 0)=true)->
  ev c (kas_place p k f l r)<=k/\(∀i,i<ev c (kas_place p k f l r)->c (p.getD i 0) (p.getD k 0)=true)/\(∀i,ev c (kas_place p k f l r)<=i->i<k->c (p.getD k 0) (p.getD i 0)=true)
 |0,l,r,h1,h2,h3,lo,hi=>#[by show l<=k;lia,lo,λi hl O=>hi i (by have:l<=i:=hl;lia) O]
 |f+1,l,r,h1,h2,h3,lo,hi=>by
  by_cases Y:l ≥ r
  ·have e:ev c (kas_place p k (f+1) l r)=l:=by
    show ev c (if l ≥ r then .ret l else _)=l
    rw[u_ Y];rfl
   rw[e];rwa[(),lo,λi hl O=>hi i () O]
  ·have e:ev c (kas_place p k (f+1) l r)=ev c (if c (p.getD k 0) (p.getD ((l+r)/2) 0)=true then kas_place p k f l ((l+r)/2) else kas_place p k f ((l+r)/2+1) r):=by
    show ev c (if l ≥ r then .ret l else .ask (p.getD k 0) (p.getD ((l+r)/2) 0) λd=>if d=true then kas_place p k f l ((l+r)/2) else kas_place p k f ((l+r)/2+1) r)=_
    rw[t_ Y];rfl
   rw[e]
   by_cases U:c (p.getD k 0) (p.getD ((l+r)/2) 0)=true
   ·rw[u_ U];erw[lM T hp hk hs f l ((l+r)/2) () () () lo λi a6 a7=>?_]
    by_cases Z:i=(l+r)/2
    ·rw[Z];rwa[U]
    ·rwa[T.trp hp hk () () U (hs _ i () a7)]
   ·rw[t_ U];have ho:=T.other hp hk (show(l+r)/2<n by lia) () U
    erw[lM T hp hk hs f ((l+r)/2+1) r () () h3 (λi a6=>?_) hi]
    by_cases Z:i=(l+r)/2
    ·rw[Z];rwa[ho]
    ·rwa[T.trp hp () () hk (hs i _ () ()) ho]
theorem mC{k d:Nat}(hk:k<p.size)(hd:d<=k)(x:Nat):(bubble p k d).getD x 0=if x=k-d then p.getD k 0 else if k-d<x/\x<=k then p.getD (x-1) 0 else p.getD x 0:=by
 rw[pY,getElem?_bubble hk d hd]
 by_cases h:x=k-d
 ·rw[u_ h,u_ h,pY]
 ·rw[t_ h,t_ h]
  by_cases h2:k-d<x/\x<=k
  ·rw[u_ h2,u_ h2,pY]
  ·rw[t_ h2,t_ h2,pY]
theorem So.put(hp:Pm n p){k q:Nat}(hk:k<n)(hq:q<=k)(hs:So c p k)(lo:∀i,i<q->c (p.getD i 0) (p.getD k 0)=true)(hi:∀i,q<=i->i<k->c (p.getD k 0) (p.getD i 0)=true):So c (bubble p k (k-q)) (k+1):=λi j O Z=>by
 have hz:=hp.sz;rw[mC () (),mC () (),show k-(k-q)=q by lia]
 by_cases i1:i=q
 ·rw[u_ i1,t_ (),u_ ()]
  rwa[hi (j-1) () ()]
 ·rw[t_ i1]
  by_cases i2:q<i/\i<=k
  ·rw[u_ i2,t_ (),u_ ()]
   rwa[hs _ _ () ()]
  ·rw[t_ i2]
   by_cases U:j=q
   ·rw[u_ U];rwa[lo i ()]
   ·rw[t_ U]
    by_cases Y:q<j/\j<=k
    ·rw[u_ Y];rwa[hs _ _ () ()]
    ·rw[t_ Y];rwa[hs _ _ O ()]
end
theorem yB(T:Tot n c):∀(f:Nat) (p:Array Nat) (k:Nat),Pm n p->k+f=n->So c p k->Pm n (ev c (kas_bin f p k))/\So c (ev c (kas_bin f p k)) n
 |0,p,k,hp,hk,hs=>#[hp,by rw[<- show k=n by lia];rwa[hs]]
 |f+1,p,k,hp,hk,hs=>by
  have e:ev c (kas_bin (f+1) p k)=ev c (kas_bin f (bubble p k (k-ev c (kas_place p k k 0 k))) (k+1)):=by
   show ev c ((kas_place p k k 0 k).bind λl=>kas_bin f (bubble p k (k-l)) (k+1))=_
   rw[gp]
  rw[e];let#[a,lo,hi]:=lM T hp (show k<n by lia) hs k 0 k () () (ge _) (λi h=>absurd h ()) (λi h1 h2=>())
  rwa[yB T f _ (k+1) (hp.of (bubble_perm _ _ _)) () (hs.put hp () a lo hi)]
theorem uM(T:Tot n c)(hn:1<=n):Pm n (ev c (kas_sort n))/\So c (ev c (kas_sort n)) n:=by
 have Y:Pm n (List.toArray (List.range n)):=List.Perm.refl _;let#[m,q,e,a,b,O,U]:=yj T Y hn;unfold kas_sort;rw[gp,e];dsimp only
 by_cases h:m<n
 ·rw[u_ h];rwa[yB T _ q _ O () (by rw[show max m 1=m by lia];rwa[U])]
 ·rw[t_ h];rwa[O,by rw[<- show m=n by lia];rwa[U]]
section
variable [DecidableEq κ]
def bw(kvs:List (κ×V))(k:κ):Option V:=(kvs.find? λkv=>decide (kv.1=k)).map (·.2)
def cH(kvs:List (κ×V))(k:κ)(v:V):List (κ×V):=
 if (kvs.any λkv=>decide (kv.1=k))=true then kvs.map (λkv=>if kv.1=k then(kv.1,v) else kv) else kvs++[(k,v)]
def dG(kvs:List (κ×V))(k:κ):List (κ×V):=kvs.filter λkv=>decide (kv.1≠k)
theorem bp{p:κ×V}{r:List (κ×V)}{k:κ}(e:p.1=k):bw (p::r) k=some p.2:=by simp[bw,PH,e]
theorem bg{p:κ×V}{r:List (κ×V)}{k:κ}(e:¬p.1=k):bw (p::r) k=bw r k:=by simp[bw,PH,e]
theorem fg(k:κ):∀kvs:List (κ×V),(kvs.any λkv=>decide (kv.1=k))=(bw kvs k).isSome
 |[]=>rfl
 |p::r=>by
  rw[any_cons]
  by_cases e:p.1=k
  ·simp only[bp e,p_ e,Bool.true_or,Option.isSome_some]
  ·rw[bg e,Gx e,Bool.false_or];rwa[fg k r]
theorem pW(k j:κ)(y:V):∀kvs:List (κ×V),bw (kvs.map λkv=>if kv.1=k then(kv.1,y) else kv) j=(bw kvs j).map λx=>if j=k then y else x
 |[]=>rfl
 |p::r=>by
  have O:=pW k j y r;rw[K1]
  by_cases h:p.1=k
  ·rw[u_ h]
   by_cases e:p.1=j
   ·rw[bp (p:=(p.1,y)) e,bp e,Mo,u_ (e.symm.trans h)]
   ·rw[bg (p:=(p.1,y)) e,bg e,O]
  ·rw[t_ h]
   by_cases e:p.1=j
   ·rw[bp (p:=p) e,bp e,Mo,t_ (λz=>h (e.trans z))]
   ·rw[bg (p:=p) e,bg e,O]
theorem nV(k j:κ)(y:V):∀kvs:List (κ×V),bw kvs k=none->bw (kvs++[(k,y)]) j=if j=k then some y else bw kvs j
 |[],_=>by
  by_cases e:k=j
  ·rw[u_ e.symm];rwa[bp (p:=(k,y)) e]
  ·rw[t_ (λz=>e z.symm)];rwa[bg (p:=(k,y)) e]
 |p::r,hn=>by
  rw[cons_append];have hk:¬p.1=k:=λz=>by rw[bp z] at hn;cases hn
  rw[bg hk] at hn;have O:=nV k j y r hn
  by_cases e:p.1=j
  ·rw[bp e,bp e,t_ (λz=>hk (e.trans z))]
  ·rw[bg e,bg e,O]
theorem qp(kvs:List (κ×V))(k j:κ)(y:V):bw (cH kvs k y) j=if j=k then some y else bw kvs j:=by
 unfold cH
 by_cases a:(kvs.any λkv=>decide (kv.1=k))=true
 ·rw[u_ a,pW];rw[fg] at a
  by_cases e:j=k
  ·let#[x,O]:=Option.isSome_iff_exists.mp a;rw[u_ e,e,O,Mo,u_ rfl]
  ·rw[t_ e];cases bw kvs j with
   |none=>rfl
   |some x=>rw[Mo,t_ e]
 ·rw[t_ a];erw[nV k j y kvs ?_];rw[fg] at a;cases q:bw kvs k with
  |none=>rfl
  |some x=>rw[q] at a;exact(a rfl).elim
theorem eG(kvs:List (κ×V))(k:κ)(v:V):(cH kvs k v).length<=kvs.length+1:=by
 unfold cH
 split
 ·rw[k_];lia
 ·rw[y_,Mf,length_nil];lia
theorem zT{kvs:List (κ×V)}{k:κ}(v:V)(h:bw kvs k=none):cH kvs k v=kvs++[(k,v)]:=by
 unfold cH;rw[fg,h];rwa[t_ #[]]
theorem F9.isSome_eq{o:Option V}{u:Option Value}(r:F9 o u):o.isSome=u.isSome:=by
 cases o with
 |none=>cases u with
  |none=>rfl
  |some _=>exact(show False from r).elim
 |some _=>cases u with
  |none=>exact(show False from r).elim
  |some _=>rfl
theorem F9.getD{o:Option V}{u:Option Value}{d:V}{d':Value}(r:F9 o u)(rd:Fy d d'):Fy (o.getD d) (u.getD d'):=by
 cases o with
 |none=>cases u with
  |none=>rwa[rd]
  |some _=>exact(show False from r).elim
 |some _=>cases u with
  |none=>exact(show False from r).elim
  |some _=>rwa[r]
theorem KV.val{kvs:List (κ×V)}{vs:List (κ×Value)}(r:KV kvs vs)(k:κ):F9 (bw kvs k) (valueAt vs k):=by
 unfold KV at r
 induction r with
 |nil=>rwa[True.intro]
 |@cons p q ps qs h t ih=>
  let#[h1,h2]:=h
  by_cases e:p.1=k
  ·have O:q.1=k:=h1.symm.trans e;have b:valueAt (q::qs) k=some q.2:=by simp[valueAt,PH,O]
   rw[bp e,b];rwa[h2]
  ·have O:¬q.1=k:=λz=>e (h1.trans z)
   have b:valueAt (q::qs) k=valueAt qs k:=by simp[valueAt,PH,O]
   rw[bg e,b];rwa[ih]
theorem KV.any{kvs:List (κ×V)}{vs:List (κ×Value)}(r:KV kvs vs)(k:κ):(kvs.any λkv=>decide (kv.1=k))=vs.any λkv=>decide (kv.1=k):=by
 unfold KV at r
 induction r with
 |nil=>rfl
 |cons h t ih=>rw[any_cons,any_cons,ih,h.1]
theorem KV.repl{kvs:List (κ×V)}{vs:List (κ×Value)}(r:KV kvs vs)(k:κ)(ry:Fy y u):
  KV (kvs.map λkv=>if kv.1=k then(kv.1,y) else kv) (vs.map λkv=>if kv.1=k then(kv.1,u) else kv):=by
 unfold KV at r ⊢
 induction r with
 |nil=>rwa[.nil]
 |@cons p q ps qs h t ih=>
  rw[K1,K1];erw[.cons ?_ ih];let#[h1,h2]:=h
  by_cases e:p.1=k
  ·rw[u_ e,u_ (h1.symm.trans e)];rwa[h1,ry]
  ·rw[t_ e,t_ (λz=>e (h1.trans z))];rwa[h1,h2]
theorem KV.put{kvs:List (κ×V)}{vs:List (κ×Value)}(r:KV kvs vs)(k:κ)(ry:Fy y u):KV (cH kvs k y) (stored vs k u):=by
 unfold cH stored;rw[r.any k]
 by_cases e:(vs.any λkv=>decide (kv.1=k))=true
 ·rw[u_ e,u_ e];rwa[r.repl k ry]
 ·rw[t_ e,t_ e];rwa[Paired.snoc r #[1,ry]]
theorem KV.drop{kvs:List (κ×V)}{vs:List (κ×Value)}(r:KV kvs vs)(k:κ):KV (dG kvs k) (without vs k):=by
 unfold KV at r ⊢;unfold dG without
 induction r with
 |nil=>rwa[.nil]
 |@cons p q ps qs h t ih=>
  let#[h1,h2]:=h;rw[Pb,Pb]
  by_cases e:p.1=k
  ·have a:¬decide (p.1≠k)=true:=by simp[e]
   have b:¬decide (q.1≠k)=true:=by simp[h1.symm.trans e]
   rw[t_ a,t_ b];rwa[ih]
  ·have O:¬q.1=k:=λz=>e (h1.trans z)
   have a:decide (p.1≠k)=true:=by simp[e]
   have b:decide (q.1≠k)=true:=by simp[O]
   rw[u_ a,u_ b];rwa[.cons #[h1,h2] ih]
theorem KV.keys{kvs:List (κ×V)}{vs:List (κ×Value)}(r:KV kvs vs):kvs.map (·.1)=vs.map (·.1):=by
 unfold KV at r
 induction r with
 |nil=>rfl
 |cons h t ih=>rw[K1,K1,ih,h.1]
theorem KV.length{kvs:List (κ×V)}{vs:List (κ×Value)}(r:KV kvs vs):kvs.length=vs.length:=Paired.length r
theorem xE(kvs:List (κ×V))(k:κ):(dG kvs k).length<=kvs.length:=Nb _ _
end
theorem kU{k:Key}(r:Fy (kV k) u):(aH P w).is k u=true:=by
 cases k with
 |inl i=>let#[t,e]:=(show ∃t,u=Value.int i t from r);subst e;rwa[qh P w i t]
 |inr x=>let#[t,e]:=(show ∃t,u=Value.str x t from r);subst e;rwa[qL P w x t]
theorem nB:∀{ks:List Key} {us:List Value},Fw (ks.map kV) us->ItemsAre (aH P w) ks us
 |[],_,r=>by rw[map_nil] at r;cases r;rwa[.nil]
 |k::ks,_,r=>by
  rw[K1] at r;cases r with
  |cons h t=>rwa[.cons (kU h) (nB t)]
abbrev KT(H:Hp):List (List Key×V)->List (List Key×Addr×Value)->Prop:=Paired λp q=>p.1=q.1/\H q.2.1=some (.tup (p.1.map kV))/\Fy p.2 q.2.2
theorem KT.val{xs:List (List Key×Addr×Value)}(r:KT H kvs xs)(k:List Key):F9 (bw kvs k) ((atKey xs k).map (·.2)):=by
 induction r with
 |nil=>rwa[True.intro]
 |@cons p q ps qs h t ih=>
  let#[h1,_,h2]:=h
  by_cases e:p.1=k
  ·have O:q.1=k:=h1.symm.trans e;have b:atKey (q::qs) k=some q.2:=by simp[atKey,PH,O]
   rw[bp e,b];rwa[h2]
  ·have O:¬q.1=k:=λz=>e (h1.trans z)
   have b:atKey (q::qs) k=atKey qs k:=by simp[atKey,PH,O]
   rw[bg e,b];rwa[ih]
theorem KT.repl{xs:List (List Key×Addr×Value)}(r:KT H kvs xs)(k:List Key)(ry:Fy y u):
  KT H (kvs.map λkv=>if kv.1=k then(kv.1,y) else kv) (xs.map (putAt k u)):=by
 induction r with
 |nil=>rwa[.nil]
 |@cons p q ps qs h t ih=>
  rw[K1,K1];erw[.cons ?_ ih];let#[h1,h2,h3]:=h;unfold putAt
  by_cases e:p.1=k
  ·rw[u_ e,u_ (h1.symm.trans e)];rwa[h1,h2,ry]
  ·rw[t_ e,t_ (λz=>e (h1.trans z))];rwa[h1,h2,h3]
theorem KT.put{xs:List (List Key×Addr×Value)}(r:KT H kvs xs)(k:List Key){b:Addr}(hb:H b=some (.tup (k.map kV)))(ry:Fy y u):
  KT H (cH kvs k y) (storedH xs k b u):=by
 have e:(kvs.any λkv=>decide (kv.1=k))=(atKey xs k).isSome:=by
  rw[fg,(r.val k).isSome_eq,Option.isSome_map]
 unfold cH storedH;rw[e]
 by_cases q:(atKey xs k).isSome=true
 ·rw[u_ q,u_ q];rwa[r.repl k ry]
 ·rw[t_ q,t_ q];rwa[Paired.snoc r #[1,hb,ry]]
theorem KT.keeps{xs:List (List Key×Addr×Value)}(r:KT H kvs xs)(ht:∀b ys,H b=some (.tup ys)->H' b=some (.tup ys)):KT H' kvs xs:=
 Paired.mapP r λ_ _ z=>#[z.1,ht _ _ z.2.1,z.2.2]
section
variable {a:Addr}
theorem B4{u:HO}(ok:HOk P w H h)(e:Rd H a u):FC P w H h a u:=e.ok ok
theorem ib{kvs:List (Key×V)}(ok:HOk P w H h)(e:Rd H a (.dK kvs)):kvs.length<=sizeLine/\(a==sysModules)=false/\∃vs,KV kvs vs/\h.DictOf (aH P w) a vs:=
 show FC P w H h a (.dK kvs) from B4 ok e
theorem BX{kvs:List (Key×V)}(ok:HOk P w H h)(e:H a=some (.dK kvs)):kvs.length<=sizeLine/\(a==sysModules)=false/\∃vs,KV kvs vs/\h.DictOf (aH P w) a vs:=ib ok (.inl e)
theorem kE{ks:List Key}(ok:HOk P w H h)(e:H a=some (.tup (ks.map kV))):(tupleKind (aH P w)).is h ks a:=by
 let#[_,its,r,o,h1,h2,n,h3]:=(show FC P w H h a (.tup (ks.map kV)) from ok a _ e)
 rwa[33,o,its.toArray,n,h1,h2,h3,by simpa using nB r]
theorem mS(ok:HOk P w H h)(e:Rd H a (.dT kvs)):kvs.length<=sizeLine/\(a==sysModules)=false/\
  ∃xs,KT H kvs xs/\h.DictOfH (tupleKind (aH P w)) a xs:=by
 let#[z,y,xs,r,o,es,ep,h1,h2,h3,h4,U]:=(show FC P w H h a (.dT kvs) from B4 ok e)
 erw[0275,z,y,xs,r,o,es,ep,h1,h2,h3,h4,λx O=>?_,U]
 have all:∀{l:List (List Key×V)} {m:List (List Key×Addr×Value)},KT H l m->∀x∈m,(tupleKind (aH P w)).is h x.1 x.2.1:=by
  intro l m q
  induction q with
  |nil=>intro x O;rwa[nomatch O]
  |@cons p q ps qs hq t ih=>
   intro x O
   rcases GH.mp O with e|O
   ·subst e;rwa[kE ok (by rw[<- hq.1];rwa[hq.2.1])]
   ·rwa[ih x O]
 rwa[all r x O]
theorem EL(ok:HOk P w H h)(e:H a=some (.dT kvs)):kvs.length<=sizeLine/\(a==sysModules)=false/\
  ∃xs,KT H kvs xs/\h.DictOfH (tupleKind (aH P w)) a xs:=mS ok (.inl e)
end
def F8(H:Hp)(a:Addr)(y:V)(r:Option V):Prop:=
 (∃kvs k,Rd H a (.dK kvs)/\y=kV k/\r=bw kvs k)\/∃kvs k b,Rd H a (.dT kvs)/\y=.ref b/\H b=some (.tup (k.map kV))/\r=bw kvs k
def DPut(H:Hp)(a:Addr)(y v:V)(H':Hp):Prop:=
 (∃kvs k,H a=some (.dK kvs)/\y=kV k/\kvs.length<sizeLine/\H'=upd H a (.dK (cH kvs k v))) \/
 ∃kvs k b,H a=some (.dT kvs)/\y=.ref b/\H b=some (.tup (k.map kV))/\kvs.length<sizeLine/\H'=upd H a (.dT (cH kvs k v))
theorem F8.k{a:Addr}{kvs:List (Key×V)}{k:Key}(e:H a=some (.dK kvs)):F8 H a (kV k) (bw kvs k):=.inl #[22,kvs,k,.inl e,1,1]
theorem F8.t{a b:Addr}{k:List Key}(e:H a=some (.dT kvs))(eb:H b=some (.tup (k.map kV))):F8 H a (.ref b) (bw kvs k):=.inr #[33,kvs,k,b,.inl e,1,eb,1]
theorem DPut.k{a:Addr}{kvs:List (Key×V)}{k:Key}(e:H a=some (.dK kvs))(hl:kvs.length<sizeLine):DPut H a (kV k) v (upd H a (.dK (cH kvs k v))):=.inl #[23,kvs,k,e,1,hl,1]
theorem DPut.t{a b:Addr}{k:List Key}(e:H a=some (.dT kvs))(eb:H b=some (.tup (k.map kV)))(hl:kvs.length<sizeLine):
  DPut H a (.ref b) v (upd H a (.dT (cH kvs k v))):=.inr #[34,kvs,k,b,e,1,eb,hl,1]
section
variable {a:Addr}{r:Value}{o:Option V}
theorem Inv.big(I:Inv X pins σ H s):sysModules<s.heap.objs.size:=by
 have h:mainGlobals<s.heap.objs.size:=(I.mod.glob.keeps I.bk).lt;rwa[NA #[] h]
theorem vL(hu:A.units+1<cLine)(I:Inv X pins σ H s)(g:F8 H a y (some v))(ry:Fy y u)(h:∀Y s',Inv X pins σ H s'->Fy v Y->Q Y s'):
  wpAny (model X.prog X.w) A (getItem (.ref a) u) Q E s:=by
 rcases g with⟨kvs,k,e,ey,l⟩|⟨kvs,k,b,e,ey,eb,l⟩
 ·subst ey;let#[z,hd,vs,O,dd]:=ib I.hok e;let#[Y,hw,U]:=F9.some_of (v:=v) (o:=valueAt vs k) (by rw[l];rwa[O.val k])
  rwa[wpAny_getItem_of (kU ry) dd.mapOf hw (h Y _ (I.tok _) U)]
 ·subst ey;cases (show u=Value.ref b from ry)
  let#[z,hd,xs,O,dd]:=mS I.hok e;let#[Y,hw,U]:=F9.some_of (v:=v) (o:=(atKey xs k).map (·.2)) (by rw[l];rwa[O.val k])
  let#[p,hp,Z]:=Option.map_eq_some_iff.mp hw;erw[wpAny_getItem_heap (tupleKind_room_in1 hu) (kE I.hok eb) dd hp ?_];rw[Z];rwa[h Y _ (I.tok _) U]
theorem Aw(hu:A.units+1<cLine)(I:Inv X pins σ H s)(g:F8 H a y o)(ry:Fy y u)(h:∀s',Inv X pins σ H s'->Q (.bool (!o.isSome)) s'):
  wpAny (model X.prog X.w) A (compareOp .NotIn u (.ref a)) Q E s:=by
 rcases g with⟨kvs,k,e,ey,l⟩|⟨kvs,k,b,e,ey,eb,l⟩
 ·subst ey;let#[z,hd,vs,O,dd]:=ib I.hok e;erw[wpAny_notIn_of (kU ry) hd dd.mapOf ?_];rw[<- (O.val k).isSome_eq,<- l];rwa[h _ (I.tok _)]
 ·subst ey;cases (show u=Value.ref b from ry)
  let#[z,hd,xs,O,dd]:=mS I.hok e;erw[wpAny_notIn_heap (tupleKind_room_in1 hu) (kE I.hok eb) hd dd ?_];have q:=(O.val k).isSome_eq;rw[Option.isSome_map] at q;rw[<- q,<- l];rwa[h _ (I.tok _)]
theorem oH{ob:HO}(I:Inv X pins σ H s)(mu:Mut (H a))(hs:Heap.SameBut a s.heap h')(he:∃q,h'.get? a=some q)(new:FC X.prog X.w (upd H a ob) h' a ob):
  Inv X pins σ (upd H a ob) { s with heap:=h',toks:=t' }:=
 I.write (x:=a) (e:=a) mu (.inl rfl) (λb q O z=>(hs.2 b O).trans z) he new
theorem oj{kvs:List (Key×V)}(z:kvs.length<=sizeLine)(hd:(a==sysModules)=false)(rel:KV kvs vs)(dd:h'.DictOf (aH P w) a vs):
  FC P w H' h' a (.dK kvs):=#[z,hd,vs,rel,dd]
theorem vG{Q:Unit->Shared->Prop}(hu:A.units+1<cLine)(I:Inv X pins σ H s)(g:DPut H a y v H')(ry:Fy y u)(rv:Fy v r)(h:∀s',Inv X pins σ H' s'->Q ⟨⟩ s'):
  wpAny (model X.prog X.w) A (setItem (.ref a) u r) Q E s:=by
 rcases g with⟨kvs,k,e,ey,l,eH⟩|⟨kvs,k,b,e,ey,eb,l,eH⟩
 ·subst ey eH;let#[z,hd,vs,O,dd]:=BX I.hok e;have hz:vs.length<=sizeLine:=by rw[<- O.length];rwa[z]
  have Z:(cH kvs k v).length<=sizeLine:=by have:=eG kvs k v;lia
  erw[wpAny_setItem_pairs (hsz:=hz) (kU ry) dd λh' U hs=>h _ ?_]
  have he:∃q,h'.get? a=some q:=let ⟨q,_,_,Y,_⟩:=U;#[q,Y]
  rwa[oH I (by rw[e];rwa[True.intro]) hs he (oj Z hd (O.put k rv) U)]
 ·subst ey eH;cases (show u=Value.ref b from ry)
  let#[z,hd,xs,O,dd]:=EL I.hok e;have hz:xs.length<=sizeLine:=by rw[<- Paired.length O];rwa[z]
  have Z:(cH kvs k v).length<=sizeLine:=by have:=eG kvs k v;lia
  erw[wpAny_setItem_heap (hsz:=hz) (tupleKind_room_in1 hu) (kE I.hok eb) dd λh' U hs=>h _ ?_]
  let#[q,es,ep,Y,h2,h3,h4,_,h5]:=U;erw[oH I (by rw[e];rwa[True.intro]) hs #[q,Y] #[0274,Z,hd,_,(O.put k eb rv).keeps λc ys ec=>?_,q,es,ep,Y,h2,h3,h4,h5]]
  rw[al (aw ec e (λz=>nomatch z))]
  rwa[ec]
end
section
variable {a:Addr}{kvs:List (Key×V)}{k:Key}
theorem ES{more:List Value}(I:Inv X pins σ H s)(e:H a=some (.dK kvs))(ry:Fy (kV k) u)(l:bw kvs k=some v)(hm:more=[]\/∃x,more=[x])(h:∀Y s',Inv X pins σ (upd H a (.dK (dG kvs k))) s'->Fy v Y->Q Y s'):wpAny (model X.prog X.w) A (call (.builtin "dict.pop") (.ref a::u::more)) Q E s:=by
 let#[z,hd,vs,O,dd]:=BX I.hok e;let#[Y,hw,Z]:=F9.some_of (v:=v) (o:=valueAt vs k) (by rw[<- l];rwa[O.val k])
 have hp:(keyPart u).isSome=true:=by
  cases k with
  |inl i=>let#[t,q]:=(show ∃t,u=Value.int i t from ry);subst q;rfl
  |inr x=>let#[t,q]:=(show ∃t,u=Value.str x t from ry);subst q;rfl
 have ha:argsOk "dict.pop" #[.ref a::u::more,[]]:=by
  rcases hm with q|⟨x,q⟩
  ·subst q;rwa[PySem.F.args_dict_pop_2 _ _]
  ·subst q;rwa[PySem.F.args_dict_pop_3 _ _ _]
 erw[call_meetsIn PySem.F.slot_dict_pop dd.typeIs PySem.F.entry_dict_pop ha (meets_dict_pop_there (aH X.prog X.w) a (kU ry) more hm hp)
  #[23,vs,Y,dd,by rw[<- O.length];rwa[z],hw,λh' U hs=>h Y _ ?_ Z]]
 have he:∃q,h'.get? a=some q:=let ⟨q,_,_,hq,_⟩:=U;#[q,hq]
 rwa[oH I (by rw[e];rwa[True.intro]) hs he (oj (Lg (xE kvs k) z) hd (O.drop k) U)]
end
def ER(i:Expr):Prop:=∀ov iv,subscripted i false ov iv=operate [ov,iv] (getItem ov iv)
theorem Aq{slice:Expr}{T id:String}(hl:typeLookup (.type T) "__getitem__" = pure (some (.builtin id)))(hs:ER slice)(h:wpAny (model prog w) A (eval value env) (λo Z=>wpAny (model prog w) A (eval slice env) (λi O=>O.TypeIs o T/\wpAny (model prog w) A (getItem o i) Q E O) E Z) E s):
  wpAny (model prog w) A (eval (.Subscript value slice pos) env) Q E s:=by
 erw[Subscript_ (LF h (λo Z h₁=>LF h₁ (λi O U=>?_) λ_ _ x=>x) λ_ _ x=>x)]
 let#[Y,U]:=U;unfold subscriptTail;erw[c_ ?_];rw[getitemInPython_of_ne Y.not_modules];erw[c_ (wpAny_specialOf Y hl ?_)];have fin:wpAny (model prog w) A (subscripted slice false o i) (λr s₃=>wpAny (model prog w) A (letTemporaryGo value o r >>= λ_=>pure r) Q E s₃) E O:=by
  rw[hs o i];rwa[wpAny_operating (LF U (λr s₃ h₃=>c_ (wpAny_letTemporaryGo (i_ h₃))) λ_ _ x=>x)]
 first
  |rwa[i_ (c_ fin)]
  |rwa[c_ (i_ (c_ fin))]
  |rwa[c_ fin]
theorem qK{a:Addr}{o:Option V}(I:Inv X pins σ H s)(g:F8 H a y o):s.TypeIs (.ref a) "dict":=by
 rcases g with⟨kvs,k,e,_,_⟩|⟨kvs,k,b,e,_,_,_⟩
 ·let#[_,_,vs,_,dd]:=ib I.hok e;rwa[dd.typeIs]
 ·let#[_,_,xs,_,dd]:=mS I.hok e;rwa[dd.typeIs]
def Ef(td ty:TE):TE:=λσ H Q=>td σ H λx H1=>ty σ H1 λy H2=>∃a v,x=.ref a/\F8 H2 a y (some v)/\Q v H2
def As(ty td:TE):TE:=λσ H Q=>ty σ H λy H1=>td σ H1 λx H2=>∃a o,x=.ref a/\F8 H2 a y o/\Q (.bl (!o.isSome)) H2
def Ff(td ty tv:TE):TS:=λD σ H=>tv σ H λv H1=>td σ H1 λx H2=>ty σ H2 λy H3=>∃a H4,x=.ref a/\DPut H3 a y v H4/\D.nx σ H4
section
variable {o i:Expr}{pos' tpos:Pos}{td ty tv:TE}
theorem eE(hu:X.A.units+1<cLine)(ho:PE X o td)(hi:PE X i ty)(hs:ER i):PE X (.Subscript o i pos) (Ef td ty):=by
 intro pins s σ H Q I h;erw[Aq PySem.F.slot_dict_getitem.lookup hs (thn (ho pins s σ H _ I h) λu s1 ⟨x,H1,Y,rx,q1⟩=>thn (hi pins s1 σ H1 _ Y q1) λiv s2 ⟨y,H2,U,ry,a,v,ex,g,q2⟩=>?_)]
 subst ex;obtain rfl:u=Value.ref a:=rx;rwa[qK U g,vL hu U g ry λw' s3 Z O=>#[22,v,H2,Z,O,q2]]
theorem vW(hu:X.A.units+1<cLine)(hi:PE X i ty)(ho:PE X o td):PC X .NotIn i o (As ty td):=by
 intro pins s σ H Q I h;erw[thn (hi pins s σ H _ I h) λiv s1 ⟨y,H1,O,ry,Z⟩=>thn (ho pins s1 σ H1 _ O Z) λu s2 ⟨x,H2,U,rx,a,ov,ex,g,q2⟩=>?_]
 subst ex;obtain rfl:u=Value.ref a:=rx;rwa[Aw hu U g ry λs3 Y=>#[22,.bl (!ov.isSome),H2,Y,1,q2]]
theorem tR(hu:X.A.units+1<cLine)(ho:PE X o td)(hi:PE X i ty)(hv:PE X value tv)(hs:swapsWith value (some (.Subscript o i pos')) pos.line X.env=pure false):
  PS X (.Assign [.Subscript o i pos'] value pos) (Ff td ty tv):=by
 intro pins s σ H D I h;erw[wpAny_Assign_Subscript (thn (hv pins s σ H _ I h) λr s1 ⟨v,H1,U,rv,q1⟩=>thn (ho pins s1 σ H1 _ U q1) λu s2 ⟨x,H2,Y,rx,q2⟩=>thn (hi pins s2 σ H2 _ Y q2) λiv s3 ⟨y,H3,Z,ry,a,O,ex,g,q3⟩=>?_) hs]
 subst ex;obtain rfl:u=Value.ref a:=rx;rwa[vG hu Z g ry rv λs4 I4=>#[21,σ,O,I4,q3]]
end
theorem zh(h:Heap)(hb:sysModules<h.objs.size):FC P w H (h.push { cls:=.type "dict",data:=.dict (List.toArray []) }) h.objs.size (.dK []):=
 #[Gw _,Mw.mpr (Ne.symm (GA hb)),[],.nil,Heap.DictOf.new h]
theorem zY(h:Heap)(hb:sysModules<h.objs.size):FC P w H (h.push { cls:=.type "dict",data:=.dict (List.toArray []) }) h.objs.size (.dT []):=
 #[0274,Gw _,Mw.mpr (Ne.symm (GA hb)),[],.nil,_,(List.toArray []),(0),z_ _ rfl,#[1,1,1],1,1,PU]
def CT:TE:=λ_ H Q=>∀p,H p=none->Q (.ref p) (upd H p (.dK []))
def Cu:TE:=λ_ H Q=>∀p,H p=none->Q (.ref p) (upd H p (.dT []))
section
theorem qJ:PE X (.Dict [] [] pos) CT:=λpins s σ H Q I h=>
 wpAny_Dict_empty #[22,.ref s.heap.objs.size,_,I.laid (a:=s.heap.objs.size) (o:=.dK []) (t':=s.toks) (λ_ _ q=>h_ _ q) (ge _) (zh s.heap I.big),1,h _ (I.hok.fresh (ge _))]
theorem xy:PE X (.Dict [] [] pos) Cu:=λpins s σ H Q I h=>
 wpAny_Dict_empty #[22,.ref s.heap.objs.size,_,I.laid (a:=s.heap.objs.size) (o:=.dT []) (t':=s.toks) (λ_ _ q=>h_ _ q) (ge _) (zY s.heap I.big),1,h _ (I.hok.fresh (ge _))]
end
structure M1 (X:Cx) (o:Expr) (m:Str) (apos:Pos) (e:Expr) (cpos:Pos):Prop where
 base:attributeBase o m X.env (eval o X.env)=eval o X.env
 few:((backTo cpos (starEach [e] X.env)).all (λx=>!x.1)&&(backToKw cpos (keywordEach [] X.env)).all (λx=>x.1.isSome)
  && decide (([e]:List Expr).length+([]:List Keyword).length+(if ([]:List Keyword).isEmpty then 0 else 1)<30))=true
 line:(apos.endLine==cpos.line)=true
 trees:backTo cpos (starEach [e] X.env)=[(false,eval e X.env)]
structure M2 (X:Cx) (o:Expr) (m:Str) (apos:Pos) (e f:Expr) (cpos:Pos):Prop where
 base:attributeBase o m X.env (eval o X.env)=eval o X.env
 few:((backTo cpos (starEach [e,f] X.env)).all (λx=>!x.1)&&(backToKw cpos (keywordEach [] X.env)).all (λx=>x.1.isSome)
  && decide (([e,f]:List Expr).length+([]:List Keyword).length+(if ([]:List Keyword).isEmpty then 0 else 1)<30))=true
 line:(apos.endLine==cpos.line)=true
 trees:backTo cpos (starEach [e,f] X.env)=[(false,eval e X.env),(false,eval f X.env)]
def IsD(H:Hp)(a:Addr):Prop:=(∃kvs,Rd H a (.dK kvs))\/∃kvs,Rd H a (.dT kvs)
theorem yV{a:Addr}(I:Inv X pins σ H s)(d:IsD H a):
  s.TypeIs (.ref a) "dict"/\(∀b,Value.ref a=.ref b->∃ob,s.heap.get? b=some ob/\ob.dict=none)/\(a==sysModules)=false:=by
 rcases d with⟨kvs,e⟩|⟨kvs,e⟩
 ·let#[_,hd,vs,_,dd]:=ib I.hok e;erw[dd.typeIs,λb q=>?_,hd]
  cases q;let#[ob,_,_,h1,h2,_]:=dd;rwa[ob,h1,h2.2.1]
 ·let#[_,hd,xs,_,dd]:=mS I.hok e;erw[dd.typeIs,λb q=>?_,hd]
  cases q;let#[ob,_,_,h1,h2,_]:=dd;rwa[ob,h1,h2.2.1]
section
variable {a:Addr}{d:V}{r:Value}{o:Option V}
theorem Dy(hu:A.units+1<cLine)(I:Inv X pins σ H s)(g:F8 H a y o)(ry:Fy y u)(rd:Fy d r)(h:∀U s',Inv X pins σ H s'->Fy (o.getD d) U->Q U s'):
  wpAny (model X.prog X.w) A (call (.builtin "dict.get") [.ref a,u,r]) Q E s:=by
 rcases g with⟨kvs,k,e,ey,l⟩|⟨kvs,k,b,e,ey,eb,l⟩
 ·subst ey;let#[z,hd,vs,O,dd]:=ib I.hok e;erw[call_meetsIn PySem.F.slot_dict_get dd.typeIs PySem.F.entry_dict_get (PySem.F.args_dict_get_3 _ _ _) (meets_dict_get_default (aH X.prog X.w) a (kU ry) hd r) #[_,dd.mapOf,h _ _ (I.tok _) ?_]];rw[l];exact(O.val k).getD rd
 ·subst ey;cases (show u=Value.ref b from ry)
  let#[z,hd,xs,O,dd]:=mS I.hok e;erw[call_meetsIn PySem.F.slot_dict_get dd.typeIs PySem.F.entry_dict_get (PySem.F.args_dict_get_3 _ _ _) (meetsH_dict_get_default (tupleKind (aH X.prog X.w)) a b hd r) #[0122,tupleKind_room_in1 hu,k,xs,kE I.hok eb,dd,h _ _ (I.tok _) ?_]];rw[l];exact(O.val k).getD rd
end
def D7(td ty tx:TE):TE:=λσ H Q=>td σ H λx H1=>∃a,x=.ref a/\IsD H1 a/\ty σ H1 λy H2=>tx σ H2 λz H3=>∃o,F8 H3 a y o/\Q (o.getD z) H3
def CV(td ty:TE):TE:=λσ H Q=>td σ H λx H1=>∃a,x=.ref a/\IsD H1 a/\ty σ H1 λy H2=>∃kvs k v,H2 a=some (.dK kvs)/\y=kV k/\bw kvs k=some v/\Q v (upd H2 a (.dK (dG kvs k)))
section
variable {o f:Expr}{td ty tx:TE}
theorem zN(hu:X.A.units+1<cLine)(ho:PE X o td)(he:PE X e ty)(hf:PE X f tx)(m:M2 X o "get" apos e f cpos):PE X (.Call (.Attribute o "get" apos) [e,f] [] cpos) (D7 td ty tx):=by
 intro pins s σ H Q I h;erw[wpAny_Call_method m.base m.few m.line PySem.F.plainAttrs_dict PySem.F.slot_dict_get PySem.F.type_dict_get (thn (ho pins s σ H _ I h) λu s1 ⟨x,H1,U,rx,a,ex,d,q1⟩=>?_)]
 subst ex;obtain rfl:u=Value.ref a:=rx;let#[t1,t2,_]:=yV U d;erw[t1,t2,?_];rw[m.trees];erw[Ny rfl (Calls.evalArgs_plain (OF (thn (he pins s1 σ H1 _ U q1) λiv s2 ⟨y,H2,Z,ry,q2⟩=>
  OF (thn (hf pins s2 σ H2 _ Z q2) λfv s3 ⟨z,Y,I3,rz,ov,g,q3⟩=>Calls.spliced_nil ?_))))]
 rwa[Dy hu I3 g ry rz λw' s4 I4 O=>#[22,_,Y,I4,O,q3]]
theorem yW(ho:PE X o td)(he:PE X e ty)(m:M1 X o "pop" apos e cpos):PE X (.Call (.Attribute o "pop" apos) [e] [] cpos) (CV td ty):=by
 intro pins s σ H Q I h;erw[wpAny_Call_method m.base m.few m.line PySem.F.plainAttrs_dict PySem.F.slot_dict_pop PySem.F.type_dict_pop (thn (ho pins s σ H _ I h) λu s1 ⟨x,H1,U,rx,a,ex,d,q1⟩=>?_)]
 subst ex;obtain rfl:u=Value.ref a:=rx;let#[t1,t2,_]:=yV U d;erw[t1,t2,?_];rw[m.trees];erw[Ny rfl (Calls.evalArgs_plain (OF (thn (he pins s1 σ H1 _ U q1) λiv s2 ⟨y,H2,Y,ry,kvs,k,v,ea,ey,l,q2⟩=>Calls.spliced_nil ?_)))]
 subst ey;rwa[ES Y ea ry l (.inl rfl) λw' s3 Z O=>#[22,v,_,Z,O,q2]]
end
section
variable [DecidableEq κ]
theorem wO{p:κ×V}{r:List (κ×V)}{k:κ}(e:p.1=k):dG (p::r) k=dG r k:=by
 unfold dG;rw[Pb,t_ (by simp[e])]
theorem v5{p:κ×V}{r:List (κ×V)}{k:κ}(e:¬p.1=k):dG (p::r) k=p::dG r k:=by
 unfold dG;rw[Pb,u_ (by simp[e])]
end
def InR(n:Nat)(P:α->Prop):KasT α->Prop
 |.ret a=>P a
 |.ask i j k=>i<n/\j<n/\∀b,InR n P (k b)
theorem InR.bind{P:α->Prop}{Q:β->Prop}{f:α->KasT β}:∀{t:KasT α},InR n P t->(∀a,P a->InR n Q (f a))->InR n Q (t.bind f)
 |.ret a,h,hf=>hf a h
 |.ask i j k,h,hf=>#[h.1,h.2.1,λb=>InR.bind (h.2.2 b) hf]
theorem InR.ite{P:α->Prop}{c:Prop}[Decidable c]{t u:KasT α}(h1:InR n P t)(h2:InR n P u):InR n P (if c then t else u):=by
 split
 ·rwa[h1]
 ·rwa[h2]
def Lo(n:Nat)(p:Array Nat):Prop:=∀x∈p,x<n
theorem Lo.at(h:Lo n p)(h0:0<n)(i:Nat):p.getD i 0<n:=by
 rw[pY];cases e:p[i]? with
 |none=>rwa[h0]
 |some x=>rwa[h x (Array.mem_of_getElem? e)]
theorem Lo.of{q:Array Nat}(h:Lo n p)(e:q.Perm p):Lo n q:=λx O=>h x (e.mem_iff.mp O)
section
variable (h0:0<n)
include h0
theorem o9(hp:Lo n p):∀f m,InR n (λ_=>True) (kas_asc p f m)
 |0,m=>trivial
 |f+1,m=>#[hp.at h0 _,hp.at h0 _,λb=>.ite trivial (o9 hp f (m+1))]
theorem iK:∀f p m q,Lo n p->InR n (λr=>Lo n r.1) (kas_desc f p m q)
 |0,p,m,q,hp=>hp
 |f+1,p,m,q,hp=>#[hp.at h0 _,hp.at h0 _,λb=>.ite (.ite (iK f _ _ _ (hp.of (mirror_perm _ _ _ _))) (iK f _ _ _ hp))
   #[hp.at h0 _,hp.at h0 _,λd=>.ite hp (iK f _ _ _ hp)]]
theorem mY(hp:Lo n p)(m k:Nat):InR n (λr=>Lo n r.2) (kas_tail3 m k p):=
 (o9 h0 (hp.of (mirror_perm _ _ _ _)) _ _).bind λ_ _=>hp.of (mirror_perm _ _ _ _)
theorem iT(hp:Lo n p)(m k:Nat):InR n (λr=>Lo n r.2) (kas_descPart m k p):=
 (iK h0 _ _ _ _ hp).bind λr O=>.ite (mY h0 (O.of (mirror_perm _ _ _ _)) _ _) (mY h0 O _ _)
theorem wo(hp:Lo n p)(k:Nat):InR n (λr=>Lo n r.2) (kas_count k p):=
 (o9 h0 hp _ _).bind λm _=>.ite hp (.ite #[hp.at h0 _,hp.at h0 _,λc=>.ite hp (iT h0 (hp.of (mirror_perm _ _ _ _)) _ _)] (iT h0 hp _ _))
theorem i4(hp:Lo n p)(k:Nat):∀f l r,InR n (λ_=>True) (kas_place p k f l r)
 |0,l,r=>trivial
 |f+1,l,r=>.ite trivial #[hp.at h0 _,hp.at h0 _,λc=>.ite (i4 hp k f _ _) (i4 hp k f _ _)]
theorem uf:∀f p k,Lo n p->InR n (λ_=>True) (kas_bin f p k)
 |0,p,k,hp=>trivial
 |f+1,p,k,hp=>(i4 h0 hp k _ _ _).bind λl _=>uf f _ _ (hp.of (bubble_perm _ _ _))
theorem qm:InR n (λ_=>True) (kas_sort n):=
 (wo h0 (λx U=>by simpa using U) n).bind λr O=>.ite (uf h0 _ _ _ O) trivial
end
theorem xz{cmp:Nat->Nat->(Bool->Shared->Prop)->Shared->Prop}{P:α->Prop}{Q:α->Shared->Prop}(h:∀i j C,i<n->j<n->C (c i j) s->cmp i j C s):
  ∀{t:KasT α},InR n P t->Q (ev c t) s->t.kasWp cmp Q s
 |.ret a,_,q=>q
 |.ask i j k,r,q=>h i j _ r.1 r.2.1 (xz h (r.2.2 (c i j)) q)
def klt(a b:Int×List Int):Bool:=if a.1=b.1 then(if a.2=b.2 then false else HT.lexLt a.2 b.2) else decide (a.1<b.1)
section
def KeyR(K:Frag)(H:Hp)(y:V)(k:Int×List Int):Prop:=∃a t,y=.ref a/\H a=some (.tup [.int k.1,.ref t])/\SqT K H t (k.2.map V.int)
theorem Cw{x:V}{v:Value}{j k:Int×List Int}{Q:Bool->Shared->Prop}(hu:A.units+64<cLine)(I:Inv X pins σ H s)(hx:KeyR X.K H x j)(hy:KeyR X.K H y k)(rx:Fy x u)(ry:Fy y v)(h:Q (klt j k) s):wpAny (model X.prog X.w) A (keyLt' (tuples' true) u v) Q E s:=by
 let#[a,ta,1,ha,O]:=hx;let#[b,tb,1,hb,htb]:=hy;cases rx;cases ry;let#[_,its,Y,p1]:=(show FC X.prog X.w H s.heap a (.tup _) from I.hok a _ ha)
 let#[_,ac,Z,p2]:=(show FC X.prog X.w H s.heap b (.tup _) from I.hok b _ hb)
 let#[#[cls,dd,data,sl],ho,hc,n,hd]:=id p1;let#[#[a',au,a6,b1],a9,ax,n2,a8]:=id p2;cases Y with
 |cons q1 Y=>cases Y with
  |cons q2 Y=>
   cases Y;cases Z with
   |cons q3 Z=>cases Z with
    |cons q4 Z=>
     cases Z;let#[t1,1]:=q1;let#[t3,1]:=q3;cases q2;cases q4;erw[kat_lt ho hd a9 a8 (kat_cons (wpAny_eqBool_int (kat_go (λe=>kat_yes ?_) λe=>kat_no ?_)))]
     ·have e1:j.1=k.1:=by simpa using e
      unfold klt at h;rw[u_ e1] at h;let#[as,ra]:=(dB O).reads I rfl;let#[bs,rb]:=(dB htb).reads I rfl;let#[b0,r3,p3,_]:=I.tuple O;let#[ad,r4,p4,_]:=I.tuple htb;have a7:SeqAt.EqAt A s (.ref ta) (.ref tb) (decide (j.2=k.2)):=by
       by_cases U:ta=tb
       ·subst U;rw[p_ (ig (I.tuple_inj O htb))];rwa[SeqAt.EqAt.same _]
       ·rwa[SeqAt.EqAt.of_refs U λprog w E Q' hq=>eq_dataH ra rb (bH _) (bH _) hu (by rw[iL];rwa[hq])]
      erw[kat_cons (a7 _ _ _ _ ?_)];erw[kat_go (λe=>kat_yes (kat_nil ?_)) λe=>kat_no ?_]
      ·rw[u_ (A_ e)] at h;rwa[h]
      ·rw[t_ (of_decide_eq_false e)] at h;rwa[kat_one _ _ (HT.lt_tupInts p3 p4 (eh r3) (eh r4) () h)]
     ·have e1:¬j.1=k.1:=by simpa using e
      unfold klt at h;rw[t_ e1] at h;rwa[oneLt_int h]
end
section
theorem KeyR.but{p:Addr}{k:Int×List Int}(hp:H p=some (.lst xs))(hk:∀c o,H c=some o->c≠p->H' c=some o)(h:KeyR K H y k):KeyR K H' y k:=by
 let#[a,t,1,O,U]:=h;erw[22,a,t,1,hk _ _ O (aw O hp #[3]),?_]
 rcases U with(h|⟨o,h⟩)|h
 ·rwa[.inl (.inl (hk _ _ h (aw h hp #[3])))]
 ·rwa[.inl (.inr #[o,hk _ _ h (aw h hp #[3])])]
 ·rwa[.inr h]
theorem KeyR.same{k:Int×List Int}(e:Fu H H')(h:KeyR K H y k):KeyR K H' y k:=by
 let#[a,t,1,O,U]:=h;rwa[22,a,t,1,e _ _ O,e.sqT U]
abbrev F2(K:Frag)(H:Hp):List V->List (Int×List Int)->Prop:=Paired (KeyR K H)
theorem F2.imp(hh:∀y k,KeyR K H y k->KeyR K H' y k):∀{ys:List V} {ks:List (Int×List Int)},F2 K H ys ks->F2 K H' ys ks
 |_,_,.nil=>.nil
 |_,_,.cons q r=>.cons (hh _ _ q) (F2.imp hh r)
theorem F2.snoc{k:Int×List Int}(q:KeyR K H y k):∀{ys:List V} {ks:List (Int×List Int)},F2 K H ys ks->F2 K H (ys++[y]) (ks++[k])
 |_,_,.nil=>.cons q .nil
 |_,_,.cons p r=>.cons p (F2.snoc q r)
theorem F2.get:∀{ys:List V} {ks:List (Int×List Int)} {i:Nat} {y:V},F2 K H ys ks->ys[i]? = some y->∃k,ks[i]? = some k/\KeyR K H y k
 |_,_,0,y,.cons q r,e=>by cases e;rwa[0,q]
 |_::_,_::_,i+1,y,.cons q r,e=>F2.get (i:=i) r e
theorem nR(I:Inv X pins σ H s):∀{ys:List V} {ks:List (Int×List Int)} {us:List Value},F2 X.K H ys ks->Fw ys us->∃fs:List Value,KatTups s.heap us fs/\fs.length=us.length/\∀v∈fs,∃n t,v=Value.int n t
 |_,_,_,.nil,.nil=>#[[],.nil,1,λ_ h=>nomatch h]
 |_,_,_,.cons q r,.cons p v=>by
  let#[fs,h1,h2,h3]:=nR I r v;let#[a,t,1,Y,ht]:=q;cases p;let#[_,its,U,p1]:=(show FC X.prog X.w H s.heap a (.tup _) from I.hok a _ Y)
  let#[#[cls,dd,data,sl],ho,Z,n,hd]:=id p1;cases U with
  |cons q1 U=>
   let#[t1,1]:=q1;erw[.int _ t1::fs,.cons ho Z hd rfl h1,by simp[h2],λv O=>?_]
   rcases GH.mp O with rfl|O
   ·rwa[20,_,0]
   ·rwa[h3 v O]
theorem mU{f:Value}{φ:Heap->Prop}{key:V->Int×List Int}{body:Value->PUnit->Sem (ForInStep PUnit)}{R:PUnit->Shared->Prop}{all:List V}(h0:H0 kS=none)(hn:all.length<64)(hf:∀x∈all,∀u H1 s1,Fy x u->Inv X pins σ H1 s1->Fu H0 H1->wpAny (model X.prog X.w) A (call f [u]) (λk s2=>∃y H2,Inv X pins σ H2 s2/\Fy y k/\Fu H1 H2/\KeyR X.K H2 y (key x)) (λ_ _=>False) s1)(hb:∀u (s1:Shared) (C:Shared->Prop),wpAny (model X.prog X.w) A (call f [u]) (λk s2=>∃(ks:List Value) (n:Nat),s2.heap.get? kS=some (seqObj "list" (List.toArray ks) n)/\ks.length<64/\C { s2 with heap:=s2.heap.update kS (Obj.mapSeq (·.push k)) }) (λ_ _=>False) s1->
   wpAny (model X.prog X.w) A (body u ⟨⟩) (λr s2=>r=.yield ⟨⟩/\C s2) E s1)(hR:∀H1 s1 ys ks,Inv X pins σ H1 s1->Fu H0 H1->H1 D=some (.ext φ)->H1 kS=some (.lst ys)->F2 X.K H1 ys ks->ks=all.map key->R ⟨⟩ s1):
  ∀(r pre:List V) (us:List Value) (ys:List V) (H1:Hp) (s1:Shared),all=pre++r->Fw r us->Inv X pins σ H1 s1->Fu H0 H1->H1 D=some (.ext φ)->H1 kS=some (.lst ys)->F2 X.K H1 ys (pre.map key)->
   wpAny (model X.prog X.w) A (forIn us PUnit.unit body) R E s1
 |[],pre,us,ys,H1,s1,ea,rv,I,sm,hD,hk,kr=>by
  cases rv;rw[forIn_nil];rwa[i_ (hR H1 s1 ys _ I sm hD hk kr (by rw[ea,Mg]))]
 |x::r,pre,us,ys,H1,s1,ea,rv,I,sm,hD,hk,kr=>by
  cases rv with
  |cons q rv=>
   rename_i u us;rw[forIn_cons];have hx:x∈all:=by rw[ea];simp
   have a7:ys.length=pre.length:=by have:=Paired.length kr;rw[k_] at this;rwa[this]
   have a6:all.length=pre.length+(r.length+1):=by rw[ea,y_,Mf]
   erw[c_ (LF (hb u s1 (λs2=>wpAny (model X.prog X.w) A (forIn us PUnit.unit body) R E s2) (LF (hf x hx u H1 s1 q I sm) (λk s2 ⟨y,H2,U,ry,O,ky⟩=>?_) λ_ _ z=>z)) (λz s2 ⟨Z,hz⟩=>?_) λ_ _ z=>z)]
   ·let#[_,its,n,rk,lk,ek]:=U.lstM (O _ _ hk);erw[22,its,n,ek,(),?_]
    have Y:=U.lset (t':=s2.toks) (f:=(·.push k)) (its':=its++[k]) (ys:=ys++[y]) (O _ _ hk) ek (by simp) (rk.append (.cons ry .nil)) (by rw[y_,GV,Gr];lia)
    have keep:∀c o,H2 c=some o->c≠kS->upd H2 kS (.lst (ys++[y])) c=some o:=λc o e ne=>by rw[al ne];rwa[e]
    erw[mU h0 hn hf hb hR r (pre++[x]) us (ys++[y]) _ _ (by rw[ea];simp) rv Y (λc o e=>?_) ?_ ae ?_]
    ·rwa[keep c o (O _ _ (sm c o e)) (ah e h0)]
    ·rwa[keep D _ (O _ _ hD) (aw hD hk #[3])]
    ·rw[KB];rwa[F2.snoc (ky.but (O _ _ hk) keep) (F2.imp (λ_ _ z=>(z.same O).but (O _ _ hk) keep) kr)]
   ·subst Z;rwa[hz]
end
theorem gA:∀{a b c:List Int},HT.lexLt a b=true->HT.lexLt b c=true->HT.lexLt a c=true
 |[],[],_,h,_=>by simp[HT.lexLt] at h
 |[],_::_,[],_,h=>by simp[HT.lexLt] at h
 |[],_::_,_::_,_,_=>rfl
 |_::_,[],_,h,_=>by simp[HT.lexLt] at h
 |_::_,_::_,[],_,h=>by simp[HT.lexLt] at h
 |x::a,y::b,z::c,h1,h2=>by
  rw[HT.lexLt_cons] at h1 h2 ⊢
  by_cases O:x=y
  ·subst O;rw[u_ rfl] at h1
   by_cases e2:x=z
   ·rw[u_ e2] at h2 ⊢;rwa[gA h1 h2]
   ·rw[t_ e2] at h2 ⊢;rwa[h2]
  ·rw[t_ O] at h1;have U:=A_ h1
   by_cases e2:y=z
   ·subst e2;rw[t_ O];rwa[h1]
   ·rw[t_ e2] at h2;have Y:=A_ h2;rw[t_ ()]
    rwa[p_ ()]
theorem nZ:∀{a b:List Int},a≠b->HT.lexLt a b=false->HT.lexLt b a=true
 |[],[],h,_=>absurd rfl h
 |[],_::_,_,h=>by simp[HT.lexLt] at h
 |_::_,[],_,_=>rfl
 |x::a,y::b,h,h1=>by
  rw[HT.lexLt_cons] at h1 ⊢
  by_cases e:x=y
  ·subst e;rw[u_ rfl] at h1 ⊢;rwa[nZ (λz=>h (by rw[z])) h1]
  ·rw[t_ e] at h1;rw[t_ (λz=>e z.symm)]
   have:=of_decide_eq_false h1;rwa[p_ ()]
theorem ft:∀a:List Int,HT.lexLt a a=false
 |[]=>rfl
 |x::a=>by rw[HT.lexLt_cons,u_ rfl];rwa[ft a]
theorem gc(a b:Int×List Int):klt a b=if a.1=b.1 then HT.lexLt a.2 b.2 else decide (a.1<b.1):=by
 unfold klt
 by_cases e:a.2=b.2
 ·rw[u_ e,e,ft]
 ·rw[t_ e]
theorem m9{a b c:Int×List Int}(h1:klt a b=true)(h2:klt b c=true):klt a c=true:=by
 rw[gc] at *
 by_cases O:a.1=b.1
 ·rw[u_ O] at h1
  by_cases e2:b.1=c.1
  ·rw[u_ e2] at h2;rw[u_ (O.trans e2)];rwa[gA h1 h2]
  ·rw[t_ e2] at h2;rw[t_ (by rw[O];rwa[e2]),O]
   rwa[h2]
 ·rw[t_ O] at h1;have U:=A_ h1
  by_cases e2:b.1=c.1
  ·rw[t_ (by rw[<- e2];rwa[O]),<- e2]
   rwa[h1]
  ·rw[t_ e2] at h2;have Y:=A_ h2;rw[t_ ()]
   rwa[p_ ()]
theorem vH{a b:Int×List Int}(h:a≠b)(h1:klt a b=false):klt b a=true:=by
 rw[gc] at *
 by_cases e:a.1=b.1
 ·rw[u_ e] at h1;rw[u_ e.symm];rwa[nZ (λz=>h (NU e z)) h1]
 ·rw[t_ e] at h1;have:=of_decide_eq_false h1;rw[t_ (λz=>e z.symm)]
  rwa[p_ ()]
theorem uo(a:Int×List Int):klt a a=false:=by rw[gc,u_ rfl,ft]
def kAt(ks:List (Int×List Int))(i j:Nat):Bool:=klt (ks.getD i (0,[])) (ks.getD j (0,[]))
theorem uD{ks:List (Int×List Int)}(hn:ks.Nodup):Tot ks.length (kAt ks):=by
 erw[λi j k _ _ _=>m9,λi j hi U O h=>vH (λz=>O ?_) h]
 have g:∀{i:Nat} (hi:i<ks.length),ks.getD i (0,[])=ks[i]:=λhi=>by simp[List.getD,hi]
 rw[g hi,g U] at z;exact(getElem_inj hn).mp z
section
theorem nG{P:PySem.Fin->Shared->Prop}{st:SortSt}{out:List Value}{zs:List V}(hout:(arrOf st).map (·.2)=List.toArray out)(hz:out.length<64)(hf:failedOf st=none)(I:Inv X pins σ H s)(h0:H0 kS=none)(h1:H0 D=none)(sm:Fu H0 H)(hD:H D=some (.ext λh=>h.get? D=some (seqObj "list" (List.toArray []) e1)))(hk:H kS=some (.lst ys))(rv:Fw zs out.reverse)(h:∀H2 s2,Inv X pins σ H2 s2->Fu H0 H2->H2 D=some (.lst zs)->P (.done (.ret .none)) s2):wpAny (model X.prog X.w) A (ksk_tail D true e1 (.ref kS) st) P E s:=by
 have ne:D≠kS:=aw hD hk #[3]
 have Y:zs.length=out.length:=by rw[rv.length,K_]
 let#[lz,its,n,rk,lk,ek]:=I.lstM hk;have Z:=I.lset (t':=s.toks) (f:=λ_=>(List.toArray [])) (its':=[]) (ys:=[]) hk ek rfl .nil (Gw _)
 have O:upd H kS (.lst []) D=some (.ext λh=>h.get? D=some (seqObj "list" (List.toArray []) e1)):=by rw[al ne];rwa[hD]
 have U:(s.heap.update kS (Obj.mapSeq λ_=>(List.toArray []))).get? D=some (seqObj "list" (List.toArray []) e1):=(show FC X.prog X.w _ _ D (.ext _) from Z.hok D _ O).1
 have q:=OS U (λ_=>List.toArray out.reverse)
 have I2:Inv X pins σ (upd (upd H kS (.lst [])) D (.lst zs)) { s with heap:=(s.heap.update kS (Obj.mapSeq λ_=>(List.toArray []))).update D (Obj.mapSeq λ_=>List.toArray out.reverse),toks:=s.toks }:=
  Z.write (x:=D) (e:=D) (by rw[O];rwa[trivial]) (.inl rfl) (λb' u hb hu=>(LP _ _ (Ne.symm hb)).trans hu) #[_,q] #[0121,by rw[Y,Gr];lia,out.reverse,_,rv,q]
 unfold ksk_tail;dsimp only;rw[hout,kat_outs,show katRev true out=out.reverse from u_ rfl]
 erw[c_ (OT ek rfl ?_ (by rw[GR,<- lk];rwa[lz]) (Gw _))]
 erw[c_ (Oz ?_)];erw[c_ (seqEpoch_at U rfl ?_)];erw[c_ (OT U rfl ?_ (Gw _) (by rw[GR,K_,Gr];lia))]
 rw[hf];simp only[bne_self_eq_false,LW,On];erw[i_ (h _ _ I2 (λc o e=>?_) ae)]
 rw[al (ah e h1),al (ah e h0)];rwa[sm c o e]
end
theorem gq{l:List α}{d:α}{i:Nat}(h:i<l.length):l.getD i d=l[i]:=by simp[List.getD,h]
theorem w8(l:List α)(d:α):(List.range l.length).map (λi=>l.getD i d)=l:=by
 apply List.ext_getElem
 ·simp
 ·intro i h1 h2;rw[List.getElem_map,List.getElem_range,gq h2]
def jS(p:Array Nat)(xs:List α)(d:α):List α:=p.toList.map λi=>xs.reverse.getD i d
theorem nH{xs:List α}{d:α}(hp:Pm xs.length p):((jS p xs d).reverse).Perm xs:=by
 refine(OK _).trans (((hp.map _).trans ?_).trans (OK xs));rw[show List.map (λi=>xs.reverse.getD i d) (List.range xs.length)=xs.reverse by rw[<- K_ (as:=xs)];rwa[w8 _ _]]
theorem Pm.mem(hp:Pm n p){i:Nat}(h:i∈p.toList):i<n:=ME.mp (hp.mem_iff.mp h)
theorem mG(hp:Pm xs.length p)(rv:Fw xs us):Fw (jS p xs .non) (jS p us Value.none):=by
 have r:=rv.reverse;have go:∀l:List Nat,(∀i∈l,i<xs.length)->Fw (l.map λi=>xs.reverse.getD i .non) (l.map λi=>us.reverse.getD i Value.none):=by
  intro l
  induction l with
  |nil=>intro _;rwa[.nil]
  |cons i l ih=>
   intro h;have hi:i<xs.reverse.length:=by rw[K_];rwa[h i (by simp)]
   erw[.cons ?_ (ih λj O=>h j (by simp[O]))]
   let#[u,e,q]:=r.get (e_ hi);show Fy (xs.reverse.getD i .non) (us.reverse.getD i Value.none);rw[gq hi,Gc,e];rwa[q]
 rwa[go _ λi hi=>hp.mem hi]
theorem mE{key:V->Int×List Int}(hp:Pm xs.length p)(hs:So (kAt (xs.map key).reverse) p xs.length):((jS p xs .non).reverse).Pairwise λx y=>klt (key y) (key x)=true:=by
 rw[List.pairwise_reverse];unfold jS;rw[Oc,List.pairwise_iff_getElem];intro i j hi O U;rw[Lj,hp.sz] at hi O;have z:=hs i j U O;unfold kAt at z;have g:∀k (hk:k<xs.length),key (xs.reverse.getD (p.getD k 0) .non)=(xs.map key).reverse.getD (p.getD k 0) (0,[]):=λk hk=>by
  have h1:p.getD k 0<xs.length:=hp.lt hk;rw[gq (by rw[K_];rwa[h1]),gq (by rw[K_,k_];rwa[h1])]
  simp
 rw[<- g i hi,<- g j O,qb (by rw[hp.sz];rwa[hi]),qb (by rw[hp.sz];rwa[O])] at z
 rwa[z]
section
theorem xq{P:PySem.Fin->Shared->Prop}{its:List Value}{key:V->Int×List Int}(hu:A.units+64<cLine)(I:Inv X pins σ H s)(h0:H0 kS=none)(h1:H0 D=none)(sm:Fu H0 H)(hD:H D=some (.ext λh=>h.get? D=some (seqObj "list" (List.toArray []) e1)))(hk:H kS=some (.lst ys))(kr:F2 X.K H ys (xs.map key))(ru:Fw ys us)(rv:Fw xs its)(h64:xs.length<64)(nd:(xs.map key).Nodup)(h:∀H2 s2 zs,Inv X pins σ H2 s2->Fu H0 H2->H2 D=some (.lst zs)->zs.Perm xs->zs.Pairwise (λx y=>klt (key y) (key x)=true)->P (.done (.ret .none)) s2):wpAny (model X.prog X.w) A (ksk_end D true its.toArray e1 (.ref kS) us.toArray) P E s:=by
 have lx:=rv.length;have lu:=ru.length;have ly:ys.length=xs.length:=by have:=Paired.length kr;rw[k_] at this;rwa[this]
 have Z:us.length=its.length:=()
 unfold ksk_end;dsimp only;rw[u_ rfl];erw[c_ (PF ?_)]
 by_cases h2:its.toArray.size<2
 ·rw[u_ h2,u_ h2];erw[c_ (i_ ?_)];rw[StateT.run_pure];erw[c_ (i_ ?_)];dsimp only;rw[kat_pairs true Z,show katRev true us=us.reverse from u_ rfl,show katRev true its=its.reverse from u_ rfl]
  erw[nG (st:=SortSt.mk' general' _ (List.toArray []) 7 none) (out:=its.reverse) (zs:=xs) ?_ (by rw[K_];lia) rfl I h0 h1 sm hD hk (by rw[reverse_reverse];rwa[rv]) λH2 s2 I2 U q=>h H2 s2 xs I2 U q (.refl _) ?_]
  ·show Array.map (·.2) ((us.reverse.toArray).zip (its.reverse.toArray))=_;apply Array.toList_inj.mp;rw[Array.toList_map,ksk_zip];rwa[List.map_snd_zip (by simp[Z])]
  ·rw[GR] at h2
   match xs,(():xs.length<2) with
   |[],_=>rwa[.nil]
   |[x],_=>rwa[pairwise_singleton _ _]
 ·rw[t_ h2,t_ h2];rw[GR] at h2;let#[fs,t1,t2,t3]:=nR I kr ru;erw[c_ (kat_kind (T:=.type "int") t1 () (λv hv=>?_) #[] ?_)]
  ·let#[n,t,1]:=t3 v hv;rwa[Looks.of_pure rfl]
  rw[show(Value.type "int" != Value.type "tuple")=true by decide,kat_pairs true Z,show katRev true us=us.reverse from u_ rfl,show katRev true its=its.reverse from u_ rfl]
  have a6:=uD (ks:=(xs.map key).reverse) ((OK _).nodup_iff.mpr nd);rw[K_,k_] at a6;let#[hp,hs]:=uM a6 ()
  erw[c_ (LF (kat_run (vs:=its.reverse) (ks:=us.reverse) (G:=λp s'=>p=ev (kAt (xs.map key).reverse) (kas_sort xs.length)/\s'=s)
   (Q:=λO s'=>s'=s/\failedOf O=none/\arrOf O=(ev (kAt (xs.map key).reverse) (kas_sort xs.length)).map (kas_item ((List.toArray us.reverse).zip (List.toArray its.reverse))))
   (by rw[K_,K_];rwa[Z]) (by rw[K_];lia) (by rw[K_];lia) (λp O s' a1 a2 a3 a4=>#[a4.2,a3,by rw[<- a4.1];rwa[a2]]) ?_) ?_ λ_ _ x=>x)]
  ·rw[K_,<- lx];erw[xz (c:=kAt (xs.map key).reverse) (λi j C hi hj hC=>?_) (qm ()) #[1,1]]
   show wpAny _ _ (keyLt' _ (us.reverse.getD i Value.none) (us.reverse.getD j Value.none)) C _ s;have at_:∀i,i<xs.length->∃y u,us.reverse.getD i Value.none=u/\Fy y u/\KeyR X.K H y ((xs.map key).reverse.getD i (0,[])):=λi hi=>by
    have Y:xs.length-1-i<ys.length:=()
    let#[k,ek,kk]:=F2.get kr (e_ Y);let#[u,eu,a7]:=ru.get (e_ Y);erw[22,ys[xs.length-1-i],u,?_,a7,?_]
    ·rw[Gc,getElem?_reverse (),show us.length-1-i=xs.length-1-i by lia,eu]
     rfl
    ·rw[Gc,getElem?_reverse (by rw[k_];rwa[hi]),k_,ek]
     rwa[kk]
   let#[y1,u1,e1,r1,k1]:=at_ i hi;let#[y2,u2,e2,r2,k2]:=at_ j hj;rw[e1,e2];rwa[Cw hu I k1 k2 r1 r2 hC]
  ·rintro⟨⟨⟩,O⟩ s' ⟨es,hf,har⟩;dsimp only at es hf har ⊢;subst es;erw[nG (out:=jS (ev (kAt (xs.map key).reverse) (kas_sort xs.length)) its Value.none) (zs:=(jS (ev (kAt (xs.map key).reverse) (kas_sort xs.length)) xs .non).reverse) (kat_snds (by rw[K_,K_];rwa[Z]) har) ?_ hf I h0 h1 sm hD hk (mG hp rv).reverse
    λH2 s2 I2 U q=>h H2 s2 _ I2 U q (nH hp) (mE hp hs)]
   unfold jS;rw[k_,Lj,hp.sz];rwa[h64]
end
section
def C9(X:Cx)(pins:List (Addr×Obj))(σ:St)(A:Around)(f:Value)(H0:Hp)(xs:List V)(key:V->Int×List Int):Prop:=
 ∀x∈xs,∀u H1 s1,Fy x u->Inv X pins σ H1 s1->Fu H0 H1->wpAny (model X.prog X.w) A (call f [u]) (λk s2=>∃y H2,Inv X pins σ H2 s2/\Fy y k/\Fu H1 H2/\KeyR X.K H2 y (key x)) (λ_ _=>False) s1
theorem wk{P:PySem.Fin->Shared->Prop}{f:Value}{key:V->Int×List Int}(hu:A.units+64<cLine)(I:Inv X pins σ H s)(h1:H0 D=none)(sm:Fu H0 H)(hD:H D=some (.lst xs))(h64:xs.length<64)(nd:(xs.map key).Nodup)(hf:C9 X pins σ A f H0 xs key)(h:∀H2 s2 zs,Inv X pins σ H2 s2->Fu H0 H2->H2 D=some (.lst zs)->zs.Perm xs->zs.Pairwise (λx y=>klt (key y) (key x)=true)->P (.done (.ret .none)) s2):wpAny (model X.prog X.w) A (ksk_tree D f true) P E s:=by
 let#[lz,its,n,rv,lk,e]:=I.lstM hD;have q:=OS e (λ_=>(List.toArray []))
 have I1:Inv X pins σ (upd H D (.ext λh=>h.get? D=some (seqObj "list" (List.toArray []) (if (((List.toArray []):Array Value).size==its.toArray.size)=true then n else n+1)))) { s with heap:=s.heap.update D (Obj.mapSeq λ_=>(List.toArray [])),toks:=s.toks }:=
  I.write (x:=D) (e:=D) (by rw[hD];rwa[trivial]) (.inl rfl) (λb' u hb hu=>(LP _ _ (Ne.symm hb)).trans hu) #[_,q] #[q,#[_,q],λ_ _ p k=>k _ p]
 have I2:=I1.laid (t':=s.toks) (o:=.tup xs) (λb ob z=>h_ { cls:=.type "tuple",data:=.seq its.toArray } z) (ge _) #[by rw[Gr];lia,its,rv,IsTup.new _ _]
 have I3:=I2.lnew (t':=s.toks) (ys:=[]) (its:=[]) .nil (Gw _);have nT:=I1.fresh;have nK:=I2.fresh;have Z:upd H D (.ext λh=>h.get? D=some (seqObj "list" (List.toArray []) (if (((List.toArray []):Array Value).size==its.toArray.size)=true then n else n+1))) D=some (.ext λh=>h.get? D=some (seqObj "list" (List.toArray []) (if (((List.toArray []):Array Value).size==its.toArray.size)=true then n else n+1))):=ae
 have s1:Fu H0 (upd H D (.ext λh=>h.get? D=some (seqObj "list" (List.toArray []) (if (((List.toArray []):Array Value).size==its.toArray.size)=true then n else n+1)))):=sm.put h1
 have a6:=Fu.new (o:=.tup xs) nT _ _ Z;have s2:=s1.trans (Fu.new (o:=.tup xs) nT);have a7:=Fu.new (o:=.lst []) nK _ _ a6;have s3:=s2.trans (Fu.new (o:=.lst []) nK);have O:=s2.free nK;unfold ksk_tree;erw[c_ (listItems_at e rfl ?_)];erw[c_ (OT e rfl ?_ (by rw[GR,Gr];lia) (Gw _))]
 erw[c_ (seqEpoch_at q rfl ?_)];erw[c_ (wpAny_newTuple ?_ (by show its.length<=_;rw[Gr];lia))]
 erw[c_ (OU ?_ (Gw _))];erw[Ll ?_];unfold ksk_rest;erw[c_ (PF ?_)]
 first
  |rw[List.forIn_toArray]
  |(rw[<- Array.forIn_toList];simp only[List.toList_toArray])
  |rw[<- Array.forIn_toList]
 erw[c_ (mU (all:=xs) O h64 hf (λu s1 C hc=>?_) (λH4 s4 ys ks I4 a9 a8 U kr ek=>?_) xs [] its [] _ _ rfl rv I3 s3 a7 ae .nil)]
 ·erw[c_ (wpAny_attempt (LF hc (λk s5 ⟨ks,m,Y,hz,hC⟩=>?_) λ_ _ z=>z.elim))]
  dsimp only;erw[c_ (OT Y rfl ?_ (by rw[GR,Gr];lia) (Lg (Nat.le_of_eq (Array.size_push ..)) (by rw[GR,Gr];lia)))]
  rwa[i_ #[1,hC]]
 ·dsimp only;let#[_,us,m,ru,_,Y]:=I4.lstM U;erw[c_ (listItems_at Y rfl ?_)];subst ek;rwa[xq hu I4 O h1 a9 a8 U kr ru rv h64 nd h]
end
def DRaw(d:Addr)(es:Array DictEntry)(ep:Nat)(h:Heap):Prop:=∃o,h.get? d=some o/\o.ExactDict/\o.data=.dict es ep
section
variable {i:Nat}
theorem DRaw.typeIs(h:DRaw d es ep s.heap):s.TypeIs (.ref d) "dict":=let ⟨o,ho,hc,_⟩:=h;#[o,ho,hc.1]
theorem DRaw.at(x:DRaw d es ep h)(e:∀o,h.get? d=some o->h'.get? d=some o):DRaw d es ep h':=let ⟨o,ho,r⟩:=x;#[o,e _ ho,r]
theorem qP(hd:(d==sysModules)=false)(hm:DRaw d es ep s.heap)(hQ:Q (.ref s.heap.objs.size) { s with heap:=s.heap.push { cls:=.type "dict_keyiterator",data:=.fields (List.toArray [.ref d,.int 0 0,.int es.size 0,.int ep 0]) } }):wpAny (model prog w) A (pyIter (.ref d)) Q E s:=by
 have U:=hm.typeIs;let#[o,Y,_,O]:=id hm;erw[wpAny_pyIter_slot U F.slot_dict_iter (Lh F.slot_dict_iter U F.entry_dict_iter ?_ (F.args_dict_iter_1 _))];unfold Builtin.«dict.__iter__» Builtin.Dict.dictSlotNone;erw[c_ (c_ (wpAny_notOrdered_dict U (i_ ?_)))];show wpAny _ _ (Builtin.Dict.showsAll d >>= _) _ _ s;unfold Builtin.Dict.showsAll;rw[t_ (by rw[hd];rwa[GT])]
 erw[c_ (i_ (c_ (wpAny_dictEntries Y O (c_ (wpAny_dictEpoch Y O ?_)))))];erw[c_ (KS (i_ #[62,0, "dict_keyiterator",_,#[_,z_ _ rfl,1],F.slot_dict_keyiterator_next.lookup,?_]))];simpa[rawInt] using hQ
theorem iq{Q:Option Value->Shared->Prop}(hh:A.handled=none)(hit:s.heap.IsKeyIter it d i es.size ep)(hm:DRaw d es ep s.heap)(h1:∀(hi:i<es.size) h',h'.IsKeyIter it d (i+1) es.size ep->Heap.SameBut it s.heap h'->Q (some es[i].key) { s with heap:=h' })(h2:es.size<=i->∀h',Heap.ExtBut it s.heap h'->Q none { s with heap:=h' }):wpAny (model prog w) A (pyNext (.ref it)) Q E s:=by
 let#[o,ho,hc,hd]:=id hit;let#[od,a6,_,Z]:=id hm;have O:=hit.typeIs;unfold pyNext;erw[c_ (wpAny_attempt (Mb (name:=Str.ofString "__next__") O F.slot_dict_keyiterator_next (Lh F.slot_dict_keyiterator_next O F.entry_dict_keyiterator_next ?_ (F.args_dict_keyiterator_next_1 _))))];erw[c_ (i_ (c_ (c_ ?_)))]
 first|erw[c_ (wpAny_typeNameOfWhole_keyiter O (i_ ?_))]|erw[c_ (wpAny_typeNameOf_keyiter O (i_ ?_))]
 erw[c_ (wpAny_fieldsOf ho hd ?_)];simp only[show Builtin.Dict_items.ownsTuple "dict_keyiterator" = false by decide,LW,On]
 show wpAny _ _ (if (Value.ref d==Value.none)=true then _ else _) _ _ s
 rw[t_ (show ¬((Value.ref d==Value.none)=true) from GT)]
 erw[c_ (i_ (c_ (wpAny_dictEntries a6 Z ?_)))];rw[t_ (by simp)]
 erw[c_ (i_ (c_ (wpAny_dictEpoch a6 Z ?_)))];rw[t_ (by simp)]
 erw[i_ ?_]
 by_cases U:i<es.size
 ·simp only[show ¬((i:Int)<0) from (),On,Lq,KP U]
  erw[c_ ?_]
  first|erw[c_ (wpAny_typeNameOfWhole_keyiter O (i_ ?_))]|erw[c_ (wpAny_typeNameOf_keyiter O (i_ ?_))]
  erw[c_ (wpAny_isOneOf_keyiter O ?_)];show wpAny _ _ (setField (.ref it) 1 (rawInt ((i:Int)+1)) >>= _) _ _ s;erw[c_ (NR ho hd (by simp) ?_)]
  have Y:(s.heap.update it (Obj.mapFields (·.setIfInBounds 1 (rawInt ((i:Int)+1))))).IsKeyIter it d (i+1) es.size ep:=
   #[_,get?_update_self _ ho (Obj.isFreed_of_fields (OI hd _)),(Obj.cls_mapFields ..).trans hc,by rw[OI hd];simp[rawInt]]
  erw[c_ (Ll (c_ (wpAny_isOneOf_keyiter (s:={ s with heap:=s.heap.update it (Obj.mapFields (·.setIfInBounds 1 (rawInt ((i:Int)+1)))) }) Y.typeIs ?_)))]
  show wpAny _ _ (pure es[i].key) _ _ _;rwa[i_ (i_ #[0,i_ (h1 U _ Y (Mx ..))])]
 ·simp only[show ¬((i:Int)<0) from (),On,Lq,NB (Nat.le_of_not_lt U)]
  erw[c_ ?_]
  first|erw[c_ (wpAny_typeNameOfWhole_keyiter O (i_ ?_))]|erw[c_ (wpAny_typeNameOf_keyiter O (i_ ?_))]
  show wpAny _ _ (setField (.ref it) 0 .none >>= _) _ _ s;erw[c_ (NR ho hd (by simp) ?_)]
  show wpAny _ _ (newExc (.type "StopIteration") [] >>= _) _ _ _;erw[c_ ?_];simp only[newExc,newTuple];erw[c_ (KS ?_ (by size_fits))]
  erw[c_ (m:=firstArgMember _ _) (N_ (a:=Value.none) (by first|rfl|(simp only[firstArgMember];rfl)) ?_)]
  erw[KS ?_ (by size_fits)]
  simp only[raiseNew];erw[c_ (wpAny_handled ?_)];rw[show A.in1.handled=none from hh]
  erw[c_ (i_ (wpAny_throw ?_))];erw[c_ (Oo (T := "StopIteration") (b:=true) #[_,z_ _ rfl,1] isSubtype_stop ?_)];rwa[i_ (h2 (Nat.le_of_not_lt U) _ (((Mx ..).extBut.push _).push _))]
theorem vD(hh:A.handled=none)(it d:Addr)(hne:d≠it)(es:Array DictEntry)(ep:Nat):
  Walks prog w A it [it,d] [it] es.size (λi v=>∃hi:i<es.size,v=es[i].key) (λi h=>h.IsKeyIter it d i es.size ep/\DRaw d es ep h) where
 sub:=λb O=>by simp at O;simp[O]
 frame:=λ_ _ _ st hk=>#[st.1.at λo e=>hk it (by simp) o e,st.2.at λo e=>hk d (by simp) o e]
 item:=λi s Q E hi st U=>iq hh st.1 st.2 (λhi h' Y Z=>U _ h' s.toks #[hi,1] #[Y,st.2.at λo e=>Z.extBut d o hne e] λb o O e=>Z.extBut b o (λh=>O (by simp[h])) e) λa7=>absurd hi (Nat.not_lt.mpr a7)
 done:=λs Q E st U=>iq hh st.1 st.2 (λhi=>absurd hi (Lk _)) λ_ h' a6=>U h' s.toks λb o O e=>a6 b o (λh=>O (by simp[h])) e
 self:=λ_ _ _ _ st U=>wpAny_pyIter_keyiter st.1 U
theorem BI(lo:(d==sysModules)=false):KdlSrc prog w "dict" d d es.size (λi v=>∃hi:i<es.size,v=es[i].key) (DRaw d es ep) where
 type:=λ_ O=>O.typeIs
 there:=λ_ ⟨_,U,_⟩=>#[GP U,GP U]
 keep:=λ_ _ O hk=>O.at λo e=>hk d (.inl rfl) o e
 notList:=#[]
 notTuple:=#[]
 hint:=λ_ _ _ _ O Y=>kdl_hint_dict O.typeIs Y
 iter:=λ_ s Z O=>#[22,_,_,(λ_ _ Y=>qP lo O Y),vD Z _ d (GA (let ⟨_,U,_⟩:=O;GP U)) es ep,#[#[_,z_ _ rfl,1,1],O.at λo e=>h_ _ e]]
end
section
def Src(K:Frag)(H:Hp)(x:V)(B:List V->Prop):Prop:=
 (∃l xs,x=.ref l/\SqL K H l xs/\B xs)\/∃d kvs,x=.ref d/\H d=some (.dT kvs)/\∀as,Paired (λ(p:List Key×V) (a:Addr)=>H a=some (.tup (p.1.map kV))) kvs as->B (as.map V.ref)
theorem fN{x:V}(hh:A.handled=none)(I:Inv X pins σ H s)(rx:Fy x u)(hs:Src X.K H x B)(h:∀h' tk its xs,B xs->Fw xs its->(∀b o,s.heap.get? b=some o->h'.get? b=some o)->xs.length<=sizeLine->R its { s with heap:=h',toks:=tk }):wpAny (model X.prog X.w) A (collect u) R E s:=by
 rcases hs with⟨l,xs,rfl,hl,hB⟩|⟨d,kvs,rfl,hd,hB⟩
 ·cases rx;let#[its,rv,p,Z]:=I.list hl;erw[collect_list (vs:=its) p.isList (h _ s.toks its xs hB rv (λb o q=>?_) Z) (by rw[<- rv.length];rwa[Z])]
  have Y:b<s.heap.objs.size:=GP q;rw[Heap.get?_update_ne _ _ _ _ (GA Y),Heap.get?_push_ne _ _ _ (GA Y)];rwa[q]
 ·cases rx;let#[Z,hm,O,kt,o,es,ep,h1,h2,h3,h4,h5]:=(show FC X.prog X.w H s.heap d (.dT kvs) from I.hok d _ hd)
  have hsz:es.size=kvs.length:=by rw[<- Lj,h4,k_,<- Paired.length kt]
  erw[kdu_collect (BI (es:=es) (ep:=ep) hm) hh #[o,h1,h2,h3] (by rw[hsz];rwa[Z]) λh' tk acc hk ha=>?_]
  have go:∀{l:List (List Key×V)} {m:List (List Key×Addr×Value)},Paired (λ(p:List Key×V) (q:List Key×Addr×Value)=>p.1=q.1/\H q.2.1=some (.tup (p.1.map kV))/\Fy p.2 q.2.2) l m->
    Paired (λ(p:List Key×V) (a:Addr)=>H a=some (.tup (p.1.map kV))) l (m.map (·.2.1)):=by
   intro l m q
   induction q with
   |nil=>rwa[.nil]
   |cons hq t ih=>rwa[.cons hq.2.1 ih]
  have ke:acc.toList=(O.map (·.2.1)).map Value.ref:=by
   apply Pq;intro j;rw[Lv]
   by_cases hj:j<es.size
   ·have U:j<acc.size:=by rw[ha.1];rwa[hj]
    let#[_,e]:=ha.2 j acc[j] (KP U);rw[KP U,e];have e2:es.toList[j]? = (O.map (entryOfKey (tupleKind (aH X.prog X.w))))[j]?:=by rw[h4]
    rw[Lv,KP hj,Ga] at e2;rw[Ga,Ga];cases e3:O[j]? with
    |none=>rw[e3] at e2;cases e2
    |some q=>
     rw[e3] at e2;show some es[j].key=some (Value.ref q.2.1);have e4:es[j]=entryOfKey (tupleKind (aH X.prog X.w)) q:=G_ e2;rw[e4]
     rfl
   ·rw[NB (by rw[ha.1];lia)]
    symm;apply LN;rw[k_,k_,<- Paired.length kt];lia
  have a6:∀l:List Addr,Fw (l.map V.ref) (l.map Value.ref):=by
   intro l
   induction l with
   |nil=>rwa[.nil]
   |cons a l ih=>rwa[.cons rfl ih]
  rw[ke];rwa[h h' tk _ _ (hB _ (go kt)) (a6 _) hk (by rw[k_,k_,<- Paired.length kt];rwa[Z])]
theorem qI{x:V}(hh:X.A.handled=none)(hu:X.A.in1.in1.units+64<cLine)(I:Inv X pins σ H s)(rx:Fy x u)(hs:Src X.K H x B)(hB:∀xs,B xs->xs.length<64/\∃key:V->Int×List Int,(xs.map key).Nodup/\C9 X pins σ X.A.in1.in1 (.ref f) H xs key/\
   ∀D H2 s2 zs,H D=none->Inv X pins σ H2 s2->Fu H H2->H2 D=some (.lst zs)->zs.Perm xs->zs.Pairwise (λx y=>klt (key y) (key x)=true)->Q (.ref D) s2):
  wpAny (model X.prog X.w) X.A (call (.builtin "sorted") [u] [(Str.ofString "key",.ref f),(Str.ofString "reverse",.bool true)]) Q E s:=by
 erw[call_function_entry_kw kind_sorted plain_sorted entry_sorted (ksk_s2 _ _ _) ?_];unfold Builtin.«sorted»;erw[c_ (m:=checkCount "sorted" 1 1 _) (i_ ?_)];erw[c_ (fN (A:=X.A.in1) hh I rx hs λh' tk its xs src rv Y Z=>?_)]
 let#[U,key,nd,kf,h]:=hB xs src;have O:Inv X pins σ H { s with heap:=h',toks:=tk }:=I.kept Y
 have I2:=O.lnew (t':=tk) rv Z;erw[c_ (OU ?_ (by rw[<- rv.length];rwa[Z]))]
 erw[c_ (Ll (wpAny_call_entry_kw slot_list_sort #[_,z_ _ rfl,1] entry_list_sort ?_ (ksk_l2 _ _ _)))];rw[ksk_t2];erw[wk (key:=key) hu I2 O.fresh (Fu.new O.fresh) ae U nd kf λH2 s2 zs I3 sm q pm pw=>#[0,i_ #[0,h _ H2 s2 zs O.fresh I3 sm q pm pw]]]
end
def Co(K:Frag)(sp:Sp)(H1:Hp)(Q:VK)(xs:List V):Prop:=xs.length<64/\∃key:V->Int×List Int,(xs.map key).Nodup/\(∀y∈xs,∀H2,Fu H1 H2->sp [y] H2 (λz H3=>Fu H2 H3/\KeyR K H3 z (key y)) E0)/\
 ∀D H2 zs,H1 D=none->Fu H1 H2->H2 D=some (.lst zs)->zs.Perm xs->zs.Pairwise (λx y=>klt (key y) (key x)=true)->Q (.ref D) H2
def ET(K:Frag)(sp:Sp)(te:TE):TE:=λσ H Q=>te σ H λx H1=>Src K H1 x (Co K sp H1 Q)
section
variable {p kp k1 k2 kp2:Pos}
theorem Cy{A:Around}{k:Nat}{fd:FuncData}{key:V->Int×List Int}(F:aC X.prog X.w X.K X.mg X.base CX0 k f fd ps sp)(hb:FT X.K fd ps [])(hr:FD k X.A.in1.in1)(h:∀y∈xs,∀H2,Fu H0 H2->sp [y] H2 (λz U=>Fu H2 U/\KeyR X.K U z (key y)) E0):C9 X pins σ X.A.in1.in1 (.ref f) H0 xs key:=by
 intro x hx u H1 s1 rx I sm;have h':=h x hx H1 sm;have r2:Fw [x] [u]:=.cons rx .nil;have Z:([u]++[]).length=ps.length:=F.len _ _ _ _ h';erw[wpAny_call (codeAny_mono (F.run X.A.in1.in1 X.stack s1 H1 #[[u],[]] [u] [x] _ E0 hr I.env0.in1.in1 (hb s1 [u] I.kIn Z) r2 h') λr s' O=>?_)]
 cases r with
 |error e=>rwa[O]
 |ok fl=>
  cases fl with
  |ret v=>
   let#[y,H2,Y,ry,q1,q2]:=I.after O;rwa[23,y,H2,Y,ry,q1,q2]
  |next=>rwa[False.elim O]
  |brk=>rwa[False.elim O]
  |cont=>rwa[False.elim O]
theorem zo(T:Blt X.mg){k:Nat}(F:FnB X.prog X.w X.K X.mg X.base k x sp)(hr:FD (k+2) X.A)(he:PE X e te)(hg:Gl X "sorted":=by rfl)(hgx:Gl X x:=by rfl)(hdb:(x==("__debug__" : Str))=false:=by decide)(hs:starEach [e] X.env=[(false,eval e X.env)]:=by rfl):
  PE X (.Call (.Name "sorted" p) [e] [#[some "key",.Name x kp,k1],#[some "reverse",.Constant (.bool true) j kp2,k2]] pos) (ET X.K sp te):=by
 let#[f,fd,ps,F',hm,hk,hb]:=F.ex;intro pins s σ H Q I h;erw[LV (dM I hg T.sorted boot_sorted ?_)];erw[callWith_kw ?_ (by rw[hs];rfl) (by rw[hs];rfl)]
 erw[thn ((aa he ag hs) pos pins s σ H (λvs H1=>match vs with|[v]=>Src X.K H1 v (Co X.K sp H1 Q)|_=>False) I h) λus s1 ⟨vs,H1,I1,Z,Y⟩=>?_]
 match vs,Z,Y with
 |[v],Z,Y=>
  let#[u,1,ru]:=Z.one;erw[thn ((jW (bJ (v:=.ref f) hgx hm rfl hdb) (jW gK sw)) pos pins s1 σ H1 (λzs H2=>zs=[V.ref f,.bl true]/\H2=H1) I1 #[1,1]) λws s2 ⟨zs,H2,I2,r2,e1,e2⟩=>?_]
  subst e1 e2;let#[w1,w2,1,a6,a7]:=r2.two;cases a6;cases a7;erw[qI (f:=f) hr.hd hr.in1.in1.units I2 ru Y λxs ⟨O,key,nd,U,hq⟩=>#[O,key,nd,Cy (A:=X.A) F' hb hr.in1.in1 U,λD H3 s3 zs nD I3 sm q pm pw=>#[22,.ref D,H3,I3,1,hq D H3 zs nD sm q pm pw]]]
end
def Itd(d:Addr)(o:Obj)(u:HO)(vs:List V):It:=#[λi H=>H d=some (.frz o u)/\i<vs.length,λi H x H'=>H'=H/\vs[i]? = some x,λi H=>H d=some (.frz o u)/\vs.length<=i]
theorem wL{o:Obj}{u:HO}{vs:List V}(hx:o.ExactDict)(hd:o.data=.dict es ep)(rv:Fw vs (es.toList.map (·.key))):
  kh P w K tg (Itd d o u vs) [it] it (λi h=>h.IsKeyIter it d i es.size ep) where
 mem:=by simp
 obj:=λi h st b O=>by
  have e:b=it:=by simpa using O
  subst e;let#[o,e,c,d]:=st;rwa[o,e,λv z=>by rw[d] at z;cases z]
 keep:=λi h h' st k=>st.at λo e=>k it (by simp) o e
 item:=by
  intro X hP hw hK hc i pins s σ H E I hf st hg;subst hP hw hK;let#[hD,hi]:=(show H d=some (.frz o u)/\i<vs.length from hg)
  have hl:vs.length=es.size:=by rw[rv.length];simp
  have ho:s.heap.get? d=some o:=(show FC X.prog X.w H s.heap d (.frz o u) from I.hok d _ hD).1
  let#[f0,f1,f2,f3,f4,f5]:=hf it (by simp)
  erw[iq (I.ok.hd hc) st #[o,ho,hx,hd] (λU h' Z sb=>?_) λa7=>absurd hi ()]
  have I1:Inv X pins σ H { s with heap:=h' }:=I.turned (t':=s.toks) (λb o O e=>(sb.2 b O).trans e) f0 f1 f3 f4 f5
  obtain⟨x,Y⟩:∃x,vs[i]? = some x:=#[_,e_ hi]
  let#[v,hv,rx]:=rv.get Y;have a6:es[i].key=v:=by
   rw[Ga,Lv,KP U] at hv;rwa[G_ hv]
  let#[ob,e,c,dd]:=id Z;rwa[0,qC (s:={ s with heap:=h' }) e c dd #[] #[24,x,H,I1,by rw[a6];rwa[rx],#[1,Y],Z,λb O=>(hf b O).1]]
 done:=by
  intro X hP hw hK hc i pins s σ H E I hf st hg;subst hP hw hK;let#[hD,hi]:=(show H d=some (.frz o u)/\vs.length<=i from hg)
  have hl:vs.length=es.size:=by rw[rv.length];simp
  have ho:s.heap.get? d=some o:=(show FC X.prog X.w H s.heap d (.frz o u) from I.hok d _ hD).1
  let#[f0,f1,f2,f3,f4,f5]:=hf it (by simp)
  rwa[iq (I.ok.hd hc) st #[o,ho,hx,hd] (λU=>absurd U ()) λ_ h' eb=>#[1,I.turned (t':=s.toks) (λb o O e=>eb b o O e) f0 f1 f3 f4 f5]]
 self:=λ_ _ _ _ _ st h=>wpAny_pyIter_keyiter st h
def B6(tl:TE):TI:=λσ H R=>tl σ H λx H1=>∃d kvs,x=.ref d/\H1 d=some (.dT kvs)/\∀o as,Paired (λ(p:List Key×V) (a:Addr)=>H1 a=some (.tup (p.1.map kV))) kvs as->R (Itd d o (.dT kvs) (as.map V.ref)) (upd H1 d (.frz o (.dT kvs)))
theorem wZ{m:List (List Key×Addr×Value)}(q:Paired (λ(p:List Key×V) (q:List Key×Addr×Value)=>p.1=q.1/\H q.2.1=some (.tup (p.1.map kV))/\Fy p.2 q.2.2) kvs m):
  Paired (λ(p:List Key×V) (a:Addr)=>H a=some (.tup (p.1.map kV))) kvs (m.map (·.2.1))/\Fw ((m.map (·.2.1)).map V.ref) ((m.map (entryOfKey (tupleKind (aH P w)))).map (·.key)):=by
 induction q with
 |nil=>rwa[.nil,.nil]
 |cons hq t ih=>rwa[.cons hq.2.1 ih.1,.cons rfl ih.2]
theorem AJ{l:Expr}(hl:PE X l tl):PI X tg l (B6 tl):=by
 intro pins s σ H R I h;erw[thn (hl pins s σ H _ I h) λv s1 ⟨x,H1,Y,r1,q1⟩=>?_]
 let#[d,kvs,e,hd,q]:=q1;subst e;cases r1;let#[hz,Z,U,kt,o,es,ep,h1,h2,h3,h4,h5]:=id (show FC X.prog X.w H1 s1.heap d (.dT kvs) from Y.hok d _ hd)
 let#[k1,k2]:=wZ (P:=X.prog) (w:=X.w) kt;have go:∀{l:List (List Key×V)} {m:List (List Key×Addr×Value)},Paired (λ(p:List Key×V) (q:List Key×Addr×Value)=>p.1=q.1/\H1 q.2.1=some (.tup (p.1.map kV))/\Fy p.2 q.2.2) l m->
   Paired (λ(p:List Key×V) (q:List Key×Addr×Value)=>p.1=q.1/\upd H1 d (.frz o (.dT kvs)) q.2.1=some (.tup (p.1.map kV))/\Fy p.2 q.2.2) l m:=by
  intro l m q
  induction q with
  |nil=>rwa[.nil]
  |cons hq t ih=>rwa[.cons #[hq.1,by rw[al (aw hq.2.1 hd #[3])];rwa[hq.2.1],hq.2.2] ih]
 have O:Inv X pins σ (upd H1 d (.frz o (.dT kvs))) { s1 with heap:=s1.heap,toks:=s1.toks }:=Y.write (x:=d) (e:=d) (by rw[hd];rwa[trivial]) (.inl rfl) (λ_ _ _ z=>z) #[_,h1] #[0374,h1,hz,Z,U,go kt,o,es,ep,h1,h2,h3,h4,h5]
 rw[<- h4] at k2;erw[qP Z #[o,h1,h2,h3] ?_];erw[4015,s1.heap.objs.size,[s1.heap.objs.size],_,_,0,O.kept (t':=s1.toks) λb o e=>h_ _ e,wL (u:=.dT kvs) h2 h3 k2,#[_,z_ _ rfl,1,1],λb hb=>?_,q o _ k1]
 have e:b=s1.heap.objs.size:=by simpa using hb
 subst e;rwa[O.fpOk (ge _) (O.hok.fresh (ge _))]
theorem hu1{k:Nat}(hr:FD k A):A.units+1<cLine:=by have:=hr.un;lia
theorem Af(K:Frag)(hK:X.K=K)(hl:PE X e te):PI X tg e (B6 te):=AJ hl
def kI(k:List Int):List Key:=k.map Sum.inl
theorem xH{a b:List Int}(h:kI a=kI b):a=b:=by
 induction a generalizing b with
 |nil=>cases b with
  |nil=>rfl
  |cons y b=>cases h
 |cons x a ih=>cases b with
  |nil=>cases h
  |cons y b=>
   have h':(Sum.inl x:Key)::kI a=Sum.inl y::kI b:=h;injection h' with h1 h2
   injection h1 with h1
   rw[h1,ih h2]
theorem yO(k:List Int):(kI k).map kV=k.map V.int:=by
 unfold kI;rw[MB]
 rfl
section
def bT(m:List (List Int×α))(k:List Int):Option α:=(m.find? λp=>decide (p.1=k)).map (·.2)
def gf(m:List (List Int×α))(k:List Int)(x:α):List (List Int×α):=if (bT m k).isSome then m.map (λp=>if p.1=k then(p.1,x) else p) else m++[(k,x)]
theorem yg(k:List Int):bT ([]:List (List Int×α)) k=none:=rfl
theorem bF{p:List Int×α}{r:List (List Int×α)}{k:List Int}(e:p.1=k):bT (p::r) k=some p.2:=by simp[bT,PH,e]
theorem bb{p:List Int×α}{r:List (List Int×α)}{k:List Int}(e:¬p.1=k):bT (p::r) k=bT r k:=by simp[bT,PH,e]
theorem Gv{k:List Int}:∀{m:List (List Int×α)},bT m k=none↔¬k∈m.map (·.1)
 |[]=>by simp[yg]
 |p::r=>by
  by_cases e:p.1=k
  ·rw[bF e];simp[e]
  ·rw[bb e,Gv (m:=r),K1,Mv];rwa[λh z=>z.elim (λz=>e z.symm) h,λh z=>h (.inr z)]
theorem dL{k:List Int}{x:α}:∀{m:List (List Int×α)},bT m k=some x->(k,x)∈m
 |p::r,h=>by
  by_cases e:p.1=k
  ·rw[bF e] at h;have:p=(k,x):=NU e (G_ h);rw[this];simp
  ·rw[bb e] at h;rwa[GH.mpr (.inr (dL h))]
theorem jX{k:List Int}{x:α}:∀{m:List (List Int×α)},(m.map (·.1)).Nodup->(k,x)∈m->bT m k=some x
 |p::r,hn,h=>by
  have O:(p.1::r.map (·.1)).Nodup:=hn;let#[h1,h2]:=N5.mp O
  rcases GH.mp h with z|z
  ·rw[<- z];rwa[bF rfl]
  ·have:k∈r.map (·.1):=GK.mpr #[_,z,1];rw[bb (λe=>h1 (by rw[e];rwa[this]))]
   rwa[jX h2 z]
theorem v6(m:List (List Int×α))(k:List Int)(x:α):(gf m k x).map (·.1)=if (bT m k).isSome then m.map (·.1) else m.map (·.1)++[k]:=by
 unfold gf
 split
 ·rw[MB];apply List.map_congr_left;intro p _;show(if p.1=k then(p.1,x) else p).1=p.1
  split<;>rfl
 ·rw[KB];rfl
theorem tM{m:List (List Int×α)}{k:List Int}{x:α}(h:(m.map (·.1)).Nodup):((gf m k x).map (·.1)).Nodup:=by
 rw[v6]
 split
 ·rwa[h]
 ·rename_i hs;have Y:bT m k=none:=by
   cases e:bT m k with
   |none=>rfl
   |some y=>rw[e] at hs;rwa[absurd rfl hs]
  rwa[List.nodup_append.mpr #[h,by simp,λa O b U=>by
   rw[GF.mp U];intro z;rwa[Gv.mp Y (by rw[<- z];rwa[O])]]]
theorem fX{m:List (List Int×α)}{k:List Int}{x:α}{p:List Int×α}(h:p∈gf m k x):p=(k,x)\/p∈m:=by
 unfold gf at h
 split at h
 ·let#[q,O,e]:=GK.mp h
  by_cases hk:q.1=k
  ·rw[u_ hk] at e;rwa[.inl (by rw[<- e,hk])]
  ·rw[t_ hk] at e;rwa[.inr (by rw[<- e];rwa[O])]
 ·rcases KI.mp h with z|z
  ·rwa[.inr z]
  ·rwa[.inl (GF.mp z)]
theorem yY(m:List (List Int×α))(k:List Int)(x:α):(gf m k x).length<=m.length+1:=by
 unfold gf
 split
 ·rw[k_];lia
 ·rw[y_];simp
def FZ(R:V->α->Prop)(kvs:List (List Key×V))(m:List (List Int×α)):Prop:=Paired (λ(p:List Key×V) (q:List Int×α)=>p.1=kI q.1/\R p.2 q.2) kvs m
theorem FZ.mono{R R':V->α->Prop}(h:∀v x,R v x->R' v x):∀{kvs:List (List Key×V)} {m:List (List Int×α)},FZ R kvs m->FZ R' kvs m
 |_,_,.nil=>.nil
 |_,_,.cons q r=>.cons #[q.1,h _ _ q.2] (FZ.mono h r)
theorem FZ.val{R:V->α->Prop}(k:List Int):∀{kvs:List (List Key×V)} {m:List (List Int×α)},FZ R kvs m->(bw kvs (kI k)=none/\bT m k=none)\/∃v x,bw kvs (kI k)=some v/\bT m k=some x/\R v x
 |_,_,.nil=>.inl #[1,1]
 |p::_,q'::_,.cons q r=>by
  by_cases e:q'.1=k
  ·rwa[.inr #[22,p.2,q'.2,bp (by rw[q.1,e]),bF e,q.2]]
  ·rw[bg (λz=>e (xH (q.1.symm.trans z))),bb e]
   rwa[FZ.val k r]
theorem FZ.put{R:V->α->Prop}{k:List Int}{x:α}(hx:R v x){m:List (List Int×α)}(h:FZ R kvs m):FZ R (cH kvs (kI k) v) (gf m k x):=by
 unfold cH gf;rw[fg]
 rcases h.val k with⟨e1,e2⟩|⟨v',x',e1,e2,_⟩
 ·rw[e1,e2];have go:∀{kvs:List (List Key×V)} {m:List (List Int×α)},FZ R kvs m->FZ R (kvs++[(kI k,v)]) (m++[(k,x)]):=by
   intro kvs m h
   induction h with
   |nil=>rwa[.cons #[1,hx] .nil]
   |cons q r ih=>rwa[.cons q ih]
  rwa[go h]
 ·rw[e1,e2];have go:∀{kvs:List (List Key×V)} {m:List (List Int×α)},FZ R kvs m->FZ R (kvs.map λkv=>if kv.1=kI k then(kv.1,v) else kv) (m.map λp=>if p.1=k then(p.1,x) else p):=by
   intro kvs m h
   induction h with
   |nil=>rwa[.nil]
   |@cons p q ps qs hq r ih=>
    erw[.cons ?_ ih];dsimp only
    by_cases e:q.1=k
    ·rw[u_ (by rw[hq.1,e]),u_ e]
     rwa[hq.1,hx]
    ·rw[t_ (λz=>e (xH (hq.1.symm.trans z))),t_ e]
     rwa[hq]
  rwa[go h]
theorem FZ.tups{R:V->α->Prop}:∀{kvs:List (List Key×V)} {m:List (List Int×α)} {as:List Addr},FZ R kvs m->Paired (λ(p:List Key×V) (a:Addr)=>H a=some (.tup (p.1.map kV))) kvs as->
  Paired (λ(a:Addr) (q:List Int×α)=>H a=some (.tup (q.1.map V.int))) as m
 |_,_,_,.nil,.nil=>.nil
 |_,_,_,.cons q r,.cons t ts=>.cons (by rw[q.1,yO] at t;rwa[t]) (FZ.tups r ts)
end
theorem gg{lt:β->β->Bool}(irr:∀a,lt a a=false)(tr:∀a b c,lt a b=true->lt b c=true->lt a c=true):∀{xs ys:List β},xs.Perm ys->xs.Pairwise (λa b=>lt b a=true)->ys.Pairwise (λa b=>lt b a=true)->xs=ys
 |[],ys,p,_,_=>(List.nil_perm.mp p).symm
 |x::xs,[],p,_,_=>by have:=p.length_eq;simp at this
 |x::xs,y::ys,p,h1,h2=>by
  let#[a1,a2]:=List.pairwise_cons.mp h1;let#[O,U]:=List.pairwise_cons.mp h2;have e:x=y:=by
   have mx:x∈y::ys:=p.mem_iff.mp (by simp)
   have my:y∈x::xs:=p.mem_iff.mpr (by simp)
   rcases GH.mp mx with z|z
   ·rwa[z]
   ·rcases GH.mp my with w|w
    ·rwa[w.symm]
    ·have Y:=O x z;have Z:=a1 y w;have:=tr _ _ _ Y Z;rw[irr] at this;cases this
  subst e;rw[gg irr tr ((List.perm_cons x).mp p) a2 U]
section
variable {v:Addr}{i:Nat}
theorem vT(hd:(d==sysModules)=false)(hm:DRaw d es ep s.heap)(hQ:Q (.ref s.heap.objs.size) { s with heap:=s.heap.push { cls:=.type "dict_items",data:=.fields (List.toArray [.ref d]) } }):wpAny (model prog w) A (call (.builtin "dict.items") [.ref d]) Q E s:=by
 have O:=hm.typeIs;erw[Lh F.slot_dict_items O F.entry_dict_items ?_ (F.args_dict_items_1 _)];unfold Builtin.«dict.items» Builtin.Dict.noArgs;erw[c_ (c_ (wpAny_notOrdered_dict O (i_ ?_)))];show wpAny _ _ (Builtin.Dict.showsAll d >>= _) _ _ s;unfold Builtin.Dict.showsAll;rw[t_ (by rw[hd];rwa[GT])]
 rwa[c_ (i_ (c_ (KS (i_ #[0,hQ]))))]
theorem wS(hv:s.heap.IsItemsView v d)(hm:DRaw d es ep s.heap)(hQ:Q (.ref s.heap.objs.size) { s with heap:=s.heap.push { cls:=.type "dict_itemiterator",data:=.fields (List.toArray [.none,.bool false,.ref d,.int 0 0,.int es.size 0,.int ep 0,.none,.none]) } }):wpAny (model prog w) A (pyIter (.ref v)) Q E s:=by
 let#[ov,Y,a6,U]:=id hv;let#[o,Z,_,O]:=id hm;erw[wpAny_pyIter_slot hv.typeIs F.slot_dict_items_iter (Lh F.slot_dict_items_iter hv.typeIs F.entry_dict_items_iter ?_ (F.args_dict_items_iter_1 _))];unfold Builtin.«dict_items.__iter__» Builtin.Dict_items.dictOf;erw[c_ (i_ (c_ (c_ (Mh Y U (x:=.ref d) rfl (i_ ?_)))))];erw[c_ ?_];unfold Builtin.Dict_items.newIterator;erw[c_ (wpAny_dictEntries Z O (c_ (wpAny_dictEpoch Z O ?_)))];simp only[show Builtin.Dict_items.ownsTuple "dict_itemiterator"=true by decide,Px]
 erw[KS (i_ #[62,0, "dict_itemiterator",_,#[_,z_ _ rfl,1],F.slot_dict_itemiterator_next.lookup,?_])
  (by simp only[sizeOk,Builtin.Dict_items.ownedTupleFields,GR,y_,Mf,length_nil,Gr];lia)]
 simpa[rawInt,Builtin.Dict_items.ownedTupleFields] using hQ
theorem nC{ok ov:Value}{Q:Option Value->Shared->Prop}(hh:A.handled=none)(hit:IsItemIter s.heap it d i es.size ep ok ov)(hm:DRaw d es ep s.heap)(h1:∀(hi:i<es.size) h',IsItemIterOut h' it d (i+1) es.size ep es[i].key es[i].val s.heap.objs.size->h'.get? s.heap.objs.size=some { cls:=.type "tuple",data:=.seq (List.toArray [es[i].key,es[i].val]) }->
   (∀b o,b≠it->s.heap.get? b=some o->h'.get? b=some o)->Q (some (.ref s.heap.objs.size)) { s with heap:=h' })(h2:es.size<=i->∀h',Heap.ExtBut it s.heap h'->Q none { s with heap:=h' }):wpAny (model prog w) A (pyNext (.ref it)) Q E s:=by
 let#[Y,g,dr,tk,os]:=s;let#[od,a7,_,a6]:=id hm;have O:Shared.TypeIs #[Y,g,dr,tk,os] (.ref it) "dict_itemiterator":=#[_,hit,1];unfold pyNext;erw[c_ (wpAny_attempt (Mb (name:=Str.ofString "__next__") O F.slot_dict_itemiterator_next (Lh F.slot_dict_itemiterator_next O F.entry_dict_itemiterator_next ?_ (F.args_dict_itemiterator_next_1 _))))];erw[c_ (i_ (c_ (c_ ?_)))]
 first|erw[c_ (wpAny_typeNameOfWhole_itemiter O (i_ ?_))]|erw[c_ (wpAny_typeNameOf_itemiter O (i_ ?_))]
 erw[c_ (wpAny_fieldsOf hit rfl ?_)];simp only[show Builtin.Dict_items.ownsTuple "dict_itemiterator"=true by decide,Px]
 show wpAny _ _ (if (Value.ref d==Value.none)=true then _ else _) _ _ _
 rw[t_ (show ¬((Value.ref d==Value.none)=true) from GT)]
 erw[c_ (i_ (c_ (wpAny_dictEntries a7 a6 ?_)))];rw[t_ (by simp)]
 erw[c_ (i_ (c_ (wpAny_dictEpoch a7 a6 ?_)))];rw[t_ (by simp)]
 erw[i_ ?_]
 by_cases U:i<es.size
 ·simp only[show ¬((i:Int)<0) from (),On,Lq,KP U]
  erw[c_ ?_]
  first|erw[c_ (wpAny_typeNameOfWhole_itemiter O (i_ ?_))]|erw[c_ (wpAny_typeNameOf_itemiter O (i_ ?_))]
  erw[c_ (wpAny_isOneOf_itemiter O ?_)];show wpAny _ _ (setField (.ref it) 3 (rawInt ((i:Int)+1)) >>= _) _ _ #[Y,g,dr,tk,os];erw[c_ (LG hit (by simp) λk1 e1 b1=>?_)]
  replace b1:Heap.SameBut it Y k1:=b1
  replace e1:IsItemIter k1 it d (i+1) es.size ep ok ov:=by
   have e:((i+1:Nat):Int)=(i:Int)+1:=()
   unfold IsItemIter;rw[e];simpa[rawInt] using e1
  have Z:Shared.TypeIs #[k1,g,dr,tk,os] (.ref it) "dict_itemiterator":=#[_,e1,1];erw[c_ (Ll (c_ (wpAny_isOneOf_itemiter Z (c_ (wpAny_isOneOf_itemiter Z ?_)))))];show wpAny _ _ (Builtin.Dict_items.pairFromOwner (.ref it) 6 es[i].key es[i].val) _ _ #[k1,g,dr,tk,os];unfold Builtin.Dict_items.pairFromOwner;erw[c_ (wpAny_newTuple ?_)];have e2:IsItemIter (k1.push { cls:=.type "tuple",data:=.seq (List.toArray [es[i].key,es[i].val]) }) it d (i+1) es.size ep ok ov:=h_ _ e1;generalize hk2:k1.push { cls:=.type "tuple",data:=.seq (List.toArray [es[i].key,es[i].val]) }=k2 at e2;have z1:k1.objs.size=Y.objs.size:=b1.1;have a8:it<Y.objs.size:=GP hit;have t2:k2.get? Y.objs.size=some { cls:=.type "tuple",data:=.seq (List.toArray [es[i].key,es[i].val]) }:=by rw[<- hk2,<- z1];rwa[z_ _ rfl]
  have c2:∀b o,b≠it->Y.get? b=some o->k2.get? b=some o:=λb o hb e=>by rw[<- hk2];rwa[h_ _ (b1.extBut b o hb e)]
  show wpAny _ _ (Builtin.Dict_items.ownedTupleIsFree (.ref it) >>= _) _ _ #[k2,g,dr,tk,os];rw[z1];clear hk2 e1 b1 Z z1 k1;erw[c_ ?_];unfold Builtin.Dict_items.ownedTupleIsFree;erw[c_ (Mh e2 rfl (x:=.none) rfl (i_ ?_))];simp only[Px];erw[c_ (Mh e2 rfl (x:=ok) rfl (c_ (Mh e2 rfl (x:=ov) rfl (c_ (LG e2 (by simp) λk3 e3 b3=>?_)))))]
  replace b3:Heap.SameBut it k2 k3:=b3
  replace e3:IsItemIter k3 it d (i+1) es.size ep es[i].key ov:=e3
  erw[c_ (LG e3 (by simp) λk4 e4 b4=>?_)]
  replace b4:Heap.SameBut it k3 k4:=b4
  replace e4:IsItemIter k4 it d (i+1) es.size ep es[i].key es[i].val:=e4
  erw[c_ (LG e4 (by simp) λk5 e5 b5=>?_)]
  replace b5:Heap.SameBut it k4 k5:=b5
  replace e5:IsItemIterOut k5 it d (i+1) es.size ep es[i].key es[i].val Y.objs.size:=e5
  erw[c_ (LG e5 (by simp) λk6 e6 b6=>?_)]
  replace b6:Heap.SameBut it k5 k6:=b6
  replace e6:IsItemIterOut k6 it d (i+1) es.size ep es[i].key es[i].val Y.objs.size:=e6
  have ne:=OC a8;erw[c_ (Oz (i_ (i_ #[0,i_ (h1 U k6 e6 (b6.extBut _ _ ne (b5.extBut _ _ ne (b4.extBut _ _ ne (b3.extBut _ _ ne t2)))) λb o hb e=>?_)])))]
  rwa[b6.extBut b o hb (b5.extBut b o hb (b4.extBut b o hb (b3.extBut b o hb (c2 b o hb e))))]
 ·simp only[show ¬((i:Int)<0) from (),On,Lq,NB (Nat.le_of_not_lt U)]
  erw[c_ ?_]
  first|erw[c_ (wpAny_typeNameOfWhole_itemiter O (i_ ?_))]|erw[c_ (wpAny_typeNameOf_itemiter O (i_ ?_))]
  show wpAny _ _ (setField (.ref it) 2 .none >>= _) _ _ _;erw[c_ (NR hit rfl (by simp) ?_)]
  show wpAny _ _ (newExc (.type "StopIteration") [] >>= _) _ _ _;erw[c_ ?_];simp only[newExc,newTuple];erw[c_ (KS ?_ (by size_fits))]
  erw[c_ (m:=firstArgMember _ _) (N_ (a:=Value.none) (by first|rfl|(simp only[firstArgMember];rfl)) ?_)]
  erw[KS ?_ (by size_fits)]
  simp only[raiseNew];erw[c_ (wpAny_handled ?_)];rw[show A.in1.handled=none from hh]
  erw[c_ (i_ (wpAny_throw ?_))];erw[c_ (Oo (T := "StopIteration") (b:=true) #[_,z_ _ rfl,1] isSubtype_stop ?_)];rwa[i_ (h2 (Nat.le_of_not_lt U) _ (((Mx ..).extBut.push _).push _))]
end
def qc(v d:Addr):HO:=.ext λh=>h.IsItemsView v d
def Iti(d:Addr)(o:Obj)(u:HO)(kv:List (V×V)):It:=
 #[λi H=>H d=some (.frz o u)/\i<kv.length,λi H x H'=>∃p k y,x=.ref p/\H p=none/\H'=upd H p (.tup [k,y])/\kv[i]? = some (k,y),λi H=>H d=some (.frz o u)/\kv.length<=i]
theorem rB{o:Obj}{u:HO}{kv:List (V×V)}(hx:o.ExactDict)(hd:o.data=.dict es ep)(r1:Fw (kv.map (·.1)) (es.toList.map (·.key)))(r2:Fw (kv.map (·.2)) (es.toList.map (·.val))):
  kh P w K (.Tuple tes tk tp) (Iti d o u kv) [it] it (λi h=>∃ok Z,IsItemIter h it d i es.size ep ok Z) where
 mem:=by simp
 obj:=λi h ⟨ok,Z,st⟩ b hb=>by
  have e:b=it:=by simpa using hb
  subst e;rwa[_,st,λv z=>by cases z]
 keep:=λi h h' ⟨ok,Z,st⟩ k=>#[20,ok,Z,k it (by simp) _ st]
 item:=by
  intro X hP hw hK O i pins s σ H E I hf st hg;subst hP hw hK;let#[hD,hi]:=(show H d=some (.frz o u)/\i<kv.length from hg)
  let#[ok,Z,st]:=st;have ho:s.heap.get? d=some o:=(show FC X.prog X.w H s.heap d (.frz o u) from I.hok d _ hD).1
  erw[nC (I.ok.hd O) st #[o,ho,hx,hd] (λU h' a1 a5 hk=>?_) λax=>absurd hi (by have:=r1.length;simp at this;lia)]
  erw[0,wpAny_letOwnedTupleGo_items a1 λa7 ac sb=>?_]
  obtain⟨⟨x,y⟩,Y⟩:∃q,kv[i]? = some q:=#[_,e_ hi]
  let#[v1,a9,rx]:=r1.get (i:=i) (x:=x) (by rw[Ga,Y];rfl)
  let#[v2,a',ry]:=r2.get (i:=i) (x:=y) (by rw[Ga,Y];rfl)
  have e1:es[i].key=v1:=by
   rw[Ga,Lv,KP U] at a9;rwa[G_ a9]
  have e2:es[i].val=v2:=by
   rw[Ga,Lv,KP U] at a';rwa[G_ a']
  rw[e1,e2] at a5;have au:it<s.heap.objs.size:=GP st;have ad:s.heap.objs.size≠it:=OC au;have hT:a7.get? s.heap.objs.size=some { cls:=.type "tuple",data:=.seq (List.toArray [v1,v2]) }:=(sb.2 _ ad).trans a5;have fresh:H s.heap.objs.size=none:=I.hok.fresh (ge _);have gT:(s.heap.push { cls:=.type "tuple",data:=.seq (List.toArray [v1,v2]) }).get? s.heap.objs.size=some { cls:=.type "tuple",data:=.seq (List.toArray [v1,v2]) }:=z_ _ rfl;have I1:Inv X pins σ (upd H s.heap.objs.size (.tup [x,y])) { s with heap:=s.heap.push { cls:=.type "tuple",data:=.seq (List.toArray [v1,v2]) },toks:=s.toks }:=
   I.laid (λb o e=>h_ _ e) (ge _) #[015210,by show 2<=sizeLine;decide,[v1,v2],.cons rx (.cons ry .nil),_,gT,1,0]
  have a6:∀c∈[it],FJ X pins (upd H s.heap.objs.size (.tup [x,y])) c:=λc O=>by
   have e:c=it:=by simpa using O
   subst e;rwa[by rw[al ad.symm];exact(hf c O).1,(hf c O).2]
  have I2:=I1.turnedN (h':=a7) (t':=s.toks) (fp:=[it]) (λc o O e=>by
   have a8:c≠it:=by simpa using O
   rcases get?_push_cases e with⟨e1,e2⟩|e1
   ·rw[e1,e2];rwa[hT]
   ·exact(sb.2 c a8).trans (hk c o a8 e1)) a6
  rwa[24,.ref s.heap.objs.size,_,I2,1,#[33,_,x,y,1,fresh,1,Y],#[20,_,_,ac],λc O=>(a6 c O).1]
 done:=by
  intro X hP hw hK O i pins s σ H E I hf st hg;subst hP hw hK;let#[hD,hi]:=(show H d=some (.frz o u)/\kv.length<=i from hg)
  let#[ok,Z,st]:=st;have ho:s.heap.get? d=some o:=(show FC X.prog X.w H s.heap d (.frz o u) from I.hok d _ hD).1
  erw[nC (I.ok.hd O) st #[o,ho,hx,hd] (λU=>absurd U (by have:=r1.length;simp at this;lia)) λ_ h' eb=>#[1,I.turnedN (t':=s.toks) (λc o O e=>eb c o (by simpa using O) e) hf]]
 self:=λ_ _ _ _ _ ⟨_,_,st⟩ h=>kcp_self st h
section
variable {st:Expr}{ts:TO}
theorem Fw.rev(r:Fw xs us):Fw xs.reverse us.reverse:=by
 induction r with
 |nil=>rwa[.nil]
 |cons a r ih=>
  rw[reverse_cons,reverse_cons];rwa[ih.append (.cons a .nil)]
end
section
variable {p:Pos}
def rMax1(t:Bool)(K:Frag):List V->Hp->VK->Prop:=λxs H Q=>∃(p:Addr) (ns:List Int),xs=[.ref p]/\SqV t K H p (ns.map V.int)/\ns≠[]/\∀m,m∈ns->(∀x∈ns,x<=m)->Q (.int m) H
def BW(t:Bool)(K:Frag):List V->Hp->VK->Prop:=λxs H Q=>∃(p:Addr) (ns:List Int),xs=[.ref p]/\SqV t K H p (ns.map V.int)/\ns≠[]/\∀m,m∈ns->(∀x∈ns,m<=x)->Q (.int m) H
theorem vk(hc:X.calm=true)(t:Bool):cq X (.builtin "min") (BW t X.K):=by
 intro pins s σ H xs us Q I rv h;let#[p,ns,1,q,a8,hq]:=h;let#[u,1,ru]:=cJ rv;cases ru;let#[its,rb,po,z]:=I.seqV q;have hh:X.A.in1.handled=none:=I.ok.hd hc;have Z:=rb.length;rw[k_] at Z;have a9:0<ns.length:=List.length_pos_iff.mpr a8;have U:∀(i:Nat) (v:Value),its.toArray[i]? = some v->∃t,v=Value.int (ns.getD i 0) t:=by
  intro i v hv;have a7:its[i]? = some v:=by simpa using hv
  have a':i<its.length:=(q_.mp a7).1;have O:(ns.map V.int)[i]? = some (.int (ns.getD i 0)):=by
   rw[Ga,Gc,e_ ()]
   rfl
  let#[u,hu,ru]:=rb.get O;rw[a7] at hu;cases hu;rwa[ru]
 erw[call_min_walk (gz po λo hi=>?_)]
 have a6:p<s.heap.objs.size:=by let#[ob,e]:=po.obj;rwa[GP e]
 erw[4036,s.heap.objs.size,_,_,_,_,_,0,Walks.sq t hh s.heap.objs.size p (GA a6) its.toArray,#[hi,po.at λo' e=>h_ _ e],λb O=>?_,?_,CmpOf.ints_lt (λi=>ns.getD i 0) U,λv h' tk hP hk=>?_]
 ·show b<(s.heap.push o).objs.size;rw[MQ]
  rcases GH.mp O with rfl|O
  ·rwa[Ol _]
  ·rcases GH.mp O with rfl|O
   ·rwa[OZ a6]
   ·cases O
 ·rw[GR];lia
 ·have I1:Inv X pins σ H { s with heap:=s.heap.push o,toks:=s.toks }:=I.kept λb u e=>h_ _ e
  have fp:FJ X pins H s.heap.objs.size:=I.fpOk (ge _) (I.hok.fresh (ge _));have I2:Inv X pins σ H { s with heap:=h',toks:=tk }:=by
   have:=I1.turnedN (fp:=[s.heap.objs.size]) (h':=h') (t':=tk) (λb ob O e=>hk b ob O e) (λb O=>by have e:b=s.heap.objs.size:=(by simpa using O);subst e;rwa[fp])
   rwa[this]
  let#[g1,g2]:=argBest_lt (λi=>ns.getD i 0) (its.toArray.size-1)
  rw[GR] at g1 g2 hP;let#[tv,1]:=U _ _ hP;have Y:argBest (λi j=>decide (ns.getD i 0<ns.getD j 0)) (its.length-1)<ns.length:=()
  erw[22,.int (ns.getD (argBest (λi j=>decide (ns.getD i 0<ns.getD j 0)) (its.length-1)) 0),H,I2,#[tv,1],hq _ ?_ λx hx=>?_]
  ·rw[Gc,e_ Y];rwa[PR Y]
  ·let#[j,hj,1]:=getElem_of_mem hx;have:=g2 j ()
   rw[Gc (i:=j),e_ hj] at this;rwa[this]
theorem yU(T:Blt X.mg)(ha:PE X e te)(b:Bool)(hK:X.K=K:=by rfl)(hc:X.calm=true:=by rfl)(hg:Gl X "min":=by rfl)(hs:starEach [e] X.env=[(false,eval e X.env)]:=by rfl):PE X (.Call (.Name "min" p) [e] [] pos) (tCB (BW b K) (bR te cI)):=by
 subst hK;rwa[bP (vk hc b) hg T.min mV (aa ha ag hs) #[] #[] hs]
end
theorem AK{t1 t2:Bool}{a b:Addr}{tb:TS}{D:gC}(Pv:Nat->St->Hp->Prop)(h0:Pv 0 σ H)(hl:∀i σ H,i<=min xs.length ys.length->Pv i σ H->SqV t1 K H a xs/\SqV t2 K H b ys)(hs:∀(i:Nat) x y σ H p,xs[i]? = some x->ys[i]? = some y->Pv i σ H->H p=none->g (.ref p) σ (upd H p (.tup [x,y])) λσ2 H2=>tb { D with nx:=Pv (i+1),ct:=Pv (i+1),bk:=D.nx } σ2 H2)(hd:∀σ H,Pv (min xs.length ys.length) σ H->D.nx σ H):
  ∃W:Nat->Nat->St->Hp->Prop,(∃m,W 0 m σ H)/\∀i m σ H,W i m σ H->
   ((Itz t1 t2 K a b).stop i H/\D.nx σ H)\/((Itz t1 t2 K a b).go i H/\∃N:St->Hp->Prop,(∀σ' H',N σ' H'->∃m',m'<m/\W (i+1) m' σ' H')/\∀x H',(Itz t1 t2 K a b).yld i H x H'->g x σ H' λσ2 H2=>tb { D with nx:=N,ct:=N,bk:=D.nx } σ2 H2):=by
 erw[λi m σ H=>m=min xs.length ys.length-i/\i<=min xs.length ys.length/\Pv i σ H,#[min xs.length ys.length,by simp,Gw _,h0],?_]
 rintro i m σ H ⟨rfl,hi,p⟩;let#[Y,Z]:=hl i σ H hi p
 by_cases U:i<min xs.length ys.length
 ·have hx:i<xs.length:=()
  have hy:i<ys.length:=()
  erw[.inr #[#[43,xs,ys,xs[i],ys[i],Y,Z,by simp[hx],by simp[hy]],Pv (i+1),λσ' H' p'=>#[min xs.length ys.length-(i+1),(),1,U,p'],λx H' y=>?_]]
  let#[l,x1,y1,1,O,1,g1,g2]:=y;rwa[hs i x1 y1 σ _ l (g1 xs Y) (g2 ys Z) p O]
 ·have e:i=min xs.length ys.length:=()
  subst e;erw[.inl #[#[22,xs,ys,Y,Z,?_],hd σ H p]];lia
theorem iA:∀(names:List (Str×NameKind)) (n:Nat) (acc:List (Str×Addr)) (x:Str) (c:Nat),(cellsFrom n names acc).lookup x=some c->(n<=c/\(x,NameKind.cell)∈names)\/acc.lookup x=some c
 |[],n,acc,x,c,h=>.inr h
 |(m,k)::r,n,acc,x,c,h=>by
  unfold cellsFrom at h
  split at h
  ·rename_i hk
   rcases iA r (n+1) _ x c h with⟨a,b⟩|z
   ·rwa[.inl #[(),GG _ b]]
   ·cases hx:x==m with
    |true=>
     simp only[Lx,hx] at z;cases z;have e:x=m:=by simpa using hx
     have e2:k=NameKind.cell:=by simpa using hk
     subst e e2;rwa[.inl #[ge _,KQ]]
    |false=>
     simp only[Lx,hx] at z;rwa[.inr z]
  ·rcases iA r n acc x c h with⟨a,b⟩|z
   ·rwa[.inl #[a,GG _ b]]
   ·rwa[.inr z]
theorem jV:∀(names:List (Str×NameKind)) (n:Nat) (acc:List (Str×Addr)) (x:Str),(∃c,acc.lookup x=some c)->∃c,(cellsFrom n names acc).lookup x=some c
 |[],n,acc,x,h=>h
 |(m,k)::r,n,acc,x,h=>by
  unfold cellsFrom
  split
  ·erw[jV r (n+1) _ x ?_];cases hx:x==m with
   |true=>rwa[n,by simp only[Lx,hx]]
   |false=>
    let#[c,h]:=h;rwa[c,by simp only[Lx,hx];rwa[h]]
  ·rwa[jV r n acc x h]
theorem tN:∀(names:List (Str×NameKind)) (n:Nat) (acc:List (Str×Addr)) (x:Str),(x,NameKind.cell)∈names->∃c,(cellsFrom n names acc).lookup x=some c
 |[],n,acc,x,h=>absurd h (by simp)
 |(m,k)::r,n,acc,x,h=>by
  unfold cellsFrom
  rcases GH.mp h with e|e
  ·cases e;rw[u_ #[]]
   rwa[jV r (n+1) _ m #[n,by simp[Lx]]]
  ·split
   ·rwa[tN r (n+1) _ x e]
   ·rwa[tN r n acc x e]
theorem jY:∀(names:List (Str×NameKind)) (n:Nat) (acc:List (Str×Addr)) (x:Str),(x,NameKind.cell)∉names->(cellsFrom n names acc).lookup x=acc.lookup x
 |[],n,acc,x,h=>rfl
 |(m,k)::r,n,acc,x,h=>by
  have h':(x,NameKind.cell)∉r:=λz=>h (GG _ z)
  unfold cellsFrom
  split
  ·rename_i hk;rw[jY r (n+1) _ x h'];cases hx:x==m with
   |true=>
    have e:x=m:=by simpa using hx
    have e2:k=NameKind.cell:=by simpa using hk
    subst e e2;rwa[absurd KQ h]
   |false=>simp only[Lx,hx]
  ·rwa[jY r n acc x h']
theorem tK:∀(names:List (Str×NameKind)) (n:Nat) (acc:List (Str×Addr)) (x:Str) (c:Nat),((x,NameKind.cell)∈names\/∀c:Nat,acc.lookup x=some c->n<=c)->(∀c,acc.lookup x=some c->True)->(cellsFrom n names acc).lookup x=some c->(x,NameKind.cell)∈names->n<=c
 |[],n,acc,x,c,_,_,_,h=>absurd h (by simp)
 |(m,k)::r,n,acc,x,c,h0,h1,h,hm=>by
  by_cases O:(x,NameKind.cell)∈r
  ·unfold cellsFrom at h
   split at h
   ·have:=tK r (n+1) _ x c (.inl O) (λ_ _=>trivial) h O
    lia
   ·rwa[tK r n acc x c (.inl O) (λ_ _=>trivial) h O]
  ·have e:(x,NameKind.cell)=(m,k):=by
    rcases GH.mp hm with z|z
    ·rwa[z]
    ·rwa[absurd z O]
   cases e;unfold cellsFrom at h;rw[u_ #[],jY r (n+1) _ m O] at h
   simp[Lx] at h;rwa[Nat.le_of_eq h]
theorem tJ:∀(names:List (Str×NameKind)) (n:Nat) (acc:List (Str×Addr)) (x y:Str) (c:Nat),(∀(z:Str) (a:Nat),acc.lookup z=some a->a<n)->(cellsFrom n names acc).lookup x=some c->(cellsFrom n names acc).lookup y=some c->n<=c->x=y
 |[],n,acc,x,y,c,h,h1,h2,hc=>absurd (h x c h1) ()
 |(m,k)::r,n,acc,x,y,c,h,h1,h2,hc=>by
  unfold cellsFrom at h1 h2
  split at h1
  ·rename_i hk;rw[u_ hk] at h2
   by_cases O:n+1<=c
   ·erw[tJ r (n+1) _ x y c (λz a e=>?_) h1 h2 O]
    cases hz:z==m with
    |true=>
     simp only[Lx,hz] at e;cases e;lia
    |false=>
     simp only[Lx,hz] at e;have:=h z a e;lia
   ·have go:∀z,(cellsFrom (n+1) r ((m,n)::acc)).lookup z=some c->z=m:=λz e=>by
     rcases iA r (n+1) _ z c e with⟨a,_⟩|a
     ·lia
     ·cases hz:z==m with
      | true=>simpa using hz
      | false=>
       simp only[Lx,hz] at a;have:=h z c a;lia
    rw[go x h1,go y h2]
  ·rename_i hk;rw[t_ hk] at h2;rwa[tJ r n acc x y c h h1 h2 hc]
theorem pN:∀(names:List (Str×NameKind)) (h:Heap) (acc:List (Str×Addr)) (x:Str) (c:Nat),(cellsFrom h.objs.size names acc).lookup x=some c->acc.lookup x=some c\/((pushCells h names).IsCell c none/\h.objs.size<=c)
 |[],h,acc,x,c,e=>.inl e
 |(m,k)::r,h,acc,x,c,e=>by
  unfold cellsFrom at e;unfold pushCells
  split at e
  ·rename_i hk;rw[u_ hk];have O:(cellsFrom (h.push { cls:=.type "cell",data:=.cell none }).objs.size r ((m,h.objs.size)::acc)).lookup x=some c:=by rw[MQ];rwa[e]
   rcases pN r (h.push { cls:=.type "cell",data:=.cell none }) _ x c O with z|⟨z,z2⟩
   ·cases hx:x==m with
    |true=>
     simp only[Lx,hx] at z;cases z;rwa[.inr #[#[_,pushCells_keeps r _ _ _ (z_ _ rfl),1],ge _]]
    |false=>
     simp only[Lx,hx] at z;rwa[.inl z]
   ·rw[MQ] at z2;rwa[.inr #[z,()]]
  ·rename_i hk;rw[t_ hk];rwa[pN r h acc x c e]
theorem Bh{M:Model}{globals:Addr}{cl:List (Str×Addr)}{Q:Env->Shared->Prop}(hQ:Q (newEnv scope s.heap.objs.size globals (cellsFrom (s.heap.objs.size+1) scope.names cl) qual none .none (some env) builtinsNs) { s with heap:=pushCells (s.heap.push { cls:=.type "dict",data:=.dict (List.toArray []) }) scope.names }):
  wpAny M A (newFunctionEnv scope globals cl [] qual none .none (some env)) Q E s:=by
 simp only[newFunctionEnv,Option.isSome_some,Px];erw[c_ (wpAny_alloc ?_)];erw[c_ (wpAny_layCells _ (λname kind cells=>by cases hkc:kind==NameKind.cell<;>simp[hkc]) _ _ _ _ ?_)]
 rw[show({ s with heap:=s.heap.push { cls:=.type "dict",data:=.dict (List.toArray []) } }:Shared).heap.objs.size=s.heap.objs.size+1 from MQ ..]
 rw[forIn_nil];rwa[c_ (i_ (i_ hQ))]
def oN(outer scope:Scope):Bool:=
 scope.kind == .function&&outer.kind == .function&&scope.names.all λx=>(x.2 != .cell || scope.names.lookup x.1==some .cell)&&(x.2 != .local || scope.names.lookup x.1==some .local)&&(x.2 != .free || (outer.names.lookup x.1==some .cell || outer.names.lookup x.1==some .free))
structure FK (X:Cx) (scope:Scope):Prop where
 kind:scope.kind=.function
 own:∀x∈scope.names,x.2=.cell->scope.names.lookup x.1=some .cell
 names:∀x∈scope.names,x.2=.local->scope.names.lookup x.1=some .local
 free:∀x∈scope.names,x.2=.free->X.env.kindOf x.1=some .cell\/X.env.kindOf x.1=some .free
theorem sQ(h:oN X.env.scope scope=true):FK X scope:=by
 unfold oN at h;simp only[Lp,NO,all_eq_true,Bool.or_eq_true,bne_iff_ne] at h;let#[#[h1,_],h2]:=h;erw[h1,λx O e=>?_,λx O e=>?_,λx O e=>?_]
 ·rcases(h2 x O).1.1 with z|z
  ·rwa[absurd e z]
  ·rwa[z]
 ·rcases(h2 x O).1.2 with z|z
  ·rwa[absurd e z]
  ·rwa[z]
 ·rcases(h2 x O).2 with z|z
  ·rwa[absurd e z]
  ·rwa[z]
abbrev lR(scope:Scope)(L:Addr)(env:Env):List (Str×Addr):=cellsFrom (L+1) scope.names (cn env scope.names [])
def mq(X:Cx)(N:List Str)(scope:Scope)(s:Shared)(H:Hp)(ex:List Addr):Cx where
 prog:=X.prog
 w:=X.w
 K:=X.K
 mg:=X.mg
 base:=X.base
 A:=X.A
 N:=N
 s₀:=s
 H₀:=H
 env:=compEnvC scope (lR scope s.heap.objs.size X.env) s.heap.objs.size X.env
 outer:=X.stack
 stack:=X.stack
 ex:=ex
 fn:=λx=>scope.names.lookup x==some .cell
 calm:=X.calm
 pn:=[]
 xe:=λ_ _=>False
theorem FK.cells(f:FK X scope)(ok:X.Ok):∀x∈scope.names,x.2=.free->∃c,X.env.cells.lookup x.1=some c:=λx O e=>ok.has x.1 (f.free x O e)
theorem FK.cl(f:FK X scope)(ok:X.Ok){n:Str}{c:Addr}(h:(cn X.env scope.names []).lookup n=some c):X.env.cells.lookup n=some c:=by
 rcases sg _ _ _ _ (f.cells ok) h with z|z
 ·rwa[z]
 ·cases z
theorem FK.kf(h:(relabel scope X.env).names.lookup x=some .cell\/(relabel scope X.env).names.lookup x=some .free):scope.names.lookup x=some .free\/scope.names.lookup x=some .cell:=by
 unfold relabel at h;simp only at h;rw[cA] at h;cases e:scope.names.lookup x with
 |none=>rw[e] at h;rcases h with z|z<;>cases z
 |some k=>
  rw[e] at h;simp only[Mo,OY] at h;cases k with
  |free=>rwa[.inl rfl]
  |cell=>rwa[.inr rfl]
  |_=>simp at h
theorem FK.nofree(f:FK X scope)(h:scope.names.lookup x=some .free):(x,NameKind.cell)∉scope.names:=λz=>by
 have:=f.own _ z rfl;simp only at this;rw[h] at this;cases this
section
theorem FK.lk(f:FK X scope)(I:Inv X pins σ H s){c:Nat}(h:(lR scope s.heap.objs.size X.env).lookup x=some c):(X.env.cells.lookup x=some c/\c<s.heap.objs.size)\/s.heap.objs.size<c:=by
 rcases iA _ _ _ _ _ h with⟨a,_⟩|z
 ·rwa[.inr a]
 ·have O:=f.cl I.ok z;let#[v,o,U,_]:=I.cell x c O;rwa[.inl #[O,GP U]]
theorem pU{ex:List Addr}{h1:Heap}{m:Str->Option Value}(I:Inv X pins σ H s)(f:FK X scope)(hsrc:iE X.N N src scope=true)(hex:∀b∈ex,b<s.heap.objs.size/\b≠X.env.locals/\b∉X.fs/\(∀x c,X.env.cells.lookup x=some c->c≠b)/\∀o,X.base.get? b≠some o)(hn:h1.Ns s.heap.objs.size m)(hk:∀b o,s.heap.get? b=some o->h1.get? b=some o)(hcl:∀(x:Str) (c:Nat),(lR scope s.heap.objs.size X.env).lookup x=some c->s.heap.objs.size<c->∃v,h1.IsCell c v):
  Inv (mq X N scope s H ex) [] (bG src σ) H { s with heap:=h1,toks:=tk }:=by
 let#[a6,ac]:=rm hsrc;have ok:=I.ok;have a8:∀b∈frs X.stack,b∈X.env.locals::X.fs:=I.stkSub
 have Y:∀(z:Str) (a:Nat),(cn X.env scope.names []).lookup z=some a->a<s.heap.objs.size+1:=λz a e=>by
  let#[v,o,ho,_]:=I.cell z a (f.cl ok e);rwa[OZ (GP ho)]
 erw[#[ok.mod,f.kind,ok.glob,ok.blt,ge _,λx y c h1 h2=>?_,λx hx=>?_,λx c hx e=>?_,ok.hd,ok.frames,.inl rfl,λb U=>#[GA (hex b U).1,λx c e=>?_],I.bs,Lg ok.bsz I.sz,λb o e U=>(hex b U).2.2.2.2 o e,λb U a9=>?_,I.stack,I.stkFree],
  1,I.bare,Un.kept hk,#[m,hn,λi x v e1 e2 e3=>?_],λx c e=>?_,I.hok.fresh (ge _),λx c e=>?_,λp hp=>absurd (show p∈([]:List (Addr×Obj)) from hp) (by simp),I.hok.kept hk,?_]
 ·rcases f.lk I h1 with⟨a,a'⟩|a
  ·rcases f.lk I h2 with⟨b,_⟩|b
   ·rwa[ok.inj x y c a b]
   ·rwa[absurd b (Nat.lt_asymm a')]
  ·rwa[tJ _ _ _ _ _ _ Y h1 h2 a]
 ·rcases FK.kf hx with z|z
  ·rwa[jV _ _ _ _ (iP _ _ _ (PySem.mem_of_lookup z))]
  ·rwa[tN _ _ _ _ (PySem.mem_of_lookup z)]
 ·have a7:scope.names.lookup x=some .cell:=by simpa[mq] using hx
  have:=tK _ _ _ _ _ (.inl (PySem.mem_of_lookup a7)) (λ_ _=>trivial) e (PySem.mem_of_lookup a7)
  rwa[Nat.le_of_succ_le this]
 ·rcases f.lk I e with⟨a,_⟩|a
  ·exact(hex b U).2.2.2.1 x c a
  ·rwa[λz=>absurd (hex b U).1 (Nat.lt_asymm (z▸a))]
 ·rcases GH.mp (a8 b a9) with z|z
  ·exact(hex b U).2.1 z
  ·exact(hex b U).2.2.1 z
 ·have O:(bG src σ)[i]? = some (some v):=e2;unfold bG at O;rw[Ga] at O;cases hs:src[i]? with
  |none=>rw[hs] at O;cases O
  |some o=>
   rw[hs] at O;cases o with
   |none=>cases O
   |some j=>
    let#[q1,q2]:=ac i x j e1 hs;have e4:σ[j]? = some (some v):=by
     simp only[Mo,Option.bind_some,OY] at O;cases z:σ[j]? with
     |none=>rw[z] at O;cases O
     |some o=>rw[z] at O;simp only[Option.join_some] at O;rw[O]
    have kx:=f.free (x,.free) (PySem.mem_of_lookup q2) rfl;let#[mX,ad,hl]:=I.loc;let#[u,r,l]:=hl j x v q1 e4 (by rcases kx with z|z;rwa[.inr (.inl z)];rwa[.inr (.inr z)])
    erw[u,r,.inr #[FR.fk (X:=X) q2,?_]]
    rcases l with⟨l,_⟩|⟨_,c,ec,ic⟩
    ·rcases kx with z|z
     ·rw[z] at l;cases l
     ·rw[z] at l;cases l
    ·let#[c',Z]:=iP (env:=X.env) scope.names [] x (PySem.mem_of_lookup q2);have z:=f.cl ok Z;rw[ec] at z;cases z;let#[oc,ho,hd]:=ic;erw[51,c,?_,oc,hk c oc ho,hd];show(lR scope s.heap.objs.size X.env).lookup x=some c;rw[jY _ _ _ _ (f.nofree q2)];rwa[Z]
 ·rcases f.lk I e with⟨a,_⟩|a
  ·let#[v,o,ho,hd]:=I.cell x c a;rwa[21,v,o,hk c o ho,hd]
  ·rwa[hcl x c e a]
 ·rcases f.lk I e with⟨a,_⟩|a
  ·rwa[I.freeC x c a]
  ·rwa[I.hok.fresh (Pi a)]
 ·show(bG src σ).length=N.length;unfold bG;rw[k_];rwa[a6]
theorem wj{elt iter:Expr}(use:Option (Value->Sem Unit))(PQ:Value->Shared->Prop)(E:Value->Shared->Prop)(hcalm:X.calm=true)(f:FK X scope)(hsrc:iE X.N N src scope=true)(U:∀(s:Shared) (H:Hp) (ex:List Addr),PG (mq X N scope s H ex) tg g/\PIf (mq X N scope s H ex) ifs tt/\PE (mq X N scope s H ex) elt te){fp:List Addr}{tn:Nat->Heap->Prop}{J:It}(I:Inv X pins σ H s)(T:kh X.prog X.w X.K tg J fp it tn)(st:tn 0 s.heap)(hf:∀b∈fp,FJ X pins H b){Q:VK}(h:bK J src g tt te σ H Q)(hfin:∀(acc C:Addr) (s':Shared) (H':Hp) (m:Str->Option Value),s'.heap.Ns C m->FJ X pins H' C->(∀h',Heap.SameBut C s'.heap h'->Inv X pins σ H' { s' with heap:=h' })->Q (.ref acc) H'->compPost (model X.prog X.w) X.A E use PQ (.ref acc) C (.ok .next) s'):
  wpAny (model X.prog X.w) X.A (newList []) (λacc s₃=>
   wpAny (model X.prog X.w) X.A (newFunctionEnv scope X.env.globals (cn X.env scope.names []) [] X.env.qual none .none (some X.env)) (λa7 s₄=>
    codeAny (model X.prog X.w) X.A (.compStart (.ListComp elt [#[tg,iter,ifs,(0)]] scope pos) 0 (.ref it) acc { a7 with scope:=relabel scope X.env }) (compPost (model X.prog X.w) X.A E use PQ acc a7.locals) s₄) E s₃) E s:=by
 have ok:=I.ok;have I3:Inv X pins σ (upd H s.heap.objs.size (.lst [])) { s with heap:=s.heap.push { cls:=.type "list",data:=.seq ([]:List Value).toArray },toks:=s.toks }:=I.lnew (ys:=[]) (its:=[]) .nil (Gw _)
 let#[W,#[m0,w0],turn]:=h s.heap.objs.size (I.hok.fresh (ge _));erw[KS (Bh ?_)];dsimp only;generalize hs3:({ s with heap:=s.heap.push { cls:=.type "list",data:=.seq ([]:List Value).toArray },toks:=s.toks }:Shared)=O at I3
 have e3:O.heap=s.heap.push { cls:=.type "list",data:=.seq ([]:List Value).toArray }:=by rw[<- hs3]
 rw[<- e3];have hk:∀b o,O.heap.get? b=some o->(pushCells (O.heap.push { cls:=.type "dict",data:=.dict (List.toArray []) }) scope.names).get? b=some o:=λb o e=>pushCells_keeps _ _ b o (h_ _ e)
 have a9:(pushCells (O.heap.push { cls:=.type "dict",data:=.dict (List.toArray []) }) scope.names).Ns O.heap.objs.size (λ_=>none):=(Heap.Ns.new O.heap (.type "dict")).keeps (pushCells_keeps _ _)
 have c1:∀(x:Str) (c:Nat),(lR scope O.heap.objs.size X.env).lookup x=some c->O.heap.objs.size<c->∃v,(pushCells (O.heap.push { cls:=.type "dict",data:=.dict (List.toArray []) }) scope.names).IsCell c v:=λx c e hc=>by
  have e':(cellsFrom (O.heap.push { cls:=.type "dict",data:=.dict (List.toArray []) }).objs.size scope.names (cn X.env scope.names [])).lookup x=some c:=by rw[MQ];rwa[e]
  rcases pN _ _ _ _ _ e' with z|z
  ·let#[v,o,ho,_]:=I3.cell x c (f.cl ok z);rwa[absurd (GP ho) (Nat.lt_asymm hc)]
  ·rwa[none,z.1]
 generalize pushCells (O.heap.push { cls:=.type "dict",data:=.dict (List.toArray []) }) scope.names=h₁ at *;have ac:∀b o,s.heap.get? b=some o->O.heap.get? b=some o:=λb o e=>by rw[e3];rwa[h_ _ e]
 have b7:∀b∈fp,b≠s.heap.objs.size:=λb U z=>by
  let#[o,e,_]:=T.obj 0 _ st b U;rwa[absurd (GP e) (by rw[z];rwa[Lk _])]
 have b2:∀b∈fp,b<O.heap.objs.size/\b≠X.env.locals/\b∉X.fs/\(∀x c,X.env.cells.lookup x=some c->c≠b)/\∀o,X.base.get? b≠some o:=λb U=>by
  let#[o,e,_]:=T.obj 0 _ st b U;let#[f0,f1,f2,f3,f4,f5]:=hf b U;erw[GP (ac b o e),f1,f2,f4,λo' z=>?_]
  rcases f3 with q|q
  ·rwa[ok.noex b o' z q]
  ·rwa[absurd (GS (GP (ok.bs b o' z).1) q) (Lk _)]
 have ax:Inv (mq X N scope O (upd H s.heap.objs.size (.lst [])) fp) [] (bG src σ) (upd H s.heap.objs.size (.lst [])) { O with heap:=h₁,toks:=s.toks }:=
  pU (tk:=s.toks) I3 f hsrc b2 a9 hk c1
 generalize hY:mq X N scope O (upd H s.heap.objs.size (.lst [])) fp=Y at ax;have c0:PG Y tg g/\PIf Y ifs tt/\PE Y elt te:=by rw[<- hY];rwa[U O _ fp]
 let#[hg,ht,he]:=c0;have Yp:Y.prog=X.prog:=by rw[<- hY];rfl
 have Yw:Y.w=X.w:=by rw[<- hY];rfl
 have YK:Y.K=X.K:=by rw[<- hY];rfl
 have YA:Y.A=X.A:=by rw[<- hY];rfl
 have Yc:Y.calm=true:=by rw[<- hY];rwa[hcalm]
 have Yx:Y.xe=λ_ _=>False:=by rw[<- hY];rfl
 have Ye:Y.env=compEnvC scope (lR scope O.heap.objs.size X.env) O.heap.objs.size X.env:=by rw[<- hY];rfl
 have Ys:Y.s₀=O:=by rw[<- hY];rfl
 have YH:Y.H₀=upd H s.heap.objs.size (.lst []):=by rw[<- hY];rfl
 have Yf:Y.fs=frs X.stack:=by rw[<- hY];rfl
 have b0:Y.ex=fp:=by rw[<- hY];rfl
 have bd:Y.pn=[]:=by rw[<- hY];rfl
 have a6:∀{H':Hp},(∀b∈fp,H' b=none)->∀b∈fp,FJ Y [] H' b:=λ{H'} hn b U=>by
  let#[x1,x2,x3,x4,x5]:=b2 b U;erw[hn b U,?_,?_,.inl (by rw[b0];rwa[U]),?_,λp hp=>?_]
  ·rw[Ye];rwa[GA x1]
  ·rw[Yf];intro z
   rcases GH.mp (I.stkSub b z) with q|q
   ·rwa[x2 q]
   ·rwa[x3 q]
  ·rw[Ye];intro x c e
   rcases f.lk I3 e with⟨a,_⟩|a
   ·rwa[x4 x c a]
   ·rwa[λz=>absurd x1 (Nat.lt_asymm (z▸a))]
  ·rw[bd] at hp;rwa[absurd hp (by simp)]
 have b5:∀s4:Shared,s4=({ O with heap:=h₁,toks:=s.toks }:Shared)->
   codeAny (model X.prog X.w) X.A (.compLoop (.ListComp elt [#[tg,iter,ifs,(0)]] scope pos) 0 (.ref it) (.ref s.heap.objs.size) (compEnvC scope (lR scope O.heap.objs.size X.env) O.heap.objs.size X.env))
    (compPost (model X.prog X.w) X.A E use PQ (.ref s.heap.objs.size) O.heap.objs.size) s4:=by
  rintro s4 rfl;erw[ik (λn s'=>∃i σ' H',Inv Y [] σ' H' s'/\tn i s'.heap/\(∀b∈fp,H' b=none)/\W i n σ' H') ?_ m0
   #[33,(0),bG src σ,_,ax,T.keep 0 _ _ st λb U o e=>hk b o (ac b o e),λb U=>by rw[al (b7 b U)];exact(hf b U).1,w0]]
  rintro n s5 ⟨i,σ5,H5,I5,b8,b1,w5⟩
  rcases turn i n σ5 H5 w5 with⟨stop,qn⟩|⟨go,Nn,hNn,step⟩
  ·have q:=T.done Y Yp Yw YK Yc i [] s5 σ5 H5 (λ_ _=>False) I5 (a6 b1) b8 stop
   rw[YA] at q;erw[thn q λr s6 ⟨hr,I6⟩=>?_]
   subst hr;let#[m6,b3,_]:=id I6.loc;have eL:Y.env.locals=O.heap.objs.size:=by rw[Ye];rfl
   rw[eL] at b3;erw[hfin s.heap.objs.size O.heap.objs.size s6 H5 m6 b3 (I3.fpOk (ge _) (by have z:=I6.free;rw[eL] at z;rwa[z])) (λh' sb=>?_) qn]
   ·have b6:=I6.base;rw[Ys,YH,Yf,b0] at b6;have ne:∀b o,O.heap.get? b=some o->b≠O.heap.objs.size:=λb o e=>GA (GP e)
    have u6:Un (frs X.stack) fp (upd H s.heap.objs.size (.lst [])) H5 O.heap h':=
     #[λb o e n U hx=>(sb.2 b (ne b o e)).trans (b6.keep b o e n U hx),λb o e n U hx=>by
       let#[sl,z]:=b6.slot b o e n U hx;rwa[sl,(sb.2 b (ne b o e)).trans z],b6.free,λb o e hx=>by
       let#[o',z]:=b6.there b o e hx;rwa[o',(sb.2 b (ne b o e)).trans z],b6.tups,b6.frzs,b6.tbls]
    have fL:H5 O.heap.objs.size=none:=by
     have z:=I6.free;rw[eL] at z;rwa[z]
    have b4:HOk X.prog X.w H5 h':=by
     have z:=I6.hok;rw[Yp,Yw] at z;intro b ob e;refine(z b ob e).stay (λc w' hc q=>(sb.2 c ?_).trans q) (λ_ q=>q) λ_ _ q=>q
     rintro rfl
     rcases hc with rfl|hc
     ·rw[fL] at e;cases e
     ·rw[fL] at hc;cases hc
    have c4:s6.os=O.os:=by
     have z:=I6.os;rw[Ys] at z;rwa[z]
    erw[Inv.call' (s':={ s6 with heap:=h' }) I3 c4 u6 b4 I6.bare λb U=>?_]
    let#[f0,f1,f2,f3,f4,f5]:=hf b U;rwa[f3,f1,f4,f5]
  ·have q:=T.item Y Yp Yw YK Yc i [] s5 σ5 H5 (λ_ _=>False) I5 (a6 b1) b8 go
   rw[YA] at q;erw[thn q λr s6 ⟨u,hr,h6⟩=>?_]
   subst hr;erw[thn h6 λ_ s7 ⟨x,H7,I7,r7,y7,a',bz⟩=>?_]
   have b':=I7.pinned (a6 bz) (T.obj _ _ a');have Z:∀{σ9:St} {H9:Hp} {s9:Shared},Inv Y ([]++jc fp s7.heap) σ9 H9 s9->tn (i+1) s9.heap/\∀b∈fp,H9 b=none:=λ{σ9 H9 s9} I9=>
    #[T.keep _ _ _ a' λb U o e=>(I9.pin (b,o) (KC _ (KC _ (cN U e)))).1,λb U=>by
     let#[o,e,d]:=T.obj _ _ a' b U;exact(I9.pin (b,o) (KC _ (KC _ (cN U e)))).2.1]
   have g1:=hg _ s7 σ5 H7 x u _ b' r7 (step x H7 y7);rw[YA,Yx,Yp,Yw,Ye] at g1;erw[thn g1 λ_ s8 ⟨σ8,H8,I8,q8⟩=>?_]
   have g2:=ht _ s8 σ8 H8 _ I8 q8;rw[YA,Yx,Yp,Yw,Ye] at g2;erw[thn g2 λb s9 ⟨H9,I9,q9⟩=>?_]
   cases b with
   |false=>
    simp only[LW,On] at q9 ⊢;let#[m',hm,w9]:=hNn _ _ q9;rwa[73,m',hm,i+1,σ8,H9,I9.unpinned,(Z I9).1,(Z I9).2,w9]
   |true=>
    simp only[Px] at q9 ⊢;have g3:=he _ s9 σ8 H9 _ I9 q9;rw[YA,Yx,Yp,Yw,Ye] at g3;erw[thn g3 λyv c6 ⟨y,ad,b9,c5,ys,c2,hz,c3⟩=>?_]
    let#[m',hm,c8]:=hNn _ _ c3;have g4:=iW (X:=Y) _ c6 σ8 ad (.ref s.heap.objs.size) [y] (.ref s.heap.objs.size) [yv] (λ_ au=>au=upd ad s.heap.objs.size (.lst (ys++[y]))) b9 rfl (.cons c5 .nil) #[34,_,ys,y,1,1,c2,hz,1]
    rw[YA,Yx,Yp,Yw] at g4;erw[thn g4 λ_ c9 ⟨_,au,a8,_,be⟩=>?_]
    subst be;rwa[73,m',hm,i+1,σ8,_,a8.unpinned,(Z a8).1,(Z a8).2,c8]
 have q:=b5 _ rfl;have bx:({ O with heap:=h₁,toks:=s.toks }:Shared)={ s with heap:=h₁,toks:=s.toks }:=by rw[<- hs3]
 rw[bx] at q;have c7:tn 0 h₁:=T.keep 0 _ _ st λb U o e=>hk b o (ac b o e)
 rwa[codeAny_compStart_list q (T.self X.A 0 _ _ _ c7 q)]
theorem qe{elt iter:Expr}{wi:TI}(hcalm:X.calm=true)(hsc:oN X.env.scope scope=true)(hsrc:iE X.N N src scope=true)(hi:PI X tg iter wi)(hb:∀(s:Shared) (H:Hp) (ex:List Addr),PG (mq X N scope s H ex) tg g/\PIf (mq X N scope s H ex) ifs tt/\PE (mq X N scope s H ex) elt te)(hs:∀x,foldedSetIterable iter X.env x=pure x:=by intro _;rfl):
  PE X (.ListComp elt [#[tg,iter,ifs,(0)]] scope pos) (zR src wi g tt te):=by
 intro pins s σ H Q I h;have f:=sQ hsc;rw[eval_ListComp];erw[wpAny_comprehension_free (use:=none) rfl hs (gU (f.cells I.ok)) f.kind f.names (thn (hi pins s σ H _ I h) λv s1 h1=>thn h1 λa6 s2 h2=>?_)]
 let#[it,fp,tn,J,H2,1,U,T,O,Y,q2]:=h2;erw[wj (N:=N) (src:=src) none (EP X pins σ Q) X.xe hcalm f hsrc hb U T O Y q2 ?_];intro acc C s' H' m hn _ Z hq;rwa[m,hn,λh' sb=>#[22,.ref acc,H',Z h' sb,1,hq]]
end
theorem FD.m{k:Nat}(r:FD k A)(h:j<=k:=by first|decide|rwa[ge _]):FD j A:=r.mono h
theorem Fv.i{P:List Str}{sc:Scope}(a:sc.kind=.function:=by rfl)(b:sc.isCoroutine=false:=by rfl)(c:sc.isGenerator=false:=by rfl)(d:N.Nodup:=by decide +kernel)(e:N.take P.length=P:=by rfl)(f:∀x∈P,sc.names.lookup x=some .local\/sc.names.lookup x=some .cell:=by decide +kernel)(g:∀y∈sc.names,y.2≠.free:=by decide +kernel):Fv N P sc:=#[a,b,c,d,e,f,g]
def AllA:Nat->(List Value->Prop)->Prop
 |0,p=>p []
 |n+1,p=>∀v,AllA n λr=>p (v::r)
theorem AllA.all:∀{n:Nat} {p:List Value->Prop},AllA n p->∀us:List Value,us.length=n->p us
 |0,_,h,[],_=>h
 |_+1,_,h,v::r,e=>AllA.all (h v) r (Nat.succ.inj e)
def DefIn(K:Frag)(n:Str)(st:Stmt):Prop:=∃f fd,nsIn K mainGlobals n=some (some (.ref f))/\Fun K n n st f fd
theorem DefIn.mk{n:Str}{kV ct:Value}(a:nsIn K mainGlobals n=some (some (.ref f)))(l:K.lookup f=some #[oc,od,.func (fnOf n n (bv st) (aW st) (am st) .none kV doc pm an cdv ct),osl])(c:codeIn K cdv n=true)(k:keepIn K (.ref f)=true):DefIn K n st:=#[21,f,_,a,zu l c k]
section
variable {base:Heap}{n:Str}{k:Nat}
def BindsOk(n:Str)(st:Stmt)(ps:List Str):Prop:=∀(kV doc pm:Value) (an:Option Addr) (cdv ct:Value),AllA ps.length λus=>bindArgs (fnOf n n (bv st) (aW st) (am st) .none kV doc pm an cdv ct) #[us,[]]=pure (ps.zip us)
theorem BindsOk.b(h:BindsOk n st ps){fd:FuncData}(F:Fun K n n st f fd):FT K fd ps []:=F.binds λa b c d e g=>(h a b c d e g).all
theorem DefIn.fb(X:K.In h)(G:h.Ns mainGlobals mg)(d:DefIn K n st)(o:∀{f fd},Fun K n n st f fd->`aC CX0 k f fd ps sp)(b:BindsOk n st ps:=by(repeat intro _);rfl):`FnB k n sp:=
 let ⟨f,fd,a,F⟩:=d
 #[f,fd,ps,o F,Pu X G a,F.kp,b.b F]
theorem DefIn.fx(X:K.In h)(G:h.Ns mainGlobals mg)(d:DefIn K n st)(o:∀{f fd},Fun K n n st f fd->`aC (CXE P w) k f fd ps sp)(b:BindsOk n st ps:=by(repeat intro _);rfl):`sf k n sp:=
 let ⟨f,fd,a,F⟩:=d
 #[f,fd,ps,o F,Pu X G a,F.kp,b.b F]
end
theorem bmA(K:Frag)(hK:X.K=K){o:Expr}{es:List Expr}{to:TE}{t:TA}(ho:PE X o to)(ha:PA X (e::es) t)(hbase:attributeBase o "append" X.env (eval o X.env)=eval o X.env:=by rfl)(hfew:((backTo cpos (starEach (e::es) X.env)).all (λx=>!x.1)&&(backToKw cpos (keywordEach [] X.env)).all (λx=>x.1.isSome)
   && decide ((e::es).length+([]:List Keyword).length+(if ([]:List Keyword).isEmpty then 0 else 1)<30))=true:=by rfl)(hline:(apos.endLine==cpos.line)=true:=by rfl)(hs:starEach (e::es) X.env=(false,eval e X.env)::starEach es X.env:=by rfl)(hplain:(backTo cpos (starEach es X.env)).any (·.1)=false:=by rfl):
  PE X (.Call (.Attribute o "append" apos) (e::es) [] cpos) (tBM K "list" uJ to t):=hK▸Fc PySem.F.plainAttrs_list PySem.F.slot_list_append PySem.F.type_list_append iW ho ha hbase hfew hline hs hplain
section
variable {base:Heap}
theorem Fun.o{fd:FuncData}{k:Nat}(F:Fun K x qual st f fd)(S:Fv N ps (am st))(hbody:∀(cdv:Value) (A:Around) (outer:List Env) (s:Shared) (H:Hp) (vs:List V) (Q:VK) (E:XK),FD k (A.deeper (envOfC qual (am st) s.heap.objs.size f cdv))->sp vs H Q E->
   ∃t,PSs (cD CX0 P w K mg base N qual (am st) f cdv A outer s H E).nox (aW st) t/\t { nx:=λ_ H'=>Q .non H',rt:=Q } (cK N vs) H)(len:∀vs H Q E,sp vs H Q E->vs.length=ps.length:=by intro _ _ _ _ h;repeat first|(cases h.1;rfl)|let#[_,h]:=h):`aC CX0 (k+1) f fd ps sp:=F.ok S len hbody
end
def BmB(mg:Str->Option Value)(h:Heap):Prop:=∃bm o,mg "__builtins__"=some (.ref bm)/\bm≠builtinsNs/\bm≠mainGlobals/\h.get? bm=some o/\o.cls=.type "module"/\o.dict=some builtinsNs/\o.data=.plain
theorem wn{mb:Str->Option Value}{CX:CXT}{k:Nat}{fa a:Addr}{fd:FuncData}{s₁:Shared}{vs:List Value}(KX:K.In s₁.heap)(hns:s₁.heap.Ns mainGlobals mg)(U:s₁.heap.Ns builtinsNs mb)(hbb:∀x:Str,x≠"__name__"->mb x=bootBuiltins x)(hlim:s₁.heap.NoLimit)(hg:s₁.gens = (List.toArray []))(ha:s₁.heap.get? a=some { cls:=.type "list",data:=.seq vs.toArray })(hi:IntsAre vs ns)(hl:ns.length<=sizeLine)(hr:FD k callerA)(C0:CodeHd s₁.heap c0 P0)(hP0:s₁.heap.get? P0=some (tabObj (List.toArray [])))(hKP:K.lookup P0=none)(hbm:BmB mg s₁.heap)(F:∀base:Heap,K.In base->base.Ns mainGlobals mg->BmB mg base->CodeHd base c0 P0->`aC CX k fa fd [x] sp)(hbind:∀(s:Shared) (u:Value),BindsTo s fd #[[u],[]] [(x,u)])(hsp:∀H:Hp,H P0=some (.tbl (List.toArray []))->SqL K H a (ns.map V.int)->sp [.ref a] H (λv _=>v=.bl true) λ_ _ _=>False)(hCX:∀H e s',CX [] H s₁ (λ_ _ _=>False) e s'->False):
  codeAny (model P w) callerA (.call (.ref fa) #[[.ref a],[]]) (λr s'=>r=.ok (.ret (.bool true))/\OldK s₁.heap s'.heap/\s'.os=s₁.os/\AllBare s'.gens) s₁:=by
 have rv:=jj hi;have ax:=hi.length;have aP:a≠P0:=λz=>by rw[z,hP0] at ha;cases ha
 have b0:isCodeTable s₁.heap P0:=by
  let#[o,vs,_,_,_,_,_,_,_,h1,h2,h3,h4,_]:=C0;rwa[33,c0,o,vs,h1,h2,h3,h4]
 have a6:∀H:Hp,H P0=some (.tbl (List.toArray []))->(∀b,b≠P0->H b=none\/∃o xs,H b=some (.frz o (.lst xs)))->SqL K H a (ns.map V.int)->HOk P w H s₁.heap->(∀b,H b≠none->b=a\/b=P0)->(H a≠none->K.lookup a=none)->
   codeAny (model P w) callerA (.call (.ref fa) #[[.ref a],[]]) (λr s'=>r=.ok (.ret (.bool true))/\OldK s₁.heap s'.heap/\s'.os=s₁.os/\AllBare s'.gens) s₁:=by
  intro H hT hO hS hok hA hK;have O:∀{b:Addr} {o:Obj},s₁.heap.get? b=some o->H b=none->(lI s₁.heap H).get? b=some o:=λe n=>xY e n
  have bd:∀{b:Addr} {o:Obj} {es:Array DictEntry} {ep:Nat},s₁.heap.get? b=some o->o.data=.dict es ep->H b=none:=λ{b o es ep} e d=>by
   cases q:H b with
   |none=>rfl
   |some u=>
    rcases hA b (by rw[q];simp) with e'|e'
    ·subst e';rw[ha] at e;cases e;have d':Data.seq vs.toArray _=Data.dict es ep:=d;cases d'
    ·subst e';rw[hP0] at e;cases e;have d':Data.fields _=Data.dict es ep:=d;cases d'
  have Z:∀{b:Addr} {m:Str->Option Value},s₁.heap.Ns b m->(lI s₁.heap H).Ns b m:=λ{b m} ⟨o,es,ep,e,d,r⟩=>#[32,o,es,ep,O e (bd e d),d,r]
  have ac:K.In (lI s₁.heap H):=λb o e=>O (KX b o e) (by
   cases q:H b with
   |none=>rfl
   |some u=>
    rcases hA b (by rw[q];simp) with e'|e'
    ·subst e';rw[hK (by rw[q];simp)] at e;cases e
    ·subst e';rw[hKP] at e;cases e)
  have hM:Mod K mg (lI s₁.heap H):=#[ac,Z hns,#[mb,Z U,hbb],let ⟨mc,h1,h2⟩:=hlim;#[mc,Z h1,h2]]
  have e0:Env0 P w K mg (lI s₁.heap H) callerA [] s₁ H:=#[1,hM,λb o e=>A9 e,Nat.le_of_eq (vC _ _),trivial,λb U=>absurd (show b∈([]:List Addr) from U) (by simp),hok,.of_eq hg]
  have au:BmB mg (lI s₁.heap H):=by
   let#[bm,o,b1,b2,b3,b4,b5,b6,b7]:=hbm;erw[26,bm,o,b1,b2,b3,O b4 ?_,b5,b6,b7];cases q:H bm with
   |none=>rfl
   |some u=>
    rcases hA bm (by rw[q];simp) with e'|e'
    ·subst e';rw[ha] at b4;cases b4;rwa[absurd b5 (by simp)]
    ·subst e';rw[hP0] at b4;cases b4;rwa[absurd b5 (by simp)]
  have b9:CodeHd (lI s₁.heap H) c0 P0:=by
   let#[o,be,a',tf,a8,tg,b',b8,tt,h1,h2,r]:=C0;erw[404012,o,be,a',tf,a8,tg,b',b8,tt,O h1 ?_,h2,r];cases q:H c0 with
   |none=>rfl
   |some u=>
    rcases hA c0 (by rw[q];simp) with e'|e'
    ·subst e';rw[ha] at h1;cases h1;rwa[absurd h2 (by simp)]
    ·subst e';rw[hP0] at h1;cases h1;rwa[absurd h2 (by simp)]
  erw[codeAny_mono ((F _ ac (Z hns) au b9).run callerA [] s₁ H #[[.ref a],[]] [.ref a] [.ref a] _ _ hr e0 (hbind s₁ (.ref a)) (.cons rfl .nil) (hsp H hT hS)) λr s' h=>?_]
  cases r with
  |error e=>exact(hCX H e s' h).elim
  |ok fl=>
   cases fl with
   |next=>rwa[False.elim h]
   |brk=>rwa[False.elim h]
   |cont=>rwa[False.elim h]
   |ret u=>
    let#[v,H',os,bare,un,a7,r',q]:=h;have q':v=.bl true:=q;subst q';obtain rfl:u=Value.bool true:=r';have keep:∀b o,s₁.heap.get? b=some o->b≠P0->s'.heap.get? b=some o:=λb o e Y=>by
     cases q:H b with
     |none=>rwa[un.keep b o e q (by intro z;rwa[absurd (show b∈([]:List Addr) from z) (by simp)]) (by simp)]
     |some u=>
      rcases hO b Y with z|⟨ob,xs,z⟩
      ·rw[q] at z;cases z
      ·have z2:=un.frzs b ob _ z;let#[e1,_]:=hok b _ z;let#[e2,_]:=a7 b _ z2;rw[e] at e1;cases e1;rwa[e2]
    let#[more,a9]:=un.tbls P0 _ hT;have ad:s'.heap.get? P0=some (tabObj ((List.toArray [])++more)):=a7 P0 _ a9;erw[1,#[λb o e=>?_,λb o e=>?_],os,bare]
    ·by_cases Y:b=P0
     ·subst Y;rw[hP0] at e;cases e;rwa[.inr (.inl #[0221,b0,1,(List.toArray []),more,1,ad])]
     ·rwa[.inl (keep b o e Y)]
    ·by_cases Y:b=P0
     ·subst Y;rwa[_,ad]
     ·rwa[_,keep b o e Y]
 cases hk:K.lookup a with
 |some o=>
  have e:=KX a o hk;rw[ha] at e;cases e;erw[a6 (λb=>if b=P0 then some (.tbl (List.toArray [])) else none) (u_ rfl) (λb Y=>.inl (t_ Y)) (.inr #[35,_,vs.toArray,_,hk,1,1,1,by rw[GR,ax];rwa[hl],by simpa using rv]) (λb u z=>?_) (λb z=>?_) λz=>absurd (t_ aP) z]
  ·by_cases U:b=P0
   ·have z':=(u_ U).symm.trans z;cases z';subst U;rwa[hP0]
   ·have z':=(t_ U).symm.trans z;cases z'
  ·by_cases U:b=P0
   ·rwa[.inr U]
   ·rwa[absurd (t_ U) z]
 |none=>
  erw[a6 (λb=>if b=P0 then some (.tbl (List.toArray [])) else if b=a then some (.frz { cls:=.type "list",data:=.seq vs.toArray } (.lst (ns.map V.int))) else none) (u_ rfl) (λb Y=>?_) (.inl (.inr #[{ cls:=.type "list",data:=.seq vs.toArray },(t_ aP).trans (u_ rfl)])) (λb u z=>?_) (λb z=>?_) λ_=>hk]
  ·by_cases U:b=a
   ·rwa[.inr #[20,_,_,(t_ Y).trans (u_ U)]]
   ·rwa[.inl ((t_ Y).trans (t_ U))]
  ·by_cases hp:b=P0
   ·have z':=(u_ hp).symm.trans z;cases z';subst hp;rwa[hP0]
   ·by_cases U:b=a
    ·have z':=((t_ hp).trans (u_ U)).symm.trans z;cases z';subst U;rwa[0221,ha,by rw[k_];rwa[hl],vs,_,rv,ha]
    ·have z':=((t_ hp).trans (t_ U)).symm.trans z;cases z'
  ·by_cases hp:b=P0
   ·rwa[.inr hp]
   ·by_cases U:b=a
    ·rwa[.inl U]
    ·rwa[absurd ((t_ hp).trans (t_ U)) z]
theorem walk_ofT{l:PySem.W.OpenLaw}{k:Nat}{q:Program}{loose:List Str}{XP:(Str->Option Value)->Heap->Prop}{YP:World->Heap->Prop}{d dt:DefRec}{K:Params->Frag}{CX:World->CXT}{sp:World->Sp}{y:Str}(hn:l.most=some n)(hn2:n<=sizeLine)(hdf:d.params.defaults=[])(hr:FD k callerA)(hY:∀(w:World) (h:Heap),YP w h->(K w.params).In h)(hrec:(recsOf q).find? (λe=>e.name==y)=some dt)(htab:∀w:World,tabIn (K w.params) y=some (c0,P0))(hKP:∀w:World,(K w.params).lookup P0=none)(F:∀(w:World) (mg:Str->Option Value) (fa:Addr) (h:Heap),(K w.params).In h->h.Ns mainGlobals mg->mg d.name=some (.ref fa)->
   ∃fd:FuncData,(∀(s:Shared) (u:Value),BindsTo s fd #[[u],[]] [(x,u)])/\
    ∀base:Heap,(K w.params).In base->base.Ns mainGlobals mg->BmB mg base->CodeHd base c0 P0->aC l.prog w (K w.params) mg base (CX w) k fa fd [x] (sp w))(hsp:∀(w:World) (H:Hp) (a:Addr) (ns:List Int),ns.length<=n->H P0=some (.tbl (List.toArray []))->SqL (K w.params) H a (ns.map V.int)->sp w [.ref a] H (λv _=>v=.bl true) λ_ _ _=>False)(hCX:∀(w:World) (H:Hp) (s:Shared) (e:Value) (s':Shared),CX w [] H s (λ_ _ _=>False) e s'->False):
  PySem.W.WalkO q loose XP YP l.row.toRowW d [] (λf vs=>PySem.call f vs):=by
 erw[Att.attach_call hn hdf λw s₀ s₁ mg mb fa o pm cd doc a vs ns G Y ho hd a9 a8 Z U O hg=>?_]
 have KX:=hY w _ Y;let#[fd,hb,hF]:=F w mg fa _ KX G.T.g a8;let#[C0,a6]:=PySem.W.tab_of G.T KX hrec (htab w);have a7:BmB mg s₁.heap:=by
  let#[bm,ob,b1,b2,b3,b4,b5,b6]:=G.T.bmain;erw[26,bm,ob,b1,b2,λq=>?_,b3,b4,b5,b6]
  let#[o,es,ep,e,hd,_]:=G.T.g;rw[q,e] at b3;cases b3;rw[hd] at b6;cases b6
 rwa[wn KX G.T.g G.T.b G.T.builtins G.T.nolimit hg Z U (Lg O hn2) hr C0 a6 (hKP w) a7 hF hb (λH hO hS=>hsp w H a ns O hO hS) λH e s'=>hCX w H s₁ e s']
theorem AT{base:Heap}{k:Nat}{args:Args}{vs:List V}{Q:VK}{E:XK}(ho:s.heap.get? f=some (kla_obj name qual params body scope [] pm c' ctv))(hcd:s.heap.CodeRec (.ref c') qual)(S:Fv N ps scope)(hr:FD (k+1) A)(e0:`Env0 A outer s H)(hb:BindsTo s (PySem.W.kla_fn name qual params body scope [] pm (.ref c') ctv) args (ps.zip us))(r:Fw vs us)(hl:vs.length=ps.length)(hbody:FD k (A.deeper (envOfC qual scope s.heap.objs.size f (.ref c')))->∃t,PE (cD CX0 P w K mg base N qual scope f (.ref c') A outer s H E) body t/\t (cK N vs) H Q):
  codeAny (model P w) A (.call (.ref f) args) (CR CX0 outer P w H s Q E) s:=by
 have Y:s.heap.NoLimit:=e0.mod.nolimit.keeps λb o e=>(e0.bs b o e).1
 have O:∀y∈ps.zip us,scope.names.lookup y.1=some .local\/(scope.names.lookup y.1=some .cell/\((cellsFrom (s.heap.objs.size+1) scope.names []).lookup y.1).isSome=true):=λ⟨n,v⟩ hy=>by
  rcases S.par n (of_mem_zip hy).1 with q|q
  ·rwa[.inl q]
  ·rwa[.inr #[q,PySem.W.cellsFrom_some _ _ _ (.inl q)]]
 erw[PySem.W.kla_callFunE hr.depth ho rfl S.co S.gen rfl hcd (hb _ _ _ _ ?_)];erw[wpAny_newFunctionEnv_cells S.kind O λenv Z s1 x=>?_]
 subst Z;erw[Y.keeps x.toInCall.keep,PySem.W.kla_codeExpr ?_];let#[t,ht,hq]:=hbody (hr.deeper _);have I:Inv (cD CX0 P w K mg base N qual scope f (.ref c') A outer s H E) [] (cK N vs) H s1:=nU S hr.hd e0 hl r x;erw[LF (ht [] s1 (cK N vs) H _ I hq) (λu s' U=>?_) λe s' U=>U]
 let#[v,H',J,rv,q]:=U;rwa[25,v,H',J.os,J.bare,J.base,J.hok,rv,q]
section
theorem Inv.grow{ps more:Array Value}{o':HO}(I:Inv X pins σ H s)(hT:H P0=some (.tbl ps))(hx:Heap.ExtBut P0 s.heap h')(hP':h'.get? P0=some (tabObj (ps++more)))(hge:s.heap.objs.size<=c')(new:∀H',FC X.prog X.w H' h' c' o'):
  Inv X pins σ (upd (upd H P0 (.tbl (ps++more))) c' o') { s with heap:=h',toks:=t' }:=by
 have Y:H c'=none:=I.hok.fresh hge;have Z:∀{b:Addr},H b=none->b≠P0:=λn z=>by rw[z,hT] at n;cases n
 have cP:P0≠c':=λz=>by rw[<- z,hT] at Y;cases Y
 have O:∀{b:Addr} {u:HO},H b=some u->(∀ps,u≠.tbl ps)->upd (upd H P0 (.tbl (ps++more))) c' o' b=some u:=λ{b u} e n=>by
  rw[al (ah e Y),al (λz=>by rw[z,hT] at e;cases e;rwa[n _ rfl])]
  rwa[e]
 have a6:∀{b:Addr} {o:Obj},s.heap.get? b=some o->b≠c':=λe=>GA (GS (GP e) hge)
 erw[I.un #[λb o e n _ _=>hx b o (Z n) e,λb o e n _ _=>#[o.slots,hx b o (Z n) e],λb o e n _=>by rw[al (a6 e),al (Z n)];rwa[n],λb o e _=>?_,λb xs e=>O e (λ_ z=>by cases z),λb o u e=>O e (λ_ z=>by cases z),λb qs e=>?_] λb u e=>?_]
 ·by_cases z:b=P0
  ·rw[z];rwa[_,hP']
  ·rwa[o,hx b o z e]
 ·by_cases z:b=P0
  ·subst z;rw[hT] at e;cases e;rwa[more,by rw[al cP];rwa[ae]]
  ·rwa[(List.toArray []),by rw[al (ah e Y),al z,e];simp]
 ·by_cases zc:b=c'
  ·subst zc;rw[ae] at e;cases e;rwa[new _]
  rw[al zc] at e
  by_cases z:b=P0
  ·subst z;rw[ae] at e;cases e;rwa[hP']
  ·rw[al z] at e;refine(I.hok b u e).stay (λc v U q=>hx c v ?_ q) (λc q=>O q (λ_ z=>by cases z)) λc xs q=>O q (λ_ z=>by cases z)
   rcases U with rfl|U
   ·rwa[z]
   ·rintro rfl;rw[hT] at U;cases U
end
def eI(c:Addr)(qual:Str):HO:=.ext λh=>h.CodeRec (.ref c) qual
theorem yX{c:Addr}(x:h.CodeRec (.ref c) qual):FC P w H h c (eI c qual):=by
 erw[x,?_,λh1 h2 q k=>?_]
 ·let#[O,oc,vs,t,e,h1,_]:=x;cases e;rwa[_,h1]
 ·let#[O,oc,vs,t,e,h1,r]:=q;cases e;rwa[42,c,oc,vs,t,1,k _ h1,r]
def tz(a:Addr)(o:Obj):HO:=.ext λh=>h.get? a=some o
theorem tX{a:Addr}{o:Obj}(x:h.get? a=some o):FC P w H h a (tz a o):=#[x,#[_,x],λ_ _ q k=>k _ q]
def Gg(H:Hp)(P0:Addr)(lpos:Pos)(qual:Str):Prop:=∃ps,H P0=some (.tbl ps)/\PySem.TriplesOk ps.toList/\(codeAmong lpos ps.toList=none\/∃c',codeAmong lpos ps.toList=some (.ref c')/\H c'=some (eI c' qual))
theorem jF{c:Value}:∀{l:List Value},TriplesOk l->codeAmong pos l=none->TriplesOk (l++[rawInt pos.line,rawInt pos.col,c])/\codeAmong pos (l++[rawInt pos.line,rawInt pos.col,c])=some c
 |[],_,_=>by
  erw[by simp[TriplesOk,rawInt],?_]
  simp[codeAmong,rawInt]
 |.int i t :: .int j u::x::r,h,e=>by
  have h':TriplesOk r:=h;have e2:(if i==pos.line&&j==pos.col then some x else codeAmong pos r)=none:=e
  have O:codeAmong pos r=none/\(i==pos.line&&j==pos.col)=false:=by
   split at e2
   ·cases e2
   ·rename_i z;rwa[e2,by simpa using z]
  let#[a,b]:=jF (c:=c) h' O.1;erw[a,?_];show(if i==pos.line&&j==pos.col then some x else codeAmong pos (r++[rawInt pos.line,rawInt pos.col,c]))=some c
  rw[O.2];rwa[b]
section
theorem xR(I:Inv X pins σ H s)(hcode:X.env.code=.ref c0)(hC:CodeHd X.base c0 P0)(hB:BmB X.mg X.base)(hdef:defaultsOf params X.env=([],[]))(hcl:closureFor scope X.env=pure [])(hT:Gg H P0 lpos (X.env.qual++"<lambda>"))(h:∀(O f:Addr) (pm U:Value) (H':Hp) (s':Shared),Inv X pins σ H' s'->Gg H' P0 lpos (X.env.qual++"<lambda>")->H O=none\/H' O=H O->H f=none->H' O=some (eI O (X.env.qual++"<lambda>"))->H' f=some (tz f (kla_obj "<lambda>" (X.env.qual++"<lambda>") params body scope [] pm O U))->(∀c o,H c=some o->c≠P0->H' c=some o)->Q (.ref f) s'):
  wpAny (model X.prog X.w) A (eval (.Lambda params body scope lpos) X.env) Q E s:=by
 let#[ps,hP,ht,hc]:=hT;have a6:s.heap.get? P0=some (tabObj ps):=I.hok P0 _ hP;have hg:s.heap.Ns mainGlobals X.mg:=by
  let#[o,es,ep,e,d,r]:=I.ok.mod.glob;rwa[32,o,es,ep,I.bk _ _ e,d,r]
 have nP:∀{b:Addr} {o:Obj},X.base.get? b=some o->b≠P0:=λe z=>by
  have n:=(I.bs _ _ e).2;rw[z,hP] at n;cases n
 have a':mainGlobals≠P0:=by
  let#[o,es,ep,e,_]:=I.ok.mod.glob;rwa[nP e]
 have hb:s.heap.BuiltinsAt X.mg P0:=by
  let#[bm,o,b1,b2,b3,b4,b5,b6,b7]:=hB;rwa[27,bm,o,b1,b2,b3,nP b4,I.bk _ _ b4,b5,b6,b7]
 erw[PySem.W.kla_eval hdef ?_]
 rcases hc with hc|⟨O,hc,Y⟩
 ·erw[PySem.W.kla_makeFunction (mg:=X.mg) hcl I.ok.glob hg hcode (hC.keeps I.bk) a6 ht hc a' hb λO U h' tk hx a8 ac a9 htb=>?_]
  have nc:H O=none:=I.hok.fresh a8;have cP:O≠P0:=λz=>by rw[z,hP] at nc;cases nc
  have I1:Inv X pins σ (upd (upd H P0 (.tbl (ps ++ (List.toArray [rawInt lpos.line,rawInt lpos.col,.ref O])))) O (eI O (X.env.qual++"<lambda>"))) { s with heap:=h',toks:=tk }:=I.grow hP hx htb a8 λ_=>yX a9
  have Z:(upd (upd H P0 (.tbl (ps ++ (List.toArray [rawInt lpos.line,rawInt lpos.col,.ref O])))) O (eI O (X.env.qual++"<lambda>"))) P0=some (.tbl (ps ++ (List.toArray [rawInt lpos.line,rawInt lpos.col,.ref O]))):=by rw[al cP.symm];rwa[ae]
  have a7:(upd (upd H P0 (.tbl (ps ++ (List.toArray [rawInt lpos.line,rawInt lpos.col,.ref O])))) O (eI O (X.env.qual++"<lambda>"))) O=some (eI O (X.env.qual++"<lambda>")):=ae;have k1:∀c o,H c=some o->c≠P0->(upd (upd H P0 (.tbl (ps ++ (List.toArray [rawInt lpos.line,rawInt lpos.col,.ref O])))) O (eI O (X.env.qual++"<lambda>"))) c=some o:=λc o e n=>by rw[al (ah e nc),al n];rwa[e]
  have n1:(upd (upd H P0 (.tbl (ps ++ (List.toArray [rawInt lpos.line,rawInt lpos.col,.ref O])))) O (eI O (X.env.qual++"<lambda>"))) h'.objs.size=none:=I1.hok.fresh (ge _);generalize upd (upd H P0 (.tbl (ps ++ (List.toArray [rawInt lpos.line,rawInt lpos.col,.ref O])))) O (eI O (X.env.qual++"<lambda>"))=H1 at *;have nf:H h'.objs.size=none:=by
   cases e:H h'.objs.size with
   |none=>rfl
   |some o=>
    by_cases z:h'.objs.size=P0
    ·rw[z,Z] at n1;cases n1
    ·rw[k1 _ _ e z] at n1;cases n1
  have keep:∀c o,H1 c=some o->upd H1 h'.objs.size (tz h'.objs.size (kla_obj "<lambda>" (X.env.qual++"<lambda>") params body scope [] ((X.mg "__name__").getD .none) O U)) c=some o:=λc o e=>by rw[al (ah e n1)];rwa[e]
  let#[t2,a2]:=jF (c:=.ref O) (pos:=lpos) ht hc;erw[h O h'.objs.size _ U (upd H1 h'.objs.size (tz h'.objs.size (kla_obj "<lambda>" (X.env.qual++"<lambda>") params body scope [] ((X.mg "__name__").getD .none) O U))) _ ?_ #[_,keep _ _ Z,by simpa using t2,.inr #[O,by simpa using a2,keep _ _ a7]] (.inl nc) nf (keep _ _ a7) ae λc o e n=>keep c o (k1 c o e n)]
  rwa[I1.laid (t':=tk) (λb u e=>h_ _ e) (ge _) (tX (z_ _ rfl))]
 ·erw[PySem.W.kla_makeFunctionHit (mg:=X.mg) hcl I.ok.glob hg hcode (hC.keeps I.bk) a6 ht hc hb λU h' tk hk hsz=>?_]
  have nf:H h'.objs.size=none:=I.hok.fresh hsz;have fP:h'.objs.size≠P0:=λz=>by rw[z,hP] at nf;cases nf
  have keep:∀c o,H c=some o->upd H h'.objs.size (tz h'.objs.size (kla_obj "<lambda>" (X.env.qual++"<lambda>") params body scope [] ((X.mg "__name__").getD .none) O U)) c=some o:=λc o e=>by rw[al (ah e nf)];rwa[e]
  erw[h O h'.objs.size _ U (upd H h'.objs.size (tz h'.objs.size (kla_obj "<lambda>" (X.env.qual++"<lambda>") params body scope [] ((X.mg "__name__").getD .none) O U))) _ ?_ #[ps,keep _ _ hP,ht,.inr #[O,hc,keep _ _ Y]] ?_ nf (keep _ _ Y) ae λc o e _=>keep c o e]
  ·rwa[I.laid (t':=tk) (λb u e=>h_ _ (hk b u e)) hsz (tX (z_ _ rfl))]
  ·rwa[.inr ((keep _ _ Y).trans Y.symm)]
end
def tgt(k j:List Int×Int):Bool:=if k.1=j.1 then gtI k.2 j.2 else m8 k.1 j.1
def KeyT(K:Frag)(H:Hp)(z:V)(k:List Int×Int):Prop:=∃t a,z=.ref t/\SqT K H t [.ref a,.int k.2]/\SqT K H a (k.1.map V.int)
theorem KeyT.same{z:V}{k:List Int×Int}(s:Fu H H')(h:KeyT K H z k):KeyT K H' z k:=by
 let#[t,a,e,h1,h2]:=h;rwa[22,t,a,e,s.sqT h1,s.sqT h2]
section
theorem uL{z1 z2:V}{Z u2:Value}{k j:List Int×Int}(I:Inv X pins σ H s)(hu:A.units+80<cLine)(h1:KeyT X.K H z1 k)(h2:KeyT X.K H z2 j)(r1:Fy z1 Z)(r2:Fy z2 u2):RcO .Gt A s Z u2 (tgt k j):=by
 let#[a,ta,1,ha,O]:=h1;let#[b,tb,1,hb,htb]:=h2;let#[ns,m]:=k;let#[ms,n]:=j;cases r1;cases r2;let#[its,r1,p1,_]:=I.tuple ha;let#[ac,r2,p2,_]:=I.tuple hb;let#[a',r3,p3,_]:=I.tuple O;let#[Y,r4,p4,_]:=I.tuple htb;have e3:=r3.length;have e4:=r4.length;rw[k_] at e3 e4;let#[Z,u2,1,q1,q2]:=uz r1;let#[w1,w2,1,q3,q4]:=uz r2;let#[t1,1]:=(show ∃t,u2=Value.int m t from q2)
 let#[t3,1]:=(show ∃t,w2=Value.int n t from q4)
 cases (show Z=Value.ref ta from q1)
 cases (show w1=Value.ref tb from q3)
 have a8:A.units<cLine:=()
 have hu1:A.in1.units<cLine:=by show A.units+1<cLine;lia
 have a9:A.in1.units+64<cLine:=by show A.units+1+64<cLine;lia
 have a6:SeqAt.EqAt A.in1 s (.ref ta) (.ref tb) (decide (ns=ms)):=by
  by_cases U:ta=tb
  ·subst U;have e:=I.tuple_inj O htb;have e':ns=ms:=ig e;rw[p_ e'];rwa[SeqAt.EqAt.same _]
  ·erw[SeqAt.EqAt.of_refs U λprog w E Q' hq=>?_]
   let#[as,ra]:=(dB O).reads I rfl;let#[bs,rb]:=(dB htb).reads I rfl;rwa[eq_dataH ra rb (bH _) (bH _) a9 (by rw[iL];rwa[hq])]
 have a7:RcO .Gt A.in1 s (.ref ta) (.ref tb) (m8 ns ms):=by
  have z:=B8 (show s.heap.IsTuple ta a'.toArray from p3) (show s.heap.IsTuple tb Y.toArray from p4) hu1 (nk (ns:=ns) (ms:=ms) (λ_ _ _ _=>p7 _ _ _ _ _ _) (by simpa using r3) (by simpa using r4))
  rw[GR,GR,<- e3,<- e4] at z;rwa[z]
 have ck:oQ .Gt A.in1 s [.ref ta,.int m t1] [.ref tb,.int n t3] [(decide (ns=ms),m8 ns ms),(m==n,gtI m n)]:=
  .cons a6 (λ_=>a7) (.cons (SeqAt.EqAt.int_int m t1 n t3) (λ_=>p7 _ _ _ _ _ _) (.nil _))
 have z:=B8 (show s.heap.IsTuple a _ from p1) (show s.heap.IsTuple b _ from p2) a8 ck
 have e:pC [(decide (ns=ms),m8 ns ms),(m==n,gtI m n)] (decide ((List.toArray [Value.ref ta,.int m t1]).size > (List.toArray [Value.ref tb,.int n t3]).size))=tgt (ns,m) (ms,n):=by
  unfold tgt
  by_cases h2:ns=ms
  ·rw[u_ h2,p_ h2]
   by_cases h1:m=n
   ·rw[show(m==n)=true by simpa using h1]
    subst h1;unfold gtI;rw[Gx (Int.lt_irrefl m)]
    rfl
   ·rw[show(m==n)=false by simpa using h1]
    rfl
  ·rw[t_ h2,Gx h2]
   rfl
 rw[<- e];rwa[z]
end
def DC(X:Cx)(σ:St)(A:Around)(f:Value)(H0:Hp)(xs:List V)(key:V->List Int×Int):Prop:=
 ∀(pins:List (Addr×Obj)) (x:V),x∈xs->∀(u:Value) (H1:Hp) (s1:Shared),Fy x u->Inv X pins σ H1 s1->Fu H0 H1->
  wpAny (model X.prog X.w) A (call f [u]) (λv s2=>∃z H2,Inv X pins σ H2 s2/\Fy z v/\Fu H1 H2/\KeyT X.K H2 z (key x)) (λ_ _=>False) s1
def btK(xs:List V)(key:V->List Int×Int)(i j:Nat):Bool:=tgt (key (xs.getD i .non)) (key (xs.getD j .non))
theorem Inv.pin1{a:Addr}{o:Obj}(I:Inv X pins σ H s)(f:FJ X pins H a)(e:s.heap.get? a=some o)(n:∀v,o.data≠.cell v):Inv X ((a,o)::pins) σ H s:=
 I.pins_of λp O=>by
  rcases GH.mp O with rfl|O
  ·rwa[e,f.1,f.2.1,f.2.2.1,n]
  ·rwa[I.pin p (KC _ O)]
theorem Inv.unpin(I:Inv X (q::pins) σ H s):Inv X pins σ H s:=
 I.pins_of λp O=>I.pin p (KC _ (GG _ O))
theorem FJ.at{b:Addr}(f:FJ X pins H b)(n:H' b=none):FJ X pins H' b:=#[n,f.2]
theorem FJ.cons{b:Addr}(f:FJ X pins H b)(n:q.1≠b):FJ X (q::pins) H b:=#[f.1,f.2.1,f.2.2.1,f.2.2.2.1,f.2.2.2.2.1,λp O=>by
 rcases KI.mp O with z|z
 ·rwa[f.2.2.2.2.2 p (Mn _ z)]
 ·rcases GH.mp z with rfl|z
  ·rwa[n]
  ·rwa[f.2.2.2.2.2 p (KC _ z)]]
section
variable {q It S:Addr}{key:V->List Int×Int}{R:Result->Shared->Prop}
theorem wU(hc:X.calm=true)(hh:A.in1.handled=none)(hu:A.in1.units+80<cLine)(hl:SqL X.K H0 l xs)(KF:DC X σ A.in1 (.ref q) H0 xs key)(hIS:S≠It)(hR:∀x u H' s',xs[argBest (btK xs key) (xs.length-1)]? = some x->Fy x u->Inv X pins σ H' s'->Fu H0 H'->R (.ok (.ret u)) s'):
  ∀(r j:Nat) (H:Hp) (s:Shared) (x zk:V) (ub kb:Value) (c:Nat),xs.length-(j+1)=r->j+1<=xs.length->Inv X pins σ H s->Fu H0 H->FJ X pins H It->FJ X pins H S->s.heap.IsListIter It l (j+1)->s.heap.get? S=some (seqObj "list" (List.toArray [ub,kb]) c)->
   xs[argBest (btK xs key) j]? = some x->Fy x ub->KeyT X.K H zk (key x)->Fy zk kb->
   codeAny (model X.prog X.w) A (.builtin "max.loop" #[[.ref It,.ref q,.ref S],[]]) R s:=by
 have Y:(toString "max" ++ toString ".loop" : String)="max.loop":=#[]
 intro r
 induction r with
 |zero=>
  intro j H s x zk ub kb c hr hj I sm U fS a7 hS O rb hk rk;have b7:j+1=xs.length:=()
  let#[its,rv,p,hz]:=I.list (sm.seq hl);have b6:its.length=xs.length:=rv.length.symm;erw[Nu PySem.F.entry_max_loop ?_];rw[Mj PySem.F.plain_max_loop _];show wpAny _ A.in1 (seqItems? (.ref S) >>= _) _ _ _;erw[c_ (Mi hS rfl ?_)];show wpAny _ A.in1 (tryCatch (pyNext (.ref It)) _ >>= _) _ _ _;erw[c_ (Ot (wpAny_pyNext_list_end hh a7 p.isList (by simp;lia) λh' eb=>?_))]
  have I1:Inv X pins σ H { s with heap:=h' }:=I.turned (t':=s.toks) (λb o O e=>eb b o O e) U.1 U.2.1 U.2.2.2.1 U.2.2.2.2.1 U.2.2.2.2.2
  have b0:=eb S _ hIS hS;show wpAny _ A.in1 (updateSeq S (λ_=>(List.toArray [])) >>= _) _ _ _
  erw[c_ ?_];erw[wpAny_updateSeq b0 rfl (c_ (Oz (i_ ?_)))];rwa[hR x ub H _ (by rw[show xs.length-1=j by lia];rwa[O]) rb (I1.turnedN (t':=s.toks) (fp:=[S]) (λb o O e=>(LP _ _ (λz=>O (by rw[z];rwa[mem_singleton_self _]))).trans e) λb O=>by rw[GF.mp O];rwa[fS]) sm]
 |succ r ih=>
  intro j H s x zk ub kb c hr hj I sm U fS a7 hS O rb hk rk;have a8:j+1<xs.length:=()
  let#[its,rv,p,hz]:=I.list (sm.seq hl);obtain⟨x',Z⟩:∃x',xs[j+1]? = some x':=#[_,e_ a8]
  let#[u,b3,ru]:=rv.get Z;erw[Nu PySem.F.entry_max_loop ?_];rw[Mj PySem.F.plain_max_loop _];show wpAny _ A.in1 (seqItems? (.ref S) >>= _) _ _ _;erw[c_ (Mi hS rfl ?_)];show wpAny _ A.in1 (tryCatch (pyNext (.ref It)) _ >>= _) _ _ _;erw[c_ (Ot (wpAny_pyNext_list_item a7 p.isList (x:=u) (by simpa using b3) λh' b5 sb=>?_))]
  have I1:Inv X pins σ H { s with heap:=h' }:=I.turned (t':=s.toks) (λb o O e=>(sb.2 b O).trans e) U.1 U.2.1 U.2.2.2.1 U.2.2.2.2.1 U.2.2.2.2.2
  have b1:h'.get? S=some (seqObj "list" (List.toArray [ub,kb]) c):=(sb.2 S hIS).trans hS;let#[oI,b2,ad,a9]:=id b5;have I2:Inv X ((It,oI)::(S,seqObj "list" (List.toArray [ub,kb]) c)::pins) σ H { s with heap:=h' }:=(I1.pin1 fS b1 (λv z=>by cases z)).pin1 (U.cons hIS) b2 (λv z=>by rw[a9] at z;cases z)
  show wpAny _ A.in1 (tryCatch (holding [u] (call (.ref q) [u])) _ >>= _) _ _ _;erw[c_ (Ot (Ll (LF (KF _ x' (E_ Z) u H _ ru I2 sm) (λv s2 he=>?_) λ_ _ hF=>hF.elim)))]
  let#[z,H2,J,rz,a',kz]:=he;have pI:=J.pin (It,oI) (KC _ (.head _));have pS:=J.pin (S,seqObj "list" (List.toArray [ub,kb]) c) (KC _ (.tail _ (.head _)));have J:=J.unpin.unpin;have au:=sm.trans a';have ac:FJ X pins H2 It:=U.at pI.2.1;have a6:FJ X pins H2 S:=fS.at pS.2.1;have b4:s2.heap.IsListIter It l (j+1+1):=#[oI,pI.1,ad,a9];show wpAny _ A.in1 (tryCatch (holding [u,v] (richCompare .Gt v kb >>= _)) _ >>= _) _ _ _;erw[c_ (Ot (Ll (c_ (uL J hu kz (hk.same a') rz rk _ _ _ _ ?_))))];erw[c_ (Ll (MA ?_))];erw[c_ (Oz (i_ ?_))];have ax:btK xs key (j+1) (argBest (btK xs key) j)=tgt (key x') (key x):=by
   show tgt (key (xs.getD (j+1) .non)) (key (xs.getD (argBest (btK xs key) j) .non))=_;rw[Gc,Gc,Z,O]
   rfl
  have eb:argBest (btK xs key) (j+1)=if tgt (key x') (key x)=true then j+1 else argBest (btK xs key) j:=by
   show(if btK xs key (j+1) (argBest (btK xs key) j)=true then _ else _)=_
   rw[ax]
  cases hg:tgt (key x') (key x) with
  |true=>
   rw[hg] at eb;simp only[Px];erw[c_ ?_];erw[wpAny_updateSeq pS.1 rfl (c_ (Oz ?_))];rw[Y];erw[i_ #[NG PySem.F.plain_max_loop _,?_]];erw[ih (j+1) H2 _ x' z u v _ () a8 (J.turnedN (t':=s2.toks) (fp:=[S]) (λb o O e=>(LP _ _ (λz=>O (by rw[z];rwa[mem_singleton_self _]))).trans e) λb O=>by rw[GF.mp O];rwa[a6]) au ac a6 #[oI,(LP _ _ hIS).trans pI.1,ad,a9] (OS pS.1 λ_=>(List.toArray [u,v])) (by rw[eb];rwa[Z]) ru kz rz]
  |false=>
   rw[hg] at eb;simp only[LW,On];erw[c_ (Oz ?_)];rw[Y];rwa[i_ #[NG PySem.F.plain_max_loop _,ih (j+1) H2 s2 x zk ub kb c () a8 J au ac a6 b4 pS.1 (by rw[eb];rwa[O]) rb (hk.same a') rk]]
theorem oT(a v:Value):argsOk "max" #[[a],[(Str.ofString "key",v)]]:=by unfold argsOk;kernel_rfl
theorem wF(hc:X.calm=true)(hh:A.in1.handled=none)(hu:A.in1.units+80<cLine)(I:Inv X pins σ H s)(hl:SqL X.K H l xs)(hne:0<xs.length)(KF:DC X σ A.in1 (.ref q) H xs key)(hQ:∀x u H' s',xs[argBest (btK xs key) (xs.length-1)]? = some x->Fy x u->Inv X pins σ H' s'->Fu H H'->Q u s'):
  wpAny (model X.prog X.w) A (call (.builtin "max") [.ref l] [(Str.ofString "key",.ref q)]) Q E s:=by
 have O:(toString "max" ++ toString ".loop" : String)="max.loop":=#[]
 let#[its,rv,p,hz]:=I.list hl;obtain⟨x0,Y⟩:∃x',xs[0]? = some x':=#[_,e_ hne]
 let#[u0,b1,b2]:=rv.get Y;erw[kmk_tree PySem.F.kind_max PySem.F.plain_max PySem.F.entry_max (oT _ _) ?_];show wpAny _ A.in1 (Builtin.Builtins.bindParams "max" ["key", "default"] 0 #[[],[(Str.ofString "key",.ref q)]] >>= _) _ _ s;erw[c_ (N_ (show Builtin.Builtins.bindParams "max" ["key", "default"] 0 #[[],[(Str.ofString "key",.ref q)]]=pure [some (.ref q),none] from rfl) ?_)]
 erw[c_ (i_ ?_)];erw[c_ (MW p.isList ?_)];erw[c_ (OU ?_ (Gw _))];rw[O];erw[i_ #[NG PySem.F.plain_max_loop _,?_]];have k1:∀b o,s.heap.get? b=some o->((s.heap.push { cls:=.type "list_iterator",data:=.fields (List.toArray [.ref l,.int 0 0]) }).push (seqObj "list" (List.toArray []) 0)).get? b=some o:=λb o e=>h_ _ (h_ _ e)
 have a8:s.heap.objs.size<=(s.heap.push { cls:=.type "list_iterator",data:=.fields (List.toArray [.ref l,.int 0 0]) }).objs.size:=by rw[MQ];lia
 have Z:FJ X pins H s.heap.objs.size:=I.fpOk (ge _) (I.hok.fresh (ge _));have fS:FJ X pins H (s.heap.push { cls:=.type "list_iterator",data:=.fields (List.toArray [.ref l,.int 0 0]) }).objs.size:=I.fpOk a8 (I.hok.fresh a8);have U:(s.heap.push { cls:=.type "list_iterator",data:=.fields (List.toArray [.ref l,.int 0 0]) }).objs.size≠s.heap.objs.size:=by rw[MQ];lia
 have gI:((s.heap.push { cls:=.type "list_iterator",data:=.fields (List.toArray [.ref l,.int 0 0]) }).push (seqObj "list" (List.toArray []) 0)).get? s.heap.objs.size=some { cls:=.type "list_iterator",data:=.fields (List.toArray [.ref l,.int 0 0]) }:=h_ _ (z_ _ rfl);have gS:((s.heap.push { cls:=.type "list_iterator",data:=.fields (List.toArray [.ref l,.int 0 0]) }).push (seqObj "list" (List.toArray []) 0)).get? (s.heap.push { cls:=.type "list_iterator",data:=.fields (List.toArray [.ref l,.int 0 0]) }).objs.size=some (seqObj "list" (List.toArray []) 0):=z_ _ rfl;have I0:Inv X pins σ H { s with heap:=(s.heap.push { cls:=.type "list_iterator",data:=.fields (List.toArray [.ref l,.int 0 0]) }).push (seqObj "list" (List.toArray []) 0) }:=I.kept (t':=s.toks) k1
 generalize (s.heap.push { cls:=.type "list_iterator",data:=.fields (List.toArray [.ref l,.int 0 0]) }).push (seqObj "list" (List.toArray []) 0)=h1 at *;generalize (s.heap.push { cls:=.type "list_iterator",data:=.fields (List.toArray [.ref l,.int 0 0]) }).objs.size=S at *;generalize s.heap.objs.size=It at *;let#[b0,ad,p1,_]:=I0.list hl;let#[u1,hu1,a7]:=ad.get Y;erw[Nu PySem.F.entry_max_loop ?_];rw[Mj PySem.F.plain_max_loop _];show wpAny _ A.in1 (seqItems? (.ref S) >>= _) _ _ _;erw[c_ (Mi gS rfl ?_)];show wpAny _ A.in1 (tryCatch (pyNext (.ref It)) _ >>= _) _ _ _;erw[c_ (Ot (wpAny_pyNext_list_item (i:=0) #[_,gI,1,1] p1.isList (x:=u1) (by simpa using hu1) λh' ax sb=>?_))]
 have I1:Inv X pins σ H { s with heap:=h' }:=I0.turned (t':=s.toks) (λb o hb e=>(sb.2 b hb).trans e) Z.1 Z.2.1 Z.2.2.2.1 Z.2.2.2.2.1 Z.2.2.2.2.2
 have a9:h'.get? S=some (seqObj "list" (List.toArray []) 0):=(sb.2 S U).trans gS;let#[oI,a',ac,a6]:=id ax;have I2:Inv X ((It,oI)::(S,seqObj "list" (List.toArray []) 0)::pins) σ H { s with heap:=h' }:=(I1.pin1 fS a9 (λv z=>by cases z)).pin1 (Z.cons U) a' (λv z=>by rw[a6] at z;cases z)
 show wpAny _ A.in1 (tryCatch (holding [u1] (call (.ref q) [u1])) _ >>= _) _ _ _;erw[c_ (Ot (Ll (LF (KF _ x0 (E_ Y) u1 H _ a7 I2 (Fu.refl H)) (λv s2 he=>?_) λ_ _ hF=>hF.elim)))]
 let#[z,H2,J,rz,au,kz]:=he;have pI:=J.pin (It,oI) (KC _ (.head _));have pS:=J.pin (S,seqObj "list" (List.toArray []) 0) (KC _ (.tail _ (.head _)));have J:=J.unpin.unpin;show wpAny _ A.in1 (updateSeq S (λ_=>(List.toArray [u1,v])) >>= _) _ _ _
 erw[c_ ?_];erw[wpAny_updateSeq pS.1 rfl ?_];rw[O];erw[i_ #[NG PySem.F.plain_max_loop _,?_]];rwa[wU hc hh hu hl KF U (λx u H' s' e1 e2 e3 e4=>hQ x u H' s' e1 e2 e3 e4) _ 0 H2 _ x0 z u1 v _ rfl hne (J.turnedN (t':=s2.toks) (fp:=[S]) (λb o hb e=>(LP _ _ (λz=>hb (by rw[z];rwa[mem_singleton_self _]))).trans e) λb hb=>by rw[GF.mp hb];rwa[fS.at pS.2.1]) au (Z.at pI.2.1) (fS.at pS.2.1) #[oI,(LP _ _ U).trans pI.1,ac,a6] (OS pS.1 λ_=>(List.toArray [u1,v])) Y a7 kz rz]
end
def AH(qual:Str)(params:Arguments)(body:Expr)(scope:Scope)(f c':Addr)(pm ctv:Value):HO:=tz f (kla_obj "<lambda>" qual params body scope [] pm c' ctv)
def tLam(P0:Addr)(lpos:Pos)(qual:Str)(params:Arguments)(body:Expr)(scope:Scope):TE:=λ_ H Q=>Gg H P0 lpos qual/\
 ∀(c' f:Addr) (pm ctv:Value) (H':Hp),Gg H' P0 lpos qual->H f=none->H' c'=some (eI c' qual)->H' f=some (AH qual params body scope f c' pm ctv)->(∀c o,H c=some o->c≠P0->H' c=some o)->Q (.ref f) H'
section
variable {p kp:Pos}
theorem C3(hcode:X.env.code=.ref c0)(hC:CodeHd X.base c0 P0)(hB:BmB X.mg X.base)(hdef:defaultsOf params X.env=([],[]):=by rfl)(hcl:closureFor scope X.env=pure []:=by rfl):
  PE X (.Lambda params body scope lpos) (tLam P0 lpos (X.env.qual++"<lambda>") params body scope):=by
 intro pins s σ H Q I h;let#[hT,q]:=h;rwa[xR I hcode hC hB hdef hcl hT λc' f pm O H' s' I' U _ nf Y Z k=>#[22,.ref f,H',I',1,q c' f pm O H' U nf Y Z k]]
theorem BC{pins0:List (Addr×Obj)}{k:Nat}{key:V->List Int×Int}(S:Fv N [x] scope)(hr:FD (k+1) X.A.in1)(hbind:∀(u:Value),bindArgs (kla_fn "<lambda>" qual params body scope [] pm (.ref c') ctv) #[[u],[]]=pure [(x,u)])(hbody:∀(A:Around) (outer:List Env) (s:Shared) (H:Hp),FD k (A.deeper (envOfC qual scope s.heap.objs.size f (.ref c')))->PE (cD CX0 X.prog X.w X.K X.mg X.base N qual scope f (.ref c') A outer s H E0) body tb)(hc:H0 c'=some (eI c' qual))(hf:H0 f=some (AH qual params body scope f c' pm ctv))(hk:∀y∈xs,∀H1,Fu H0 H1->tb (cK N [y]) H1 λz H2=>Fu H1 H2/\KeyT X.K H2 z (key y)):DC X σ X.A.in1 (.ref f) H0 xs key:=by
 intro pins y hy u H1 s1 ry I sm;have ho:s1.heap.get? f=some (kla_obj "<lambda>" qual params body scope [] pm c' ctv):=(show FC X.prog X.w H1 s1.heap f (AH qual params body scope f c' pm ctv) from I.hok f _ (sm _ _ hf)).1
 have U:s1.heap.CodeRec (.ref c') qual:=(show FC X.prog X.w H1 s1.heap c' (eI c' qual) from I.hok c' _ (sm _ _ hc)).1
 erw[wpAny_call (codeAny_mono (AT (us:=[u]) (vs:=[y]) (E:=E0) (Q:=λz H2=>Fu H1 H2/\KeyT X.K H2 z (key y)) ho U S hr I.env0.in1 (.of_eq (hbind u)) (.cons ry .nil) rfl λY=>#[tb,hbody _ _ _ _ Y,hk y hy H1 sm]) λr s' O=>?_)]
 cases r with
 |error e=>rwa[O]
 |ok fl=>
  cases fl with
  |ret v=>
   let#[y2,H2,I2,Z,q1,q2]:=I.after O;rwa[23,y2,H2,I2,Z,q1,q2]
  |next=>rwa[False.elim O]
  |brk=>rwa[False.elim O]
  |cont=>rwa[False.elim O]
theorem Gg.same(sm:Fu H H')(h:Gg H P0 lpos qual):Gg H' P0 lpos qual:=by
 let#[ps,h1,h2,h3]:=h;erw[ps,sm _ _ h1,h2,?_]
 rcases h3 with z|⟨O,z1,z2⟩
 ·rwa[.inl z]
 ·rwa[.inr #[O,z1,sm _ _ z2]]
def FE(P0:Addr)(H H':Hp):Prop:=∀c o,H c=some o->c≠P0->H' c=some o
theorem wE{ps:Array Value}(hP:H P0=some (.tbl ps))(k:FE P0 H H')(h:SqL K H l xs):SqL K H' l xs:=by
 rcases h with(h|⟨o,h⟩)|h
 ·rwa[.inl (.inl (k _ _ h (aw h hP #[3])))]
 ·rwa[.inl (.inr #[o,k _ _ h (aw h hP #[3])])]
 ·rwa[.inr h]
def EB(K:Frag)(P0:Addr)(lpos:Pos)(qual:Str)(N:List Str)(tb te:TE):TE:=λσ H Q=>te σ H λv H1=>∃(l:Addr) (xs:List V) (key:V->List Int×Int),v=.ref l/\SqL K H1 l xs/\0<xs.length/\Gg H1 P0 lpos qual/\
 (∀H2,FE P0 H1 H2->∀y∈xs,tb (cK N [y]) H2 λz H3=>Fu H2 H3/\KeyT K H3 z (key y))/\∀y H',xs[argBest (btK xs key) (xs.length-1)]? = some y->Gg H' P0 lpos qual->FE P0 H1 H'->Q y H'
theorem Ap(T:Blt X.mg){k:Nat}(he:PE X e te)(hcode:X.env.code=.ref c0)(hC:CodeHd X.base c0 P0)(hB:BmB X.mg X.base)(S:Fv N [x] scope)(hr:FD (k+8) X.A)(hcalm:X.calm=true)(hbody:∀(f U:Addr) (A:Around) (outer:List Env) (s:Shared) (H:Hp),FD k (A.deeper (envOfC (X.env.qual++"<lambda>") scope s.heap.objs.size f (.ref U)))->PE (cD CX0 X.prog X.w X.K X.mg X.base N (X.env.qual++"<lambda>") scope f (.ref U) A outer s H E0) body tb)(hbind:∀(U:Addr) (pm O u:Value),bindArgs (kla_fn "<lambda>" (X.env.qual++"<lambda>") params body scope [] pm (.ref U) O) #[[u],[]]=pure [(x,u)]:=by intros;rfl)(hdef:defaultsOf params X.env=([],[]):=by rfl)(hcl:closureFor scope X.env=pure []:=by rfl)(hg:Gl X "max":=by rfl)(hs:starEach [e] X.env=[(false,eval e X.env)]:=by rfl):
  PE X (.Call (.Name "max" p) [e] [#[some "key",.Lambda params body scope lpos,kp]] pos) (EB X.K P0 lpos (X.env.qual++"<lambda>") N tb te):=by
 intro pins s σ H Q I h;erw[LV (dM I hg T.max i8 ?_)];erw[callWith_kw ?_ (by rw[hs];rfl) (by rw[hs];rfl)]
 erw[thn ((aa he ag hs) pos pins s σ H (λvs H1=>match vs with|[v]=>∃(l:Addr) (xs:List V) (key:V->List Int×Int),v=.ref l/\SqL X.K H1 l xs/\0<xs.length/\Gg H1 P0 lpos (X.env.qual++"<lambda>")/\
   (∀H2,FE P0 H1 H2->∀y∈xs,tb (cK N [y]) H2 λz Z=>Fu H2 Z/\KeyT X.K Z z (key y))/\∀y H',xs[argBest (btK xs key) (xs.length-1)]? = some y->Gg H' P0 lpos (X.env.qual++"<lambda>")->FE P0 H1 H'->Q y H'|_=>False) I h) λus s1 ⟨vs,H1,I1,r1,q1⟩=>?_]
 match vs,r1,q1 with
 |[v],r1,q1=>
  let#[u,1,ru]:=r1.one;let#[l,xs,key,1,hl,ad,hT,hk,q]:=q1;cases ru;let#[ps,hP,_]:=id hT;erw[thn ((jW (C3 hcode hC hB hdef hcl) sw) pos pins s1 σ H1 (λzs H2=>∃(U f:Addr) (pm O:Value),zs=[V.ref f]/\Gg H2 P0 lpos (X.env.qual++"<lambda>")/\H2 U=some (eI U (X.env.qual++"<lambda>"))/\H2 f=some (AH (X.env.qual++"<lambda>") params body scope f U pm O)/\FE P0 H1 H2) I1 #[hT,λU f pm O H' a6 _ a8 a' kk=>#[44,U,f,pm,O,1,a6,a8,a',kk]]) λws s2 ⟨zs,H2,I2,r2,U,f,pm,O,e1,a7,a9,ac,Y⟩=>?_]
  subst e1;let#[w1,1,au]:=r2.one;cases au;have hu:X.A.in1.units+80<cLine:=by have:=hr.un;show X.A.units+1+80<cLine;lia
  erw[wF hcalm (I2.ok.hd hcalm) hu I2 (wE hP Y hl) ad (BC (pins0:=pins) S ((hr.in1 (k:=k+7)).mono ()) (hbind U pm O) (hbody f U) a9 ac λy hy Z s3=>hk Z (λc o e n=>s3 _ _ (Y c o e n)) y hy) λy u H' s' e1 e2 e3 e4=>#[22,y,H',e3,e2,q y H' e1 (a7.same e4) λc o e n=>e4 _ _ (Y c o e n)]]
end
section
variable {base:Heap}
theorem Fun.okXC{fd:FuncData}{k:Nat}(F:Fun K x qual st f fd)(hc:∀oc od O osl,K.lookup f=some #[oc,od,.func O,osl]->O.code=.ref c0)(S:Fv N ps (am st))(len:∀vs H Q E,sp vs H Q E->vs.length=ps.length)(hbody:∀(A:Around) (outer:List Env) (s:Shared) (H:Hp) (vs:List V) (Q:VK) (E:XK),FD k (A.deeper (envOfC qual (am st) s.heap.objs.size f (.ref c0)))->sp vs H Q E->
   ∃t,PSs (cD (CXE P w) P w K mg base N qual (am st) f (.ref c0) A outer s H E) (aW st) t/\t { nx:=λ_ H'=>Q .non H',rt:=Q } (cK N vs) H):`aC (CXE P w) (k+1) f fd ps sp:=by
 let#[oc,od,kV,doc,pm,an,cdv,ct,osl,1,lk,U]:=F.ex;obtain rfl:cdv=.ref c0:=hc _ _ _ _ lk;rwa[uQ lk U S len λA outer s H vs Q E Z Y=>hbody A outer s H vs Q E Z Y]
theorem A1{y:Str}(ht:tabIn K y=some (c0,P0))(hn:nsIn K mainGlobals y=some (some (.ref f))):∀oc od O osl,K.lookup f=some #[oc,od,.func O,osl]->O.code=.ref c0:=by
 intro oc od O osl lk;unfold tabIn at ht;rw[hn] at ht;simp only[lk] at ht
 split at ht
 ·rename_i c hc;rw[hc]
  split at ht
  ·split at ht
   ·injection ht with ht
    injection ht with h1 h2
    rw[h1]
   ·cases ht
  ·cases ht
 ·cases ht
end
theorem qB:∀ns ms:List Int,m8 ns ms=HT.lexLt ms ns
 |[],[]=>rfl
 |[],_::_=>rfl
 |_::_,[]=>rfl
 |x::xs,y::ys=>by
  have U:=qB xs ys;unfold m8 Ev at *;rw[HT.lexLt_cons]
  by_cases h:x=y
  ·have O:(x==y)=true:=by simpa using h
   rw[List.zipWith_cons_cons,O,u_ h.symm,<- U];show pC (List.zipWith (λa b=>(a==b,gtI a b)) xs ys) (decide ((x::xs).length>(y::ys).length))=pC (List.zipWith (λa b=>(a==b,gtI a b)) xs ys) (decide (xs.length>ys.length))
   rw[show decide ((x::xs).length>(y::ys).length)=decide (xs.length>ys.length) by simp]
  ·have O:(x==y)=false:=by simpa using h
   rw[List.zipWith_cons_cons,O,t_ λz=>h z.symm]
   rfl
theorem yy(k j:List Int×Int):tgt k j=if k.1=j.1 then decide (j.2<k.2) else HT.lexLt j.1 k.1:=by
 unfold tgt gtI;rw[qB]
theorem jZ(k:List Int×Int):tgt k k=false:=by rw[yy,u_ rfl,Gx (Int.lt_irrefl _)]
theorem mQ{a b c:List Int×Int}(h1:tgt a b=true)(h2:tgt b c=true):tgt a c=true:=by
 rw[yy] at *
 by_cases O:a.1=b.1
 ·rw[u_ O] at h1
  by_cases e2:b.1=c.1
  ·rw[u_ e2] at h2;rw[u_ (O.trans e2)];have:=A_ h1;have:=A_ h2;rwa[p_ ()]
  ·rw[t_ e2] at h2;rw[t_ (by rw[O];rwa[e2]),O]
   rwa[h2]
 ·rw[t_ O] at h1
  by_cases e2:b.1=c.1
  ·rw[u_ e2] at h2;rw[t_ (by rw[<- e2];rwa[O]),<- e2]
   rwa[h1]
  ·rw[t_ e2] at h2;have t:=gA h2 h1;rw[t_ (λz=>by rw[z,ft] at t;cases t)]
   rwa[t]
theorem jE(key:Nat->List Int×Int):∀n j,j<=n->tgt (key j) (key (argBest (λi j=>tgt (key i) (key j)) n))=false
 |0,j,h=>by
  obtain rfl:j=0:=()
  rwa[jZ _]
 |n+1,j,h=>by
  have U:=jE key n;have e:argBest (λi j=>tgt (key i) (key j)) (n+1)=if tgt (key (n+1)) (key (argBest (λi j=>tgt (key i) (key j)) n))=true then n+1 else argBest (λi j=>tgt (key i) (key j)) n:=rfl
  rw[e];generalize argBest (λi j=>tgt (key i) (key j)) n=b at *
  by_cases z:tgt (key (n+1)) (key b)=true
  ·rw[u_ z]
   by_cases O:j=n+1
   ·rw[O];rwa[jZ _]
   ·cases q:tgt (key j) (key (n+1)) with
    |false=>rfl
    |true=>
     have:=mQ q z;rw[U j ()] at this
     cases this
  ·rw[t_ z]
   by_cases O:j=n+1
   ·rw[O];simpa using z
   ·rwa[U j ()]
def rGtK(K:Frag):R2:=λx y H Q=>∃k j,KeyT K H x k/\KeyT K H y j/\Q (.bl (tgt k j)) H
theorem kgtK(hK:X.K=K)(hr:FD n X.A):OpR X (compareOp .Gt) (rGtK K):=by
 subst hK;intro pins s σ H x y v u Q I Y Z h;let#[k,j,hk,O,q]:=h;have U:X.A.units+80<cLine:=by have:=hr.un;lia
 rwa[uL I U hk O Y Z X.prog X.w _ _ #[22,.bl (tgt k j),H,I,1,q]]
def toI:V->Int
 |.int i=>i
 |_=>0
def jk(H:Hp)(v:V):List Int×Int:=
 match v with
 |.ref t=>match H t with
  |some (.tup [.int i,.ref k,_])=>match H k with
   |some (.tup zs)=>(zs.map toI,-i)
   |_=>([],0)
  |_=>([],0)
 |_=>([],0)
theorem qN:∀ns:List Int,(ns.map V.int).map toI=ns
 |[]=>rfl
 |n::ns=>by rw[K1,K1,qN ns];rfl
theorem AI{t k:Addr}{i:Int}{u:V}(h1:H t=some (.tup [.int i,.ref k,u]))(h2:H k=some (.tup (ns.map V.int))):jk H (.ref t)=(ns,-i):=by
 unfold jk;simp only[h1,h2,qN]
theorem FE.tup{ps:Array Value}(hP:H P0=some (.tbl ps))(k:FE P0 H H'){t:Addr}(e:H t=some (.tup xs)):H' t=some (.tup xs):=k _ _ e (aw e hP #[3])
theorem FE.lst{ps:Array Value}(hP:H P0=some (.tbl ps))(k:FE P0 H H'){t:Addr}(e:H t=some (.lst xs)):H' t=some (.lst xs):=k _ _ e (aw e hP #[3])
theorem FE.trans{H1 H2:Hp}(a:FE P0 H H1)(b:FE P0 H1 H2):FE P0 H H2:=λc o e n=>b c o (a c o e n) n
theorem FE.of(s:Fu H H'):FE P0 H H':=λc o e _=>s c o e
open PySem.Builtin PySem.Builtin.Str
theorem o8:typeLookup (.type "list") "keys" = pure none:=by rw[typeLookup_type,NY];kernel_rfl
theorem vR{a:Addr}{o:Obj}{xs:Array Value}{k:Nat}{Q:Option Value->Shared->Prop}(hx:s.heap.get? a=some o)(hc:o.cls=.type "list")(hdat:o.data=.seq xs k)(hd:o.dict=none)(hA:A.handled=none)(h:∀h' tk,(∀b ob,s.heap.get? b=some ob->h'.get? b=some ob)->Q none { s with heap:=h',toks:=tk }):
  wpAny (model prog w) A (getAttr? (.ref a) "keys") Q E s:=by
 let#[c,a6,Z,sl]:=o;simp only at hc hdat hd;subst hc hdat hd;let#[hp,g,d,tk,os]:=s;have Y:∀O,(#[hp,g,d,O,os]:Shared).TypeIs (.ref a) "list":=λ_=>#[_,hx,1]
 have f1:=sub_AttributeError;have f3:=F.slot_list_getattribute.lookup;have f4:=F.slot_list_getattribute.bind (.ref a);have f5:=am_list_getattr_none;unfold getAttr? getAttrBy? getAttrBy
 repeat (any_goals (first|assumption|rwa[Y _]|((with_reducible show wpAny _ _ (call (Value.builtin "list.__getattribute__") _ _) _ _ _);erw[call_meets F.slot_list_getattribute (Y _) am_entry_list_getattribute (F.args_list_getattribute_2 _ _) (meets_getattribute_miss_list a xs k sl "keys" _ o8 (by decide +kernel) (by size_fits)) #[hx,hA,λh' O e U=>?_]])|wp_step))
 let#[t',u',he]:=U.there;have a7:Shared.TypeIs #[h',g,d,O,os] (.ref e) "AttributeError":=#[_,he,1];show wpAny _ _ (getattributeRaised _ _ _ _ _ _ _) _ _ _;unfold getattributeRaised
 repeat (any_goals (first|assumption|wp_step))
 rwa[h _ _ U.keeps]
theorem fV:entryFor table "dict.update.loop"=some Builtin.«dict.update.loop»:=entryFor_of_tree (by kernel_rfl)
theorem cv:plainId "dict.update.loop"=true:=by decide +kernel
section
variable {K:Type}[DecidableEq K]{knd:KeyKind prog w K}{R:Result->Shared->Prop}
def eR(m:List (K×Value))(ks:List (K×Value)):List (K×Value):=ks.foldl (λm p=>stored m p.1 p.2) m
def BQ(knd:KeyKind prog w K)(h:Heap)(d it:Addr)(items:Array Value)(ks:List (K×Value)):Prop:=ks.length=items.size/\∀(i:Nat) (v:Value) (k:K) (r:Value),items[i]? = some v->ks[i]? = some (k,r)->∃a key,v=.ref a/\h.IsTuple a (List.toArray [key,r])/\knd.is k key=true/\a≠d/\a≠it
theorem zw(hA:A.handled=none)(hdi:d≠it)(hld:l≠d)(hli:l≠it){ks:List (K×Value)}(hz:ks.length<=sizeLine):
  ∀(n i:Nat) (s:Shared) (tk:Tok),items.size-i=n->i<=items.size->s.heap.IsListIter it l i->s.heap.IsList l items->BQ knd s.heap d it items ks->s.heap.DictOf knd d (eR [] (ks.take i))->(eR [] (ks.take i)).length<=i->
   (∀h' t',(∀b o,b≠d->b≠it->s.heap.get? b=some o->h'.get? b=some o)->h'.DictOf knd d (eR [] ks)->R (.ok (.ret .none)) { s with heap:=h',toks:=t' })->
   codeAny (model prog w) A (.builtin "dict.update.loop" #[[.ref d,.ref it,.int i tk,.none],[]]) R s:=by
 intro n
 induction n with
 |zero=>
  intro i s tk hn hi a7 hl hp hD b0 hR;erw[Nu fV ?_];rw[Mj cv _];show wpAny _ A.in1 (pyNext (.ref it) >>= _) _ _ s;erw[c_ (wpAny_pyNext_list_end (by simpa using hA) a7 hl (by rw[NB];lia) λh' eb=>?_)]
  show wpAny _ A.in1 (Builtin.Dict.addKeywords d [] >>= _) _ _ _;erw[c_ (i_ ?_)];rw[Ob (by have:=hp.1;lia)] at hD
  let#[o,es,ep,O,rest]:=hD;rwa[i_ (hR h' s.toks (λb ob hb Y e=>eb b ob Y e) #[31,o,es,ep,eb d o hdi O,rest])]
 |succ n ih=>
  intro i s tk hn hi a7 hl hp hD b0 hR;erw[Nu fV ?_];rw[Mj cv _];show wpAny _ A.in1 (pyNext (.ref it) >>= _) _ _ s;have a8:i<items.size:=()
  erw[c_ (wpAny_pyNext_list_item a7 hl (x:=items[i]) (KP a8) λh' a9 hs=>?_)]
  obtain⟨k,r,ek⟩:∃k r,ks[i]? = some (k,r):=#[20,_,_,e_ (by have:=hp.1;lia)]
  let#[a,key,ev,ht,hk,a6,U]:=hp.2 i _ k r (KP a8) ek;rw[ev];let#[o,O,hc,nn,hd]:=ht;have a':h'.get? a=some o:=(hs.2 a U).trans O;have ac:h'.DictOf knd d (eR [] (ks.take i)):=by
   let#[o,es,ep,O,rest]:=hD;rwa[31,o,es,ep,(hs.2 d hdi).trans O,rest]
  have ax:h'.IsList l items:=by
   let#[o,O,rest]:=hl;rwa[o,(hs.2 l hli).trans O,rest]
  show wpAny _ A.in1 (holding [.ref a] _ >>= _) _ _ _;erw[c_ (Ll ?_)];erw[c_ (Ot ?_)];unfold Builtin.Dict.pairItems;erw[c_ (wpAny_typeOf (T := "tuple") #[o,a',hc] ?_)];rw[u_ #[]]
  erw[c_ (Mi a' hd ?_)];erw[i_ ?_];show wpAny _ _ (holding [key,r] (dictSet d key r)) _ _ _;erw[Ll (wpAny_dictSet_pairs (hsz:=by have:=hp.1;lia) hk ac λh2 ad Z=>?_)]
  have e1:eR [] (ks.take (i+1))=stored (eR [] (ks.take i)) k r:=by
   unfold eR;rw[Kw,ek,foldl_append]
   rfl
  erw[i_ #[NG cv _,ih (i+1) _ _ () a8 ?_ ?_ #[hp.1,λj v k r hv hk=>?_] ?_ ?_ λh3 t3 k3 au=>?_]]
  ·let#[o,O,rest]:=a9;rwa[o,(Z.2 it hdi.symm).trans O,rest]
  ·let#[o,O,rest]:=ax;rwa[o,(Z.2 l hld).trans O,rest]
  ·let#[a,key,ev,#[o,O,rest],hk,a6,U]:=hp.2 j v k r hv hk;rwa[24,a,key,ev,#[o,(Z.2 a a6).trans ((hs.2 a U).trans O),rest],hk,a6,U]
  ·rw[e1];rwa[ad]
  ·rw[e1];have:=stored_length_le (eR [] (ks.take i)) k r;lia
  ·rwa[hR h3 t3 (λb ob hb Y e=>k3 b ob hb Y ((Z.2 b hb).trans ((hs.2 b Y).trans e))) au]
theorem jP{ks:List (K×Value)}{xs:Array Value}{nl:Nat}{sl:Array (Option Value)}(hA:A.handled=none)(hl:s.heap.get? l=some { cls:=.type "list",dict:=none,data:=.seq xs nl,slots:=sl })(hp:ks.length=xs.size/\∀(i:Nat) (v:Value) (k:K) (r:Value),xs[i]? = some v->ks[i]? = some (k,r)->∃a key,v=.ref a/\s.heap.IsTuple a (List.toArray [key,r])/\knd.is k key=true)(hz:ks.length<=sizeLine)(h:∀h' t',h'.DictOf knd s.heap.objs.size (eR [] ks)->(∀b o,s.heap.get? b=some o->h'.get? b=some o)->Q (.ref s.heap.objs.size) { s with heap:=h',toks:=t' }):
  wpAny (model prog w) A (call (.type "dict") [.ref l]) Q E s:=by
 erw[callType_codes (Q₁:=λobj s₁=>obj=.ref s.heap.objs.size/\s₁={ s with heap:=s.heap.push { cls:=.type "dict",data:=.dict (List.toArray []) } }) F.kt_called_dict (F.kt_typeCall_dict_1 _) F.entry_dict_init (kt_code_dict_new _ #[1,1]) ?_]
 rintro obj s₁ ⟨rfl,rfl⟩;have U:(s.heap.push { cls:=.type "dict",data:=.dict (List.toArray []) }).DictOf knd s.heap.objs.size []:=Heap.DictOf.new s.heap;have Y:(s.heap.push { cls:=.type "dict",data:=.dict (List.toArray []) }).get? l=some { cls:=.type "list",dict:=none,data:=.seq xs nl,slots:=sl }:=h_ _ hl;erw[U.typeIs,F.args_dict_init_2 _ _,?_];unfold Builtin.«dict.__init__»;erw[c_ ?_];unfold Builtin.Dict.selfAndRest;erw[c_ (wpAny_notOrdered_dict U.typeIs ?_)];show wpAny _ _ (pure (s.heap.objs.size,[Value.ref l])) _ _ _;erw[i_ ?_];show wpAny _ _ (Builtin.Dict.updateFrom "dict.__init__" s.heap.objs.size (.ref l) [] .none) _ _ _;unfold Builtin.Dict.updateFrom;erw[c_ (wpAny_typeOf (T := "list") #[_,Y,1] ?_)];rw[u_ #[]]
 erw[c_ (vR Y rfl rfl rfl (by simpa using hA) λh1 t1 k1=>?_)]
 rw[u_ (show(none:Option Value).isNone=true from rfl)]
 have kp:∀b o,s.heap.get? b=some o->h1.get? b=some o:=λb o e=>k1 b o (h_ _ e)
 have a7:h1.get? s.heap.objs.size=some { cls:=.type "dict",data:=.dict (List.toArray []) }:=k1 _ _ (z_ _ rfl);have d1:s.heap.objs.size<h1.objs.size:=GP a7;have l1:=GP hl;have O:h1.IsList l xs:=#[_,k1 _ _ Y,1,nl,1];erw[c_ (PF ?_)];erw[c_ (MW O ?_)];erw[i_ #[NG cv _,zw (knd:=knd) (d:=s.heap.objs.size) (it:=h1.objs.size) (l:=l) (items:=xs) (ks:=ks) (by simpa using hA) (GA d1) (GA l1) (GA (NA l1 d1)) hz _ 0 _ _ rfl (Gw _) #[_,z_ _ rfl,1,1] (O.push _) #[hp.1,λj v k r hv hk=>?_] ?_ (Gw _) λh3 t3 k3 a6=>#[1,?_]]]
 ·let#[a,key,ev,#[o,Z,rest],a8]:=hp.2 j v k r hv hk;have a1:=GP Z;rwa[24,a,key,ev,#[o,h_ _ (kp _ _ Z),rest],a8,GA a1,GA (NA a1 d1)]
 ·let#[o,es,ep,Z,rest]:=U;rwa[31,o,es,ep,h_ _ (k1 _ _ Z),rest]
 ·erw[h h3 t3 a6 λb o e=>?_]
  have b1:=GP e;rwa[k3 b o (GA b1) (GA (NA b1 d1)) (h_ _ (kp _ _ e))]
end
def io(m kvs:List (Key×V)):List (Key×V):=kvs.foldl (λm p=>cH m p.1 p.2) m
theorem vB{kvs:List (Key×V)}{ks:List (Key×Value)}(r:KV kvs ks):∀{m:List (Key×V)} {n:List (Key×Value)},KV m n->KV (io m kvs) (eR n ks):=by
 induction r with
 |nil=>intro m n h;rwa[h]
 |@cons p q ps qs hq t ih=>
  intro m n h;let#[k,v]:=p;let#[O,Y]:=q;let#[e,U]:=hq;have e:k=O:=e;subst e;rwa[ih (h.put k U)]
theorem ni:∀(kvs m:List (Key×V)),(io m kvs).length<=m.length+kvs.length
 |[],m=>ge _
 |p::r,m=>by
  have h1:=ni r (cH m p.1 p.2);have h2:=eG m p.1 p.2;show(io (cH m p.1 p.2) r).length<=m.length+(r.length+1);lia
def yS:List V->Hp->VK->Prop:=λxs H Q=>∃(l:Addr) (as:List Addr) (kvs:List (Key×V)),xs=[.ref l]/\H l=some (.lst (as.map V.ref))/\Paired (λ(a:Addr) (p:Key×V)=>H a=some (.tup [kV p.1,p.2])) as kvs/\∀d,H d=none->Q (.ref d) (upd H d (.dK (io [] kvs)))
theorem nS:∀{as:List Addr} {its:List Value},Fw (as.map V.ref) its->its=as.map Value.ref
 |[],_,h=>by cases h;rfl
 |a::as,_,h=>by
  cases h with
  |cons h1 h2=>
   cases h1;rw[nS h2]
   rfl
theorem lC{R:α->β->Prop}:∀{xs:List α} {ys:List β},Paired R xs ys->∀{i:Nat} {x:α} {y:β},xs[i]? = some x->ys[i]? = some y->R x y
 |_,_,.cons h _,0,_,_,e1,e2=>by
  cases e1;cases e2;rwa[h]
 |_,_,.cons _ t,i+1,_,_,e1,e2=>lC t (i:=i) e1 e2
theorem sN(hc:X.calm=true):cq X (.type "dict") yS:=by
 intro pins s σ H xs us Q I r h;let#[l,as,kvs,1,Z,pa,q]:=h;let#[u,1,rx]:=cJ r;cases rx;let#[z,its,n,Y,O,e]:=I.lstM Z;have mk:∃ks:List (Key×Value),KV kvs ks/\Paired (λ(a:Addr) (p:Key×Value)=>∃key,s.heap.IsTuple a (List.toArray [key,p.2])/\(aH X.prog X.w).is p.1 key=true) as ks:=by
  clear Z Y O e z q
  induction pa with
  |nil=>rwa[[],.nil,.nil]
  |@cons a p as kvs h1 h2 ih=>
   let#[ks,i1,i2]:=ih;let#[its,Y,ht,_]:=I.tuple (SqT.of h1);cases Y with
   |cons r1 r2=>
    cases r2 with
    |cons r2 r3=>
     cases r3;rwa[(p.1,_)::ks,.cons #[1,r2] i1,.cons #[_,ht,kU r1] i2]
 let#[ks,k1,k2]:=mk;have ei:=nS Y;subst ei;have lk:kvs.length=ks.length:=k1.length;have la:as.length=ks.length:=Paired.length k2;rw[k_] at z;erw[jP (knd:=aH X.prog X.w) (ks:=ks) (I.ok.hd hc) e #[by simp[la],λi v k r U hk=>?_] () λh' t' hD kp=>?_]
 ·rw[List.getElem?_toArray,Ga] at U;cases ea:as[i]? with
  |none=>rw[ea] at U;cases U
  |some a=>
   rw[ea] at U;cases U;let#[key,h1,h2]:=lC k2 ea hk;rwa[22,a,key,1,h1,h2]
 ·have hb:=I.big;erw[22,.ref s.heap.objs.size,_,I.laid (t':=t') (λb u e=>kp b u e) (ge _) (oj (by have:=ni kvs [];have:([]:List (Key×V)).length=0:=rfl;lia) (Mw.mpr (Ne.symm (GA hb))) (vB k1 .nil) hD),1,q _ (I.hok.fresh (ge _))]
theorem BL{k:Key}(h:(aH P w).is k u=true):Fy (kV k) u:=by
 rw[rG] at h
 rcases aU h with⟨i,t,rfl,rfl⟩|⟨x,t,rfl,rfl⟩
 ·rwa[0]
 ·rwa[0]
theorem AN{kvs:List (Key×V)}{es:List DictEntry}(r:KV kvs vs)(p:Pairs (aH P w) es vs):
  Fw (kvs.map λq=>kV q.1) (es.map (·.key))/\Fw (kvs.map (·.2)) (es.map (·.val)):=by
 induction r generalizing es with
 |nil=>cases p;rwa[.nil,.nil]
 |@cons a b as bs h t ih=>
  cases p with
  |cons h1 h2 h3=>
   let#[i1,i2]:=ih h3;erw[.cons ?_ i1,.cons ?_ i2]
   ·show Fy (kV a.1) _;rw[h.1];rwa[BL h1]
   ·show Fy a.2 (DictEntry.val _);rw[h2];rwa[h.2]
def tFrz(te:TE):TE:=λσ H Q=>te σ H λx H1=>∃d kvs,x=.ref d/\H1 d=some (.dK kvs)/\∀o,Q x (upd H1 d (.frz o (.dK kvs)))
theorem DU(h:PE X e te):PE X e (tFrz te):=by
 intro pins s σ H Q I hq;erw[thn (h pins s σ H _ I hq) λv s1 ⟨x,H1,U,r1,d,kvs,e,hd,q⟩=>?_]
 let#[hz,hm,vs,O,o,es,ep,h1,h2,h3,h4,Z,h6]:=id (show FC X.prog X.w H1 s1.heap d (.dK kvs) from U.hok d _ hd)
 have Y:Inv X pins σ (upd H1 d (.frz o (.dK kvs))) { s1 with heap:=s1.heap,toks:=s1.toks }:=U.write (x:=d) (e:=d) (by rw[hd];rwa[trivial]) (.inl rfl) (λ_ _ _ z=>z) #[_,h1] #[0375,h1,hz,hm,vs,O,o,es,ep,h1,h2,h3,h4,Z,h6]
 rwa[22,x,_,Y,r1,q o]
def um:V->List V->Hp->VK->Prop:=λx vs H Q=>∃d o kvs,x=.ref d/\vs=[]/\H d=some (.frz o (.dK kvs))/\∀v,H v=none->Q (.ref v) (upd H v (qc v d))
theorem wp:MtR X "dict.items" um:=by
 intro pins s σ H x xs v us Q I rx Z h;let#[d,U,kvs,1,1,hd,q]:=h;cases rx;cases Z;let#[_,hz,O,vs,Y,o,es,ep,h1,h2,h3,h4]:=id (show FC X.prog X.w H s.heap d (.frz U (.dK kvs)) from I.hok d _ hd)
 erw[vT O #[o,h1,h2,h3] ?_];have gV:(s.heap.push { cls:=.type "dict_items",data:=.fields (List.toArray [.ref d]) }).get? s.heap.objs.size=some { cls:=.type "dict_items",data:=.fields (List.toArray [.ref d]) }:=z_ _ rfl;erw[22,.ref s.heap.objs.size,_,I.laid (t':=s.toks) (λb o e=>h_ _ e) (ge _) ?_,1,q _ (I.hok.fresh (ge _))]
 rwa[#[_,gV,1,1],#[_,gV],λk1 k2 ⟨o,e,c⟩ k=>#[o,k o e,c]]
def uW(tl:TE):TI:=λσ H R=>tl σ H λx H1=>∃v d o kvs,x=.ref v/\H1 v=some (qc v d)/\H1 d=some (.frz o (.dK kvs))/\R (Iti d o (.dK kvs) (kvs.map λp=>(kV p.1,p.2))) H1
theorem vM{l:Expr}(hl:PE X l tl):PI X (.Tuple tes tk tp) l (uW tl):=by
 intro pins s σ H R I h;erw[thn (hl pins s σ H _ I h) λv s1 ⟨x,H1,U,r1,q1⟩=>?_]
 let#[Y,d,o,kvs,e,hv,hd,q]:=q1;subst e;cases r1;let#[h0,hz,hm,vs,Z,o',es,ep,h1,h2,h3,h4,h5,h6]:=id (show FC X.prog X.w H1 s1.heap d (.frz o (.dK kvs)) from U.hok d _ hd)
 have eo:o'=o:=by rw[h0] at h1;cases h1;rfl
 subst eo;let#[k2,k3]:=AN Z h5;have O:s1.heap.IsItemsView Y d:=(show FC X.prog X.w H1 s1.heap Y (qc Y d) from U.hok Y _ hv).1
 erw[wS O #[_,h1,h2,h3] ?_];erw[4015,s1.heap.objs.size,[s1.heap.objs.size],_,_,0,U.kept (t':=s1.toks) λb o e=>h_ _ e,rB (u:=.dK kvs) h2 h3 (kv:=kvs.map λp=>(kV p.1,p.2)) (by rw[MB];rwa[k2]) (by rw[MB];rwa[k3]),#[20,_,_,z_ _ rfl],λb hb=>?_,q]
 have e:b=s1.heap.objs.size:=by simpa using hb
 subst e;rwa[U.fpOk (ge _) (U.hok.fresh (ge _))]
def pZ(v d:Addr):HO:=.ext λh=>h.IsValuesView v d
def Itv(d:Addr)(o:Obj)(u:HO)(vs:List V):It:=#[λi H=>H d=some (.frz o u)/\i<vs.length,λi H x H'=>H'=H/\vs[i]? = some x,λi H=>H d=some (.frz o u)/\vs.length<=i]
theorem qX{o:Obj}{kvs:List (Key×V)}(rel:KV kvs vs)(h2:o.ExactDict)(h3:o.data=.dict es ep)(h4:KeysOf (aH P w) es)(h5:Pairs (aH P w) es.toList vs)(h6:(vs.map (·.1)).Nodup):
  kh P w K tg (Itv d o (.dK kvs) (kvs.map (·.2))) [it] it (λi h=>h.IsValIter it d i vs.length ep) where
 mem:=by simp
 obj:=λi h st b O=>by
  have e:b=it:=by simpa using O
  subst e;let#[o,e,c,d]:=st;rwa[o,e,λv z=>by rw[d] at z;cases z]
 keep:=λi h h' st k=>by
  let#[o,e,c,d]:=st;rwa[o,k it (by simp) o e,c,d]
 item:=by
  intro X hP hw hK hc i pins s σ H E I Z st hg;subst hP hw hK;let#[hD,hi]:=(show H d=some (.frz o (.dK kvs))/\i<(kvs.map (·.2)).length from hg)
  rw[k_] at hi;have ho:s.heap.get? d=some o:=(show FC X.prog X.w H s.heap d (.frz o (.dK kvs)) from I.hok d _ hD).1
  have hA:s.heap.DictAt (aH X.prog X.w) d vs ep:=#[25,o,es,ho,h2,h3,h4,h5,h6];obtain⟨⟨k,y⟩,U⟩:∃q,kvs[i]? = some q:=#[_,e_ hi]
  obtain⟨⟨k',u⟩,hu⟩:∃q,vs[i]? = some q:=#[_,e_ (by have:=rel.length;lia)]
  have ru:Fy y u:=(lC rel U hu).2;let#[f0,f1,f2,f3,f4,f5]:=Z it (by simp)
  erw[wpAny_pyNext_values_item st hA hu λh' Y sb=>?_]
  have I1:Inv X pins σ H { s with heap:=h' }:=I.turned (t':=s.toks) (λb o O e=>(sb.2 b O).trans e) f0 f1 f3 f4 f5
  let#[o',e,c,dd]:=id Y;rwa[u,1,qC (s:={ s with heap:=h' }) e c dd #[] #[24,y,H,I1,ru,#[1,by rw[Ga,U];rfl],Y,λb O=>(Z b O).1]]
 done:=by
  intro X hP hw hK hc i pins s σ H E I Z st hg;subst hP hw hK;let#[hD,hi]:=(show H d=some (.frz o (.dK kvs))/\(kvs.map (·.2)).length<=i from hg)
  rw[k_] at hi;have ho:s.heap.get? d=some o:=(show FC X.prog X.w H s.heap d (.frz o (.dK kvs)) from I.hok d _ hD).1
  have hA:s.heap.DictAt (aH X.prog X.w) d vs ep:=#[25,o,es,ho,h2,h3,h4,h5,h6];let#[f0,f1,f2,f3,f4,f5]:=Z it (by simp)
  rwa[wpAny_pyNext_values_end (I.ok.hd hc) st hA (LN (by have:=rel.length;lia)) λh' eb=>#[1,I.turned (t':=s.toks) (λb o O e=>eb b o O e) f0 f1 f3 f4 f5]]
 self:=λ_ _ _ _ _ st h=>wpAny_pyIter_valiter st h
theorem rQ(hd:(d==sysModules)=false)(hm:DRaw d es ep s.heap)(hQ:Q (.ref s.heap.objs.size) { s with heap:=s.heap.push { cls:=.type "dict_values",data:=.fields (List.toArray [.ref d]) } }):wpAny (model prog w) A (call (.builtin "dict.values") [.ref d]) Q E s:=by
 have O:=hm.typeIs;erw[Lh F.slot_dict_values O F.entry_dict_values ?_ (F.args_dict_values_1 _)];erw[c_ ?_];unfold Builtin.Dict.noArgs;erw[c_ (wpAny_notOrdered_dict O ?_)];show wpAny _ _ (pure d) _ _ s;erw[i_ ?_];show wpAny _ _ (Builtin.Dict.showsAll d >>= _) _ _ s;unfold Builtin.Dict.showsAll;rw[t_ (by rw[hd];rwa[GT])]
 erw[c_ (i_ ?_)];rwa[c_ (KS (i_ #[0,hQ]))]
def p6:V->List V->Hp->VK->Prop:=λx vs H Q=>∃d o kvs,x=.ref d/\vs=[]/\H d=some (.frz o (.dK kvs))/\∀v,H v=none->Q (.ref v) (upd H v (pZ v d))
theorem rJ:MtR X "dict.values" p6:=by
 intro pins s σ H x xs v us Q I rx Z h;let#[d,U,kvs,1,1,hd,q]:=h;cases rx;cases Z;let#[_,hz,O,vs,Y,o,es,ep,h1,h2,h3,h4]:=id (show FC X.prog X.w H s.heap d (.frz U (.dK kvs)) from I.hok d _ hd)
 erw[rQ O #[o,h1,h2,h3] ?_];have gV:(s.heap.push { cls:=.type "dict_values",data:=.fields (List.toArray [.ref d]) }).get? s.heap.objs.size=some { cls:=.type "dict_values",data:=.fields (List.toArray [.ref d]) }:=z_ _ rfl;erw[22,.ref s.heap.objs.size,_,I.laid (t':=s.toks) (λb o e=>h_ _ e) (ge _) ?_,1,q _ (I.hok.fresh (ge _))]
 rwa[#[_,gV,1,1],#[_,gV],λk1 k2 ⟨o,e,c⟩ k=>#[o,k o e,c]]
def pO(tl:TE):TI:=λσ H R=>tl σ H λx H1=>∃v d o kvs,x=.ref v/\H1 v=some (pZ v d)/\H1 d=some (.frz o (.dK kvs))/\R (Itv d o (.dK kvs) (kvs.map (·.2))) H1
theorem tP{l:Expr}(hl:PE X l tl):PI X tg l (pO tl):=by
 intro pins s σ H R I h;erw[thn (hl pins s σ H _ I h) λv s1 ⟨x,H1,U,r1,q1⟩=>?_]
 let#[Y,d,o,kvs,e,hv,hd,q]:=q1;subst e;cases r1;let#[h0,hz,hm,vs,Z,o',es,ep,h1,h2,h3,h4,h5,h6]:=id (show FC X.prog X.w H1 s1.heap d (.frz o (.dK kvs)) from U.hok d _ hd)
 have eo:o'=o:=by rw[h0] at h1;cases h1;rfl
 subst eo;have O:s1.heap.IsValuesView Y d:=(show FC X.prog X.w H1 s1.heap Y (pZ Y d) from U.hok Y _ hv).1
 erw[wpAny_pyIter_values (knd:=aH X.prog X.w) (kvs:=vs) (ep:=ep) O #[25,_,es,h1,h2,h3,h4,h5,h6] ?_];erw[4015,s1.heap.objs.size,[s1.heap.objs.size],_,_,0,U.kept (t':=s1.toks) λb o e=>h_ _ e,qX Z h2 h3 h4 h5 h6,#[_,z_ _ rfl,1,1],λb hb=>?_,q]
 have e:b=s1.heap.objs.size:=by simpa using hb
 subst e;rwa[U.fpOk (ge _) (U.hok.fresh (ge _))]
theorem lH:bootBuiltins "dict"=some (.type "dict"):=by decide +kernel
theorem nq{p:Pos}(nd:X.mg "dict" = none)(ha:PE X e te)(hc:X.calm=true:=by rfl)(hg:Gl X "dict":=by rfl)(hs:starEach [e] X.env=[(false,eval e X.env)]:=by rfl):PE X (.Call (.Name "dict" p) [e] [] pos) (tCB yS (bR te cI)):=
 ci (sN hc) hg nd lH (aa ha ag hs) #[] #[] hs
section
def Fg(i j:Int):Prop:=0<=j/\(Builtin.Int.intBits i:Int)+j<=2^27
theorem ue:OpR X (binaryOp .LShift) (rI Fg λi j=>.int (i*2^j.toNat)):=opI λ_ _ _ _ _ _ _ O q=>lshift_int O.1 O.2 q
theorem Ab{i j:Int}{k:Nat}(h0:0<=j)(h1:j<=1000)(h:i.natAbs<2^k)(hk:k<=10000):Fg i j:=by
 erw[h0,?_];have e:Builtin.Int.intBits i<=k:=by
  unfold Builtin.Int.intBits
  split
  ·rwa[Gw _]
  ·rename_i z;have:=Nat.log2_lt (n:=i.natAbs) (k:=k) (by intro y;simp_all)
   have:=this.mpr h;lia
 have:(2:Int)^27=134217728:=#[]
 lia
end
theorem AO:typeLookup (.type "list_reverseiterator") "__len__" = pure none:=by rw[typeLookup_type,NY];kernel_rfl
theorem zd:typeLookup (.type "list_reverseiterator") "__length_hint__" = pure (some (.builtin "list_reverseiterator.__length_hint__")):=by rw[typeLookup_type,NY];kernel_rfl
section
theorem zt{r:Addr}{Q:Bool->Shared->Prop}(hT:s.TypeIs (.ref r) "list_reverseiterator")(h:Q false s):wpAny (model prog w) A (Builtin.List.listLengthHint (.ref r)) Q E s:=by
 unfold Builtin.List.listLengthHint;erw[c_ (wpAny_specialOf hT AO ?_)];erw[MM (λO=>absurd O #[]) (λ_=>?_)]
 erw[MM (λO=>absurd O #[]) (λ_=>?_)]
 erw[c_ (wpAny_specialOf hT zd ?_)];generalize hid:("list_reverseiterator.__length_hint__" : String)=id0
 wp_delta
 rw[show splitId id0=some ("list_reverseiterator", "__length_hint__") from by subst hid;decide +kernel]
 subst hid;erw[c_ (Oo (T := "list_reverseiterator") (b:=true) hT (by rw[isSubtype_type];kernel_rfl) ?_)]
 erw[MM (λO=>absurd O #[]) (λ_=>?_)]
 erw[MM (λ_=>?_) (λO=>absurd (by decide +kernel) O)]
 erw[MM (λO=>absurd O (by decide +kernel)) (λ_=>?_)]
 rwa[i_ h]
theorem qu{r:Addr}(hh:A.handled=none)(hr:s.heap.IsRevIter r l ((items.size:Int)-1))(hl:s.heap.IsList l items)(hne:l≠r)(hn:items.size<=sizeLine)(h:∀(h':Heap) (tk:Nat) (acc:Array Value),(∀b o,b≠r->s.heap.get? b=some o->h'.get? b=some o)->ItemsOf (λi v=>items[items.size-1-i]? = some v) acc items.size->R acc.toList { s with heap:=h',toks:=tk }):
  wpAny (model prog w) A (collect (.ref r)) R E s:=by
 let#[o,ho,hc,hd]:=id hr;let#[ol,a9,_]:=id hl;have r1:r<s.heap.objs.size:=GP ho;have l1:l<s.heap.objs.size:=GP a9;unfold collect;erw[c_ (wpAny_runValue (Nu entry_proto_collect' ?_))];rw[Mj PySem.F.plain_proto_collect _];erw[c_ (m:=newList []) (KS (i_ #[NG PySem.F.plain_list_iadd _,Nu entry_list_iadd' ?_]))];rw[Mj PySem.F.plain_list_iadd _]
 let h1:Heap:=s.heap.push { cls:=.type "list",data:=.seq ([]:List Value).toArray }
 have hS:h1.get? s.heap.objs.size=some { cls:=.type "list",data:=.seq (List.toArray []) }:=z_ _ rfl;have k1:∀b o,s.heap.get? b=some o->h1.get? b=some o:=λb o e=>h_ _ e
 have U:h1.IsRevIter r l ((items.size:Int)-1):=hr.at λo e=>k1 _ o e
 have a8:h1.IsList l items:=hl.at λo e=>k1 _ o e
 show wpAny _ A.in1 (Builtin.List.listExtendWith (.ref s.heap.objs.size) (.ref r) (.ref s.heap.objs.size)) _ _ { s with heap:=h1 }
 unfold Builtin.List.listExtendWith;erw[c_ (wpAny_typeOf (T := "list_reverseiterator") U.typeIs ?_)];have a':Builtin.List.listSameRef (.ref s.heap.objs.size) (.ref r)=false:=by simp[Builtin.List.listSameRef,OC r1]
 rw[t_ (by rw[a'];decide +kernel)]
 erw[c_ (wpAny_pyIter_revIter U ?_)];erw[c_ (Ll (zt U.typeIs ?_))];erw[MM (λa7=>absurd a7 (by decide +kernel)) (λ_=>i_ #[NG PySem.F.plain_extend_loop _,?_])]
 have W:=Walks.listRev (prog:=prog) (w:=w) (A:=A.in1) hh r l hne items;erw[codeAny_extend_loopS W.toS hn s.heap.objs.size (by simp only[Mv,Lm,MG,P7];rwa[OC r1,OC l1]) (.ref s.heap.objs.size) items.size 0 _ (List.toArray []) 0 rfl (Gw _) #[Gw _,by simpa using U,a8] hS (ItemsOf.nil _) λs' Y c' hm a6 Z=>?_]
 rw[Moved.eq_with hm];erw[c_ (wpAny_load a6 (i_ (h s'.heap s'.toks Y (λb o hb e=>hm.heap b o (λO=>?_) (k1 b o e)) Z)))]
 rcases GH.mp O with e'|O
 ·rwa[absurd (GP e) (by rw[e'];rwa[Lk _])]
 ·rwa[hb (GF.mp O)]
theorem vN{r:Addr}(hh:A.handled=none)(hr:s.heap.IsRevIter r l ((items.size:Int)-1))(hl:s.heap.IsList l items)(hne:l≠r)(hn:items.size<=sizeLine)(h:∀(h':Heap) (tk:Nat) (acc:Array Value),(∀b o,b≠r->s.heap.get? b=some o->h'.get? b=some o)->ItemsOf (λi v=>items[items.size-1-i]? = some v) acc items.size->Q (.ref h'.objs.size) { s with heap:=h'.push { cls:=.type "tuple",data:=.seq acc },toks:=tk }):
  wpAny (model prog w) A (call (.type "tuple") [.ref r]) Q E s:=by
 erw[callType_codes (Q₁:=λobj U=>U.TypeIs obj "tuple"/\Q obj U) F.called_tuple (F.typeCall_tuple_1 _) F.entry_object_init ?_ λobj U h₁=>#[h₁.1,F.args_object_init_2 obj _,object_init_meets F.called_tuple.init.lookup F.called_tuple.made #[] prog w A.in1 _ U #[h₁.1,1,h₁.2]]]
 erw[codeAny_of_tree (c_ (N_ (F.newCall_tuple_1 _) (i_ #[NG F.plain_tuple_new _,Nu F.entry_tuple_new ?_])))];rw[Mj F.plain_tuple_new _];have Z:=sub_tuple_self;have f2:=init_tuple_lookup;have f3:=madeHere_tuple;have Y:=hr.typeIs
 wp_walk using wpAny_typeOf Y,qu (A:=A.in1.in1) hh hr hl hne hn
 intro h' tk acc hk O;erw[c_ (m:=Builtin.Tuple.tupleExact acc.toList.toArray) (KS (i_ ?_) (by show acc.toList.toArray.size<=sizeLine;simp only[Array.toArray_toList];rw[O.1];rwa[hn]))]
 rw[show acc.toList.toArray=acc by simp]
 rwa[#[_,z_ _ rfl,1],h h' tk acc hk O]
end
def EV(te:TE):TE:=λσ H Q=>bR te cI σ H λvs H1=>∃l ys,vs=[.ref l]/\H1 l=some (.lst ys)/\∀t,H1 t=none->Q (.ref t) (upd H1 t (.tup ys.reverse))
theorem wX{acc:Array Value}(h:ItemsOf (λi v=>items[items.size-1-i]? = some v) acc items.size):acc.toList=items.toList.reverse:=by
 apply Pq;intro j;rw[Lv]
 by_cases U:j<items.size
 ·have O:j<acc.size:=by rw[h.1];rwa[U]
  have e:=h.2 j acc[j] (KP O);rw[KP O,<- e,getElem?_reverse (by rw[Lj];rwa[U]),Lj,Lv]
 ·rw[NB (by rw[h.1];lia)]
  symm;apply LN;rw[K_,Lj];lia
theorem v9{p pos2:Pos}(mT:X.mg "tuple" = none)(mR:X.mg "reversed" = none)(he:PE X e te)(hc:X.calm=true:=by rfl)(hgT:Gl X "tuple":=by rfl)(hgR:Gl X "reversed":=by rfl)(hs:starEach [e] X.env=[(false,eval e X.env)]:=by rfl)(hs2:starEach [.Call (.Name "reversed" p2) [e] [] pos2] X.env=[(false,eval (.Call (.Name "reversed" p2) [e] [] pos2) X.env)]:=by rfl):
  PE X (.Call (.Name "tuple" p) [.Call (.Name "reversed" p2) [e] [] pos2] [] pos) (EV te):=by
 intro pins s σ H Q I h;erw[LV (dM I hgT mT jz (LH ?_ hs2 rfl) #[] #[])]
 rw[hs2];erw[OF (LV (dM I hgR mR boot_reversed (LH (thn (aa he ag hs pos2 pins s σ H _ I h) λus s1 ⟨vs,H1,O,r1,q1⟩=>?_) hs rfl) #[] #[]))]
 let#[l,ys,e1,hl,q]:=q1;cases e1;let#[u,1,rx]:=cJ r1;cases rx;let#[hz,its,n,rv,Z]:=(show FC X.prog X.w H1 s1.heap l (.lst ys) from O.hok l _ hl)
 have il:s1.heap.IsList l its.toArray:=#[_,Z,1,n,1];have len:=rv.length;erw[call_reversed_list il (Calls.spliced_nil ?_)];have U:l<s1.heap.objs.size:=GP Z;have I2:Inv X pins σ H1 { s1 with heap:=s1.heap.push (revObj l ((its.toArray.size:Int)-1)) }:=O.kept (t':=s1.toks) λb o e=>h_ _ e
 let#[f0,f1,f2,f3,f4,f5]:=O.fpOk (ge _) (O.hok.fresh (ge _));erw[vN (r:=s1.heap.objs.size) (l:=l) (items:=its.toArray) (I.ok.hd hc) #[_,z_ _ rfl,1,1] (il.push _) (GA U) (by rw[GR,<- len];rwa[hz]) λh' tk acc hk ha=>?_]
 have Y:Inv X pins σ H1 { s1 with heap:=h',toks:=tk }:=I2.turned (λb o hb e=>hk b o hb e) f0 f1 f3 f4 f5
 have ea:acc=its.reverse.toArray:=by
  apply Array.toList_inj.mp;rw[wX ha]
 subst ea;have I4:=Y.laid (a:=h'.objs.size) (o:=.tup ys.reverse) (h':=h'.push { cls:=.type "tuple",data:=.seq its.reverse.toArray }) (t':=tk) (λb o e=>h_ _ e) (ge _) #[015210,by rw[K_];rwa[hz],its.reverse,Fw.rev rv,_,z_ _ rfl,1,0]
 rwa[22,.ref h'.objs.size,_,I4,1,q _ (Y.hok.fresh (ge _))]
def BJ(j:Nat)(led:Bool):SetTable:=#[(7),(List.toArray [j]),(List.toArray []),(0),led,(0),true]
def set0(led:Bool):Obj:={ cls:=.type "set",dict:=none,data:=.set (List.toArray []) 0 (.fresh 0 0 led) }
def set1(led:Bool)(n:Int)(t:Tok):Obj:={ cls:=.type "set",dict:=none,data:=.set (List.toArray [(hashInt n,.int n t)]) 1 (BJ (SetTable.bits (hashInt n)%8) led) }
theorem si_next:Slot "set_iterator" "__next__" "set_iterator.__next__":=.of (owner := "set_iterator") (n := "__next__") (by rw[typeLookup_type,NY];kernel_rfl) (by decide +kernel) (by decide +kernel) (by decide +kernel) (by first|rwa[.inl (by decide +kernel)]|rwa[.inr (by decide +kernel)]) (by rw[isSubtype_type];kernel_rfl)
theorem xN:entryFor table "set_iterator.__next__"=some Builtin.«set_iterator.__next__»:=entryFor_of_tree (by kernel_rfl)
theorem rf:Manifest.owners.lookup (String.ofList ['r','o','t','a','r','e','t','i','_','t','e','s'].reverse)=some Manifest.sig_set_iterator:=by kernel_rfl
theorem Bd(a:Value):argsOk "set_iterator.__next__" #[[a],[]]:=by
 unfold argsOk;rw[signature?_of (id := "set_iterator.__next__") (n:=['_','_','t','x','e','n','_','_']) (o:=['r','o','t','a','r','e','t','i','_','t','e','s']) (by kernel_rfl) rf];kernel_rfl
theorem uV:Slot "set_iterator" "__iter__" "set_iterator.__iter__":=.of (owner := "set_iterator") (n := "__iter__") (by rw[typeLookup_type,NY];kernel_rfl) (by decide +kernel) (by decide +kernel) (by decide +kernel) (by first|rwa[.inl (by decide +kernel)]|rwa[.inr (by decide +kernel)]) (by rw[isSubtype_type];kernel_rfl)
theorem mj:entryFor table "set_iterator.__iter__"=some Builtin.«dict_keyiterator.__iter__»:=entryFor_alias (id' := "dict_keyiterator.__iter__") (by kernel_rfl) (by first|rfl|decide +kernel|(unfold String.splitOn;simp +decide [String.splitOnAux])) (by decide +kernel) (by kernel_rfl)
theorem pf(a:Value):argsOk "set_iterator.__iter__" #[[a],[]]:=by
 unfold argsOk;rw[signature?_of (id := "set_iterator.__iter__") (n:=['_','_','r','e','t','i','_','_']) (o:=['r','o','t','a','r','e','t','i','_','t','e','s']) (by kernel_rfl) rf];kernel_rfl
theorem lP:entryFor table "set.__iter__"=some Builtin.«frozenset.__iter__»:=entryFor_alias (id' := "frozenset.__iter__") (by kernel_rfl) (by first|rfl|decide +kernel|(unfold String.splitOn;simp +decide [String.splitOnAux])) (by decide +kernel) (by kernel_rfl)
def siO(slot i n ep:Nat)(a:Addr):Obj:={ cls:=.type "set_iterator",data:=.fields (List.toArray [rawInt slot,rawInt i,.ref a,rawInt n,rawInt ep]) }
def gd(led:Bool):Option (Int×Tok)->Obj
 |none=>set0 led
 |some (n,t)=>set1 led n t
def cnt:Option (Int×Tok)->Nat
 |none=>0
 |some _=>1
section
variable {a I:Addr}
theorem ww{c:Option (Int×Tok)}(ha:s.heap.get? a=some (gd led c))(hQ:Q (.ref s.heap.objs.size) { s with heap:=s.heap.push (siO 0 0 (cnt c) (cnt c) a) }):wpAny (model prog w) A (pyIter (.ref a)) Q E s:=by
 have Z:s.TypeIs (.ref a) "set":=by cases c<;>rwa[_,ha,1]
 erw[wpAny_pyIter_slot Z F.slot_set_iter (Lh F.slot_set_iter Z lP ?_ (F.args_set_iter_1 _))];obtain⟨es,ep,t,hd,Y,hp,he,U⟩:∃es ep t,(gd led c).data=.set es ep t/\t.fits es.size=true/\t.plain=true/\es.size=cnt c/\ep=cnt c:=by
  cases c with
  |none=>rwa[34,_,2,1,1,1]
  |some p=>rwa[34,_,2,1,1,1]
 unfold Builtin.«frozenset.__iter__»;erw[c_ (N_ (a:=a) rfl ?_)];unfold Builtin.Frozenset.sizeOf setEntries setDrawn setEpoch;erw[c_ (c_ (c_ (Nq ha hd Y (i_ (i_ ?_)))))];erw[c_ (c_ (Nq ha hd Y ?_))];dsimp only;unfold setsByText;erw[c_ (c_ (Ou (i_ (i_ ?_))))];let#[t1,t2,t3,t4,t5,t6,t7]:=t;obtain rfl:t7=true:=hp;erw[MM (λO=>absurd (show(_&&(!true&&decide (es.size>1)))=true from O) (by simp)) (λ_=>?_)]
 erw[c_ (i_ (c_ (c_ (Nq ha hd Y (i_ ?_)))))];erw[c_ (KS (i_ #[62,0, "set_iterator",_,#[_,z_ _ rfl,1],si_next.lookup,?_]))];rw[he,U];rwa[hQ]
theorem Dm(j:Nat):SetTable.below (List.toArray [j]) 0=0:=by
 unfold SetTable.below SetTable.below.go;simp[SetTable.below.go]
theorem CW(j:Nat):SetTable.below (List.toArray [j]) (j+1)=1:=by
 unfold SetTable.below SetTable.below.go;simp[SetTable.below.go]
theorem Fp(f:Nat->Nat)(x:α):pickOrder f (List.toArray [x]) = (List.toArray [x]):=by
 unfold pickOrder pickOrder.go;simp[pickOrder.go,Nat.mod_one]
theorem vF{c:Option (Int×Tok)}{Q:Array (Int×Value)->Shared->Prop}(hf:w.params.followText "set-order"=true)(ha:s.heap.get? a=some (gd led c))(hQ:∀es,(gd led c).data=.set es (cnt c) (match c with|none=>.fresh 0 0 led|some p=>BJ (SetTable.bits (hashInt p.1)%8) led)->Q es s):wpAny (model prog w) A (setWalk a) Q E s:=by
 unfold setWalk setsByText;cases c with
 |none=>
  erw[c_ (Nq ha rfl rfl (c_ (c_ (Ou (i_ ?_)))))];show wpAny _ _ (if w.params.followText "set-order"=true then _ else _) _ _ _
  rw[u_ hf];rwa[c_ (Ou (i_ (hQ _ rfl)))]
 |some p=>
  erw[c_ (Nq ha rfl rfl (c_ (c_ (Ou (i_ ?_)))))];show wpAny _ _ (if w.params.followText "set-order"=true then _ else _) _ _ _
  rw[u_ hf];erw[c_ (Ou (i_ ?_))];rw[Fp];rwa[hQ _ rfl]
def at_(c:Option (Int×Tok))(i:Nat)(slot:Nat):Option (Value×Nat):=match c with
 |none=>none
 |some p=>if i=0 then some (.int p.1 p.2,slot) else none
def sl:Option (Int×Tok)->Nat
 |none=>0
 |some p=>SetTable.bits (hashInt p.1)%8+1
theorem CI{c:Option (Int×Tok)}{i slot:Nat}{Q:Option (Value×Nat)->Shared->Prop}(ha:s.heap.get? a=some (gd (!w.params.followText "set-order") c))(hi:i<=cnt c)(U:w.params.followText "set-order" = false->slot=if i=0 then 0 else sl c)(Y:∀O:Nat,(w.params.followText "set-order" = false->O=sl c)->Q (at_ c i O) s):wpAny (model prog w) A (setNext a slot i (cnt c)) Q E s:=by
 obtain⟨es,ep,t,hd,hf,a6⟩:∃es ep t,(gd (!w.params.followText "set-order") c).data=.set es ep t/\t.fits es.size=true/\ep=cnt c:=by
  cases c with
  |none=>rwa[32,_,2,1]
  |some p=>rwa[32,_,2,1]
 unfold setNext;erw[c_ (Nq ha hd hf ?_)];dsimp only;unfold setsByText;erw[c_ (c_ (Ou (i_ ?_)))];show wpAny _ _ (if w.params.followText "set-order"=true then _ else _) _ _ _
 cases ht:w.params.followText "set-order" with
 |true=>
  rw[u_ rfl,t_ (by rw[a6];simp)]
  erw[c_ (vF ht ha λes he=>i_ ?_)]
  have z:=Y slot (λz=>by rw[ht] at z;cases z)
  cases c with
  |none=>
   cases he;rwa[z]
  |some p=>
   cases he;unfold at_ at z
   by_cases h0:i=0
   ·subst h0;rwa[z]
   ·obtain rfl:i=1:=by
     have:i<=1:=hi;lia
    rwa[z]
 |false=>
  rw[t_ #[]]
  have U:=U ht;have Y:=Y _ λ_=>rfl
  rw[ht] at hd;cases c with
  |none=>
   cases hd;obtain rfl:i=0:=Nat.le_zero.mp hi;rw[u_ rfl] at U;subst U;rwa[c_ (N_ (a:=⟨⟩) rfl (i_ Y))]
  |some p=>
   cases hd;erw[MM (λZ=>absurd Z (λz=>by cases z)) (λ_=>c_ (N_ (a:=⟨⟩) rfl (i_ ?_)))]
   unfold at_ at Y
   by_cases h0:i=0
   ·subst h0;rw[u_ rfl] at U;subst U;rw[show(BJ (SetTable.bits (hashInt p.1)%8) (!false)).place = (List.toArray [SetTable.bits (hashInt p.1)%8]) from rfl,Dm]
    rwa[Y]
   ·obtain rfl:i=1:=by
     have:i<=1:=hi;lia
    rw[t_ h0] at U;subst U;rw[show(BJ (SetTable.bits (hashInt p.1)%8) (!false)).place = (List.toArray [SetTable.bits (hashInt p.1)%8]) from rfl,show sl (some p)=SetTable.bits (hashInt p.1)%8+1 from rfl,CW]
    rwa[Y]
def SIt(w:World)(I a:Addr)(c:Option (Int×Tok))(i:Nat)(h:Heap):Prop:=∃slot:Nat,i<=cnt c/\(w.params.followText "set-order" = false->slot=if i=0 then 0 else sl c)/\h.get? I=some (siO slot i (cnt c) (cnt c) a)
theorem qG{c:Option (Int×Tok)}{i:Nat}{Q:Option Value->Shared->Prop}(hh:A.handled=none)(ha:s.heap.get? a=some (gd (!w.params.followText "set-order") c))(hI:SIt w I a c i s.heap)(h1:∀n t h',c=some (n,t)->i=0->SIt w I a c 1 h'->Heap.SameBut I s.heap h'->Q (some (.int n t)) { s with heap:=h' })(h2:∀h',i=cnt c->Heap.ExtBut I s.heap h'->Q none { s with heap:=h' }):wpAny (model prog w) A (pyNext (.ref I)) Q E s:=by
 let#[slot,hi,hs,U]:=hI;have hT:s.TypeIs (.ref I) "set_iterator":=#[_,U,1];obtain⟨es,ep,t,hd,hf,he⟩:∃es ep t,(gd (!w.params.followText "set-order") c).data=.set es ep t/\t.fits es.size=true/\es.size=cnt c:=by
  cases c with
  |none=>rwa[32,_,2,1]
  |some p=>rwa[32,_,2,1]
 unfold pyNext;erw[c_ (wpAny_attempt (Mb (name:=Str.ofString "__next__") hT si_next (Lh si_next hT xN ?_ (Bd _))))];unfold Builtin.«set_iterator.__next__»;erw[c_ (N_ (a:=(Value.ref I,[])) rfl ?_)];erw[c_ (wpAny_fieldsOf U rfl ?_)];dsimp only[rawInt];unfold setEntries;erw[c_ (c_ (Nq ha hd hf (i_ ?_)))];rw[t_ (by rw[he];simp)]
 simp only[Lq];erw[c_ (CI ha hi hs λO Y=>?_)]
 have fin:i=cnt c->wpAny (model prog w) A.in1 (do setField (.ref I) 2 .none;let e <- newExc (.type "StopIteration") [];raiseNew e) (λfin s'=>∃v,fin=Fin.done (Flow.ret v)/\wpAny (model prog w) A (pure (some v)) Q E s') (λe s'=>wpAny (model prog w) A (do let b <- isInstance e (.type "StopIteration");if b=true then pure none else throw e) Q E s') s:=λhc=>by
  erw[c_ (NR U rfl (by simp) (c_ ?_))]
  simp only[newExc,newTuple];erw[c_ (KS (c_ (m:=firstArgMember _ _) (N_ (a:=Value.none) (by first|rfl|(simp only[firstArgMember];rfl)) (KS ?_ (by size_fits)))) (by size_fits))]
  simp only[raiseNew];erw[c_ (wpAny_handled ?_)];rw[show A.in1.handled=none from hh]
  erw[c_ (i_ (wpAny_throw ?_))];erw[c_ (Oo (T := "StopIteration") (b:=true) #[_,z_ _ rfl,1] isSubtype_stop ?_)];rwa[i_ (h2 _ hc (((Mx ..).extBut.push _).push _))]
 unfold at_;cases c with
 |none=>rwa[fin (Nat.le_zero.mp hi)]
 |some p=>
  by_cases h0:i=0
  ·subst h0;dsimp only;rw[u_ rfl];erw[c_ (NR U rfl (by simp) ?_)]
   have Z:=get?_update_self (Obj.mapFields (·.setIfInBounds 0 (.int (O:Int) 0))) U (Obj.isFreed_of_fields (OI rfl _));erw[c_ (NR Z rfl (by simp) ?_)]
   erw[i_ #[0,i_ (h1 p.1 p.2 _ rfl rfl #[O,ge _,λz=>Y z,?_] ?_)]]
   ·rwa[get?_update_self _ Z rfl]
   ·exact(Mx ..).trans (Mx ..)
  ·dsimp only;rw[t_ h0];erw[fin ?_];have:i<=1:=hi;show i=1;lia
end
section
variable {a:Addr}
theorem xW{Q:Bool->Shared->Prop}(hT:s.TypeIs (.ref a) "set")(h:Q false s):wpAny (model prog w) A (Builtin.List.listLengthHint (.ref a)) Q E s:=by
 unfold Builtin.List.listLengthHint;erw[c_ (wpAny_specialOf hT F.slot_set_len.lookup ?_)];generalize hid:("set.__len__" : String)=id0
 wp_delta
 rw[show splitId id0=some ("set", "__len__") from by subst hid;decide +kernel]
 subst hid;erw[c_ (Oo (T := "set") (b:=true) hT sub_set_self ?_)];erw[MM (λO=>absurd O #[]) (λ_=>?_)]
 erw[MM (λ_=>c_ (wpAny_typeOf hT (i_ h))) (λO=>absurd (by decide +kernel) O)]
theorem wY(hh:A.handled=none)(I a:Addr)(hne:a≠I)(c:Option (Int×Tok)):
  Walks prog w A I [I,a] [I] (cnt c) (λ_ v=>∃n t,c=some (n,t)/\v=.int n t) (λi h=>SIt w I a c i h/\h.get? a=some (gd (!w.params.followText "set-order") c)) where
 sub:=λb O=>by simp at O;simp[O]
 frame:=λi h h' st hk=>by
  let#[#[slot,h1,h2,h3],h4]:=st;rwa[#[slot,h1,h2,hk I (by simp) _ h3],hk a (by simp) _ h4]
 item:=λi s Q E hi st U=>by
  erw[qG hh st.2 st.1 (λn t h' Y h0 a6 sb=>?_) λh' Y=>absurd hi ()]
  subst h0;rwa[U _ h' s.toks #[21,n,t,Y,1] #[a6,(sb.2 a hne).trans st.2] λb o O e=>(sb.2 b (λz=>O (by simp[z]))).trans e]
 done:=λs Q E st U=>by
  erw[qG hh st.2 st.1 (λn t h' Y h0=>?_) λh' _ eb=>U h' s.toks λb o O e=>eb b o (λz=>O (by simp[z])) e]
  subst Y;cases h0
 self:=λi s Q E st U=>by
  let#[#[slot,h1,h2,h3],h4]:=st;have Z:s.TypeIs (.ref I) "set_iterator":=#[_,h3,1];erw[wpAny_pyIter_slot Z uV (Lh uV Z mj ?_ (pf _))];rwa[i_ #[62,0, "set_iterator",_,Z,si_next.lookup,U]]
theorem Ar(a:Addr)(c:Option (Int×Tok)):KdlSrc prog w "set" a a (cnt c) (λ_ v=>∃n t,c=some (n,t)/\v=.int n t) (λh=>h.get? a=some (gd (!w.params.followText "set-order") c)) where
 type:=λ_ O=>by cases c<;>rwa[_,O,1]
 there:=λ_ O=>#[GP O,GP O]
 keep:=λ_ _ O hk=>hk a (.inl rfl) _ O
 notList:=#[]
 notTuple:=#[]
 hint:=λ_ _ _ _ O U=>xW (by cases c<;>rwa[_,O,1]) U
 iter:=λA s Y O=>#[22,_,_,(λ_ _ U=>ww O U),wY Y _ a (GA (GP O)) c,#[#[(0),Gw _,λ_=>rfl,z_ _ rfl],h_ _ O]]
end
theorem CZ(c:Option (Int×Tok)):cnt c<=1:=by cases c<;>simp[cnt]
theorem Dr(c:Option α):c.toList.length<=1:=by cases c<;>simp
def EQ(w:World)(a:Addr)(ns:List Int):HO:=.ext λh=>∃c:Option (Int×Tok),ns=(c.map (·.1)).toList/\h.get? a=some (gd (!w.params.followText "set-order") c)
def Du(w:World)(K:Frag)(H:Hp)(x:V)(B:List Int->Prop):Prop:=
 (∃l ns,x=.ref l/\SqL K H l (ns.map V.int)/\B ns)\/(∃a ns,x=.ref a/\H a=some (EQ w a ns)/\B ns)\/∃d ks kvs,x=.ref d/\Rd H d (.dK kvs)/\kvs.map (·.1)=ks.map Sum.inl/\B ks
section
theorem pB{x:V}{B:List Int->Prop}(hh:A.handled=none)(I:Inv X pins σ H s)(rx:Fy x u)(hs:Du X.w X.K H x B)(h:∀h' tk its ns,B ns->Fw (ns.map V.int) its->(∀b o,s.heap.get? b=some o->h'.get? b=some o)->ns.length<=sizeLine->R its { s with heap:=h',toks:=tk }):wpAny (model X.prog X.w) A (collect u) R E s:=by
 rcases hs with⟨l,ns,rfl,O,hB⟩|⟨a,ns,rfl,ha,hB⟩|⟨d,ks,kvs,rfl,hd,hk,hB⟩
 ·cases rx;let#[its,rv,p,hz]:=I.list O;rw[k_] at hz;erw[collect_list (vs:=its) p.isList (h _ s.toks its ns hB rv (λb o q=>?_) hz) (by rw[<- rv.length,k_];rwa[hz])]
  have Z:b<s.heap.objs.size:=GP q;rw[Heap.get?_update_ne _ _ _ _ (GA Z),Heap.get?_push_ne _ _ _ (GA Z)];rwa[q]
 ·cases rx;let#[#[c,1,hc],_]:=id (show FC X.prog X.w H s.heap a (EQ X.w a ns) from I.hok a _ ha)
  erw[kdu_collect (Ar a c) hh hc (Lg (CZ c) #[]) λh' tk acc hk U=>?_]
  erw[h h' tk _ _ hB ?_ hk (Lg (Dr _) #[])]
  let#[acc]:=acc;cases c with
  |none=>
   obtain rfl:acc=[]:=MH U.1;rwa[.nil]
  |some p=>
   obtain⟨v,rfl⟩:∃v,acc=[v]:=List.length_eq_one_iff.mp U.1
   let#[n,t,e,1]:=U.2 0 v rfl;cases e;rwa[.cons #[t,1] .nil]
 ·cases rx;let#[hz,hm,vs,kv,dd]:=ib I.hok hd;let#[ep,a6]:=dd.dictAt;have lv:kvs.length=vs.length:=Paired.length kv;erw[kdu_collect (kdl_dict (knd:=aH X.prog X.w) (kvs:=vs) (ep:=ep) hm) hh a6 (by rw[<- lv];rwa[hz]) λh' tk acc a7 U=>?_]
  have keys:vs.map (·.1)=ks.map Sum.inl:=by rw[<- KV.keys kv,hk]
  have lk:ks.length=vs.length:=by
   have:=Ls List.length keys;simpa using this.symm
  erw[h h' tk _ _ hB ?_ a7 ()]
  have go:∀(l:List Value) (ks:List Int),l.length=ks.length->(∀(j:Nat) (v:Value),l[j]? = some v->∃k,ks[j]? = some k/\∃t,v=Value.int k t)->Fw (ks.map V.int) l:=by
   intro l
   induction l with
   |nil=>intro ks O _;rw[MH O.symm];rwa[.nil]
   |cons v l ih=>
    intro ks O hv;cases ks with
    |nil=>cases O
    |cons k ks=>
     let#[k',e,t,1]:=hv 0 v rfl;cases e;rwa[.cons #[t,1] (ih ks (by simpa using O) λj v e=>hv (j+1) v e)]
  erw[go _ _ (by rw[Lj,U.1,lk]) λj v e=>?_]
  rw[Lv] at e;let#[k,x,e1,e2]:=U.2 j v e;have Y:(vs.map (·.1))[j]? = some k:=by rw[Ga,e1];rfl
  rw[keys,Ga] at Y;cases e4:ks[j]? with
  |none=>rw[e4] at Y;cases Y
  |some i=>
   rw[e4] at Y;cases Y
   rcases aU (show iF (Sum.inl i) v=true from e2) with⟨i',t,e5,rfl⟩|⟨y,t,e5,rfl⟩
   ·cases e5;rwa[50,i,1,t,1]
   ·cases e5
theorem r8(hc:X.calm=true):cq X (.builtin "sorted") (λxs H Q=>∃x,xs=[x]/\Du X.w X.K H x λns=>ns.length<64/\∀(D:Addr) (zs:List Int),H D=none->zs.Perm ns->zs.Pairwise (· <= ·)->Q (.ref D) (upd H D (.lst (zs.map V.int)))):=by
 intro pins s σ H xs us Q I r h;let#[x,1,hs]:=h;let#[u,1,rx]:=cJ r;erw[Calls.call_function_entry kind_sorted plain_sorted entry_sorted (args_sorted1 _) ?_];unfold Builtin.«sorted»;erw[c_ (m:=checkCount "sorted" 1 1 _) (i_ ?_)];erw[c_ (pB (A:=X.A.in1) (I.ok.hd hc) I rx hs λh' tk its ns hB rv hk Z=>?_)]
 let#[a6,q]:=hB;have U:Inv X pins σ H { s with heap:=h',toks:=tk }:=I.kept hk
 have li:its.length=ns.length:=by rw[<- rv.length,k_]
 erw[c_ (OU ?_ (by rw[li];rwa[Z]))]
 have O:(h'.push (seqObj "list" its.toArray 0)).get? h'.objs.size=some (seqObj "list" its.toArray 0):=z_ _ rfl;erw[c_ (Ll (Lh slot_list_sort #[_,O,1] entry_list_sort (list_sort_tree O (eh rv) () λout zs a1 a2 a3=>#[0,?_]) (args_list_sort _)))]
 let#[e,he]:=sortedHeap_at (out:=out) O;have kp:∀b o,h'.get? b=some o->(sortedHeap (h'.push (seqObj "list" its.toArray 0)) h'.objs.size its out).get? b=some o:=λb o e=>by
  have Y:=GP e;rw[sortedHeap_old (GA Y) (by rw[size_push'];rwa[OZ Y])]
  rwa[h_ _ e]
 have lz:zs.length=ns.length:=a2.length_eq;have rz:Fw (zs.map V.int) out.toList:=jj a1;have I2:=U.laid (a:=h'.objs.size) (o:=.lst (zs.map V.int)) (t':=tk) kp (ge _) #[0121,by rw[k_,lz];rwa[Z],out.toList,e,rz,he]
 rwa[i_ #[62,0,.ref h'.objs.size,_,I2,1,q _ zs (U.hok.fresh (ge _)) a2 a3]]
end
section
variable {p:Pos}
def CU(w:World)(K:Frag):List V->Hp->VK->Prop:=λxs H Q=>∃x,xs=[x]/\Du w K H x λns=>ns.length<64/\∀(D:Addr) (zs:List Int),H D=none->zs.Perm ns->zs.Pairwise (· <= ·)->Q (.ref D) (upd H D (.lst (zs.map V.int)))
theorem wl(T:Blt X.mg)(ha:PE X e te)(hK:X.K=K:=by rfl)(hw:X.w=w:=by rfl)(hc:X.calm=true:=by rfl)(hg:Gl X "sorted":=by rfl)(hs:starEach [e] X.env=[(false,eval e X.env)]:=by rfl):PE X (.Call (.Name "sorted" p) [e] [] pos) (tCB (CU w K) (bR te cI)):=by
 subst hK hw;rwa[bP (r8 hc) hg T.sorted boot_sorted (aa ha ag hs) #[] #[] hs]
end
section
variable (K:Frag)
theorem AV{i k:Nat}{y z:Str}{p1 p3:Pos}{kk:Nat}(hK:X.K=K)(hc:X.calm=true)(hN:X.N.Nodup)(hi:X.N[i]? = some x)(hj:X.N[j]? = some y)(hk:X.N[k]? = some z)(hx:X.env.scope.names.lookup x=some .local)(hy:X.env.scope.names.lookup y=some .local)(hz:X.env.scope.names.lookup z=some .local):
  PG X (.Tuple [.Name x p1,.Name y p2,.Name z p3] kk pos) (zS K 3 (gJ (bV i) (gJ (bV j) (gJ (bV k) zm)))):=by
 subst hK;rwa[jd hc (ba (cc hN hi hx) (ba (cc hN hj hy) (ba (cc hN hk hz) gw)))]
end
def FrzD(x:V)(H:Hp):Prop:=∃d o,x=.ref d/\((∃kvs,H d=some (.frz o (.dK kvs)))\/∃kvs,H d=some (.frz o (.dT kvs)))
def tM0(r:V->List V->Hp->VK->Prop)(to:TE):TE:=λσ H Q=>to σ H λx H1=>r x [] H1 Q
theorem zI{o:Expr}{to:TE}{id:String}{r:V->List V->Hp->VK->Prop}(hF:∀x H Q,r x [] H Q->FrzD x H)(slot:Slot "dict" name id)(hty:typeOf (.builtin id)=pure (.type "method_descriptor"))(hm:MtR X id r)(ho:PE X o to)(hbase:attributeBase o name X.env (eval o X.env)=eval o X.env)(hline:(apos.endLine==cpos.line)=true):PE X (.Call (.Attribute o name apos) [] [] cpos) (tM0 r to):=by
 intro pins s σ H Q I h;erw[wpAny_Call_method0_late hbase hline (thn (ho pins s σ H _ I h) λv s1 ⟨x,H1,O,Y,U⟩=>?_)]
 let#[d,ob,1,hd]:=hF _ _ _ U;cases Y;have z:s1.heap.get? d=some ob/\ob.ExactDict:=by
  rcases hd with⟨kvs,hd⟩|⟨kvs,hd⟩
  ·let#[g,_,_,_,_,o',_,_,e,ex,_]:=(show FC X.prog X.w H1 s1.heap d (.frz ob (.dK kvs)) from O.hok d _ hd)
   rw[g] at e;cases e;rwa[g,ex]
  ·let#[g,_,_,_,_,o',_,_,e,ex,_]:=(show FC X.prog X.w H1 s1.heap d (.frz ob (.dT kvs)) from O.hok d _ hd)
   rw[g] at e;cases e;rwa[g,ex]
 rwa[25,"dict",id,PySem.F.plainAttrs_dict,slot,hty,#[ob,z.1,z.2.1],λa e=>by cases e;rwa[ob,z.1,z.2.2.1],Ny rfl (PySem.evalArgs_none (hm pins s1 σ H1 (.ref d) [] _ [] Q O rfl .nil U))]
section
variable {o:Expr}{to:TE}(K:Frag)
theorem BD(hK:X.K=K)(ho:PE X o to)(hbase:attributeBase o "items" X.env (eval o X.env)=eval o X.env:=by rfl)(hline:(apos.endLine==cpos.line)=true:=by rfl):PI X (.Tuple tes tk tp) (.Call (.Attribute o "items" apos) [] [] cpos) (uW (tM0 um to)):=
 vM (zI (λ_ _ _ ⟨d,o,kvs,e,_,h,_⟩=>#[21,d,o,e,.inl #[kvs,h]]) PySem.F.slot_dict_items PySem.F.type_dict_items wp ho hbase hline)
theorem AY(hK:X.K=K)(ho:PE X o to)(hbase:attributeBase o "values" X.env (eval o X.env)=eval o X.env:=by rfl)(hline:(apos.endLine==cpos.line)=true:=by rfl):PI X tg (.Call (.Attribute o "values" apos) [] [] cpos) (pO (tM0 p6 to)):=
 tP (zI (λ_ _ _ ⟨d,o,kvs,e,_,h,_⟩=>#[21,d,o,e,.inl #[kvs,h]]) PySem.F.slot_dict_values PySem.F.type_dict_values rJ ho hbase hline)
end
theorem aB{f:Str}(K:Frag)(hK:X.K=K)(he:PE X e ta)(hb:attributeBase e f X.env (eval e X.env)=eval e X.env):PE X (.Attribute e f pos) (Ew K ta f):=hK▸bq he hb
def Et:V->List V->Hp->VK->Prop:=λx vs H Q=>∃i:Int,x=.int i/\vs=[]/\Q (.int (Builtin.Int.intBits i)) H
theorem uu:MtR X "int.bit_length" Et:=by
 intro pins s σ H x xs v us Q I U O h;let#[i,1,1,q]:=h;let#[t,1]:=U;cases O;rwa[call_int_bit_length #[22,.int (Builtin.Int.intBits i),H,I.tok _,#[0],q]]
def xK:List V->Hp->VK->Prop:=λxs H Q=>∃(a:Addr) (kvs:List (Key×V)),xs=[.ref a]/\Rd H a (.dK kvs)/\∀d,H d=none->Q (.ref d) (upd H d (.dK kvs))
theorem tE(hc:X.calm=true):cq X (.type "dict") xK:=by
 intro pins s σ H xs us Q I r h;let#[a,kvs,1,U,q]:=h;let#[u,1,rx]:=cJ r;cases rx;let#[hz,Z,vs,kv,dd]:=ib I.hok U;have lv:kvs.length=vs.length:=Paired.length kv;erw[kt_call_dict (knd:=aH X.prog X.w) Z dd () λh' O hs=>?_]
 have Y:=I.big;erw[22,.ref s.heap.objs.size,_,I.laid (t':=s.toks) (λb u e=>?_) (ge _) (oj hz (Mw.mpr (Ne.symm (GA Y))) kv O),1,q _ (I.hok.fresh (ge _))]
 exact(hs.2 b (GA (GP e))).trans (h_ _ e)
theorem vh{p:Pos}(nd:X.mg "dict" = none)(ha:PE X e te)(hc:X.calm=true:=by rfl)(hg:Gl X "dict":=by rfl)(hs:starEach [e] X.env=[(false,eval e X.env)]:=by rfl):PE X (.Call (.Name "dict" p) [e] [] pos) (tCB xK (bR te cI)):=
 ci (tE hc) hg nd lH (aa ha ag hs) #[] #[] hs
def Cs:List V->Hp->VK->Prop:=λxs H Q=>∃(d:Addr) (ks:List Int) (kvs:List (Key×V)),xs=[.ref d]/\Rd H d (.dK kvs)/\kvs.map (·.1)=ks.map Sum.inl/\ks≠[]/\∀m,m∈ks->(∀x∈ks,x<=m)->Q (.int m) H
theorem wR(hc:X.calm=true):cq X (.builtin "max") Cs:=by
 intro pins s σ H xs us Q I rv h;let#[d,ks,kvs,1,hd,hk,a8,hq]:=h;let#[u,1,ru]:=cJ rv;cases ru;let#[hz,hm,vs,kv,dd]:=ib I.hok hd;let#[ep,Z]:=dd.dictAt;have hh:X.A.in1.handled=none:=I.ok.hd hc;have keys:vs.map (·.1)=ks.map Sum.inl:=by rw[<- KV.keys kv,hk]
 have lk:ks.length=vs.length:=by
  have:=Ls List.length keys;simpa using this.symm
 have a':0<ks.length:=List.length_pos_iff.mpr a8;have U:∀(i:Nat) (v:Value),(∃k x,vs[i]? = some (k,x)/\(aH X.prog X.w).is k v=true)->∃t,v=Value.int (ks.getD i 0) t:=by
  rintro i v ⟨k,x,e1,e2⟩;have Y:(vs.map (·.1))[i]? = some k:=by rw[Ga,e1];rfl
  rw[keys,Ga] at Y;rw[Gc];cases e4:ks[i]? with
  |none=>rw[e4] at Y;cases Y
  |some j=>
   rw[e4] at Y;cases Y
   rcases aU (show iF (Sum.inl j) v=true from e2) with⟨i',t,e5,rfl⟩|⟨y,t,e5,rfl⟩
   ·cases e5;rwa[t,1]
   ·cases e5
 have src:=kdl_dict (prog:=X.prog) (w:=X.w) (knd:=aH X.prog X.w) (kvs:=vs) (ep:=ep) hm;let#[oI,St,hi,W,a9]:=src.iter X.A.in1 s hh Z;have a7:d<s.heap.objs.size:=(src.there _ Z).2;erw[call_max_walk (hi _ _ ?_)];erw[4036,s.heap.objs.size,_,_,_,_,_,0,W,a9,λb O=>?_,?_,CmpOf.ints_gt (λi=>ks.getD i 0) U,λv h' tk hP hk=>?_]
 ·show b<(s.heap.push oI).objs.size;rw[MQ]
  rcases GH.mp O with rfl|O
  ·rwa[Ol _]
  ·rcases GH.mp O with rfl|O
   ·rwa[OZ a7]
   ·cases O
 ·lia
 ·have I1:Inv X pins σ H { s with heap:=s.heap.push oI,toks:=s.toks }:=I.kept λb u e=>h_ _ e
  have fp:FJ X pins H s.heap.objs.size:=I.fpOk (ge _) (I.hok.fresh (ge _));have I2:Inv X pins σ H { s with heap:=h',toks:=tk }:=by
   have:=I1.turnedN (fp:=[s.heap.objs.size]) (h':=h') (t':=tk) (λb ob O e=>hk b ob O e) (λb O=>by have e:b=s.heap.objs.size:=(by simpa using O);subst e;rwa[fp])
   rwa[this]
  let#[g1,g2]:=argBest_gt (λi=>ks.getD i 0) (vs.length-1)
  let#[tv,1]:=U _ _ hP;have a6:argBest (λi j=>decide (ks.getD i 0>ks.getD j 0)) (vs.length-1)<ks.length:=()
  erw[22,.int (ks.getD (argBest (λi j=>decide (ks.getD i 0>ks.getD j 0)) (vs.length-1)) 0),H,I2,#[tv,1],hq _ ?_ λx hx=>?_]
  ·rw[Gc,e_ a6];rwa[PR a6]
  ·let#[j,hj,1]:=getElem_of_mem hx;have:=g2 j ()
   rw[Gc (i:=j),e_ hj] at this;rwa[this]
theorem zX{p:Pos}(T:Blt X.mg)(ha:PE X e te)(hc:X.calm=true:=by rfl)(hg:Gl X "max":=by rfl)(hs:starEach [e] X.env=[(false,eval e X.env)]:=by rfl):PE X (.Call (.Name "max" p) [e] [] pos) (tCB Cs (bR te cI)):=
 bP (wR hc) hg T.max i8 (aa ha ag hs) #[] #[] hs
section
def PrK(b:Bool)(K:Frag)(H:Hp)(y:V)(k:Int×List Int):Prop:=
 if b=true then ∃a m,y=.ref a/\H a=some (.tup [.int k.1,.int m])/\k.2=[m]
 else ∃a t v,y=.ref a/\H a=some (.tup [.ref t,v])/\SqT K H t (k.2.map V.int)/\k.1=0/\((∃n,v=.int n)\/∃c,v=.ref c)
theorem PrK.same{b:Bool}{k:Int×List Int}(e:Fu H H')(h:PrK b K H y k):PrK b K H' y k:=by
 cases b with
 |true=>
  let#[a,m,h1,h2,h3]:=h;rwa[22,a,m,h1,e _ _ h2,h3]
 |false=>
  let#[a,t,v,h1,h2,h3,h4]:=h;rwa[33,a,t,v,h1,e _ _ h2,e.sqT h3,h4]
theorem Fl{b:Bool}{x:V}{v:Value}{j k:Int×List Int}{Q:Bool->Shared->Prop}(hu:A.units+64<cLine)(I:Inv X pins σ H s)(hx:PrK b X.K H x j)(hy:PrK b X.K H y k)(he:j=k->x=y)(rx:Fy x u)(ry:Fy y v)(h:Q (klt j k) s):wpAny (model X.prog X.w) A (keyLt' (tuples' b) u v) Q E s:=by
 cases b with
 |true=>
  let#[a,m,1,ha,e1]:=hx;let#[c,m2,1,au,e2]:=hy;cases rx;cases ry;let#[_,its,O,p1]:=(show FC X.prog X.w H s.heap a (.tup _) from I.hok a _ ha)
  let#[_,a',U,p2]:=(show FC X.prog X.w H s.heap c (.tup _) from I.hok c _ au)
  let#[#[cls,dd,data,sl],ho,hc,n,hd]:=id p1;let#[#[a8,ac,a6,b0],Z,ax,n2,Y]:=id p2;cases O with
  |cons q1 O=>cases O with
   |cons q2 O=>
    cases O;cases U with
    |cons q3 U=>cases U with
     |cons q4 U=>
      cases U;let#[t1,1]:=q1;let#[t2,1]:=q2;let#[t3,1]:=q3;let#[t4,1]:=q4;rw[gc,e1,e2] at h;erw[kat_lt ho hd Z Y (kat_cons (wpAny_eqBool_int (kat_go (λe=>kat_yes ?_) λe=>kat_no ?_)))]
      ·have e3:j.1=k.1:=by simpa using e
       rw[u_ e3] at h;erw[kat_cons (wpAny_eqBool_int (kat_go (λe=>kat_yes (kat_nil ?_)) λe=>kat_no ?_))]
       ·have e4:m=m2:=by simpa using e
        subst e4;rw[ft] at h;rwa[h]
       ·have e4:¬m=m2:=by simpa using e
        have:HT.lexLt [m] [m2]=decide (m<m2):=by
         unfold HT.lexLt
         first
          |(rw[t_ e4])
          |(by_cases z:m<m2<;>simp[z,e4,HT.lexLt])
        rw[this] at h;rwa[kat_one _ _ (lt_int h)]
      ·have e3:¬j.1=k.1:=by simpa using e
       rw[t_ e3] at h;rwa[oneLt_int h]
 |false=>
  let#[a,ta,va,1,ha,a7,f1,w1]:=hx;let#[c,tb,vb,1,hb,htb,f2,w2]:=hy;cases rx;cases ry;let#[_,its,O,p1]:=(show FC X.prog X.w H s.heap a (.tup _) from I.hok a _ ha)
  let#[_,a',U,p2]:=(show FC X.prog X.w H s.heap c (.tup _) from I.hok c _ hb)
  let#[#[cls,dd,data,sl],ho,hc,n,hd]:=id p1;let#[#[a8,ac,a6,b0],Z,ax,n2,Y]:=id p2;cases O with
  |cons q1 O=>cases O with
   |cons q2 O=>
    cases O;cases U with
    |cons q3 U=>cases U with
     |cons q4 U=>
      cases U;cases q1;cases q3;rw[gc,u_ (f1.trans f2.symm)] at h;let#[as,ra]:=(dB a7).reads I rfl;let#[bs,rb]:=(dB htb).reads I rfl;let#[b2,r3,p3,_]:=I.tuple a7;let#[b1,r4,p4,_]:=I.tuple htb;have ad:SeqAt.EqAt A s (.ref ta) (.ref tb) (decide (j.2=k.2)):=by
       by_cases a9:ta=tb
       ·subst a9;rw[p_ (ig (I.tuple_inj a7 htb))];rwa[SeqAt.EqAt.same _]
       ·rwa[SeqAt.EqAt.of_refs a9 λprog w E Q' hq=>eq_dataH ra rb (bH _) (bH _) hu (by rw[iL];rwa[hq])]
      erw[kat_lt ho hd Z Y (kat_cons (ad _ _ _ _ ?_))];erw[kat_go (λe=>kat_yes ?_) λe=>kat_no ?_]
      ·have e5:j.2=k.2:=A_ e;have e6:=he (NU (f1.trans f2.symm) e5);cases e6;rw[hb] at ha;cases ha;rw[Z] at ho;cases ho;rw[Y] at hd;cases hd;rw[e5,ft] at h
       rcases w2 with⟨n,rfl⟩|⟨d,rfl⟩
       ·let#[t2,1]:=q4;erw[kat_cons (wpAny_eqBool_int ?_)];rw[beq_self_eq_true];rwa[kat_yes (kat_nil h)]
       ·cases q4;rwa[kat_cons (SeqAt.EqAt.same (.ref d) _ _ _ _ (kat_yes (kat_nil h)))]
      ·rwa[kat_one _ _ (HT.lt_tupInts p3 p4 (eh r3) (eh r4) () h)]
theorem uK{b:Bool}(I:Inv X pins σ H s){key:V->Int×List Int}:∀{ys:List V} {us:List Value},(∀y∈ys,PrK b X.K H y (key y))->Fw ys us->∃fs:List Value,KatTups s.heap us fs/\fs.length=us.length/\∀v∈fs,Looks (model X.prog X.w) s.heap (typeOf v) (.type (if b=true then "int" else "tuple"))
 |[],_,_,h=>by
  cases h;rwa[[],.nil,1,λ_ h=>by cases h]
 |y::ys,_,hk,.cons r rs=>by
  let#[fs,t1,t2,t3]:=uK I (λy h=>hk y (GG _ h)) rs
  have h0:=hk y (KQ ..);cases b with
  |true=>
   let#[a,m,1,Y,_]:=h0;cases r;let#[_,its,U,o,ho,Z,n,hd]:=(show FC X.prog X.w H s.heap a (.tup _) from I.hok a _ Y)
   cases U with
   |cons q1 U=>
    let#[t,1]:=q1;erw[.int _ t::fs,.cons ho Z hd rfl t1,by simp[t2],λv O=>?_]
    rcases GH.mp O with rfl|O
    ·rwa[Looks.of_pure rfl]
    ·rwa[t3 v O]
  |false=>
   let#[a,t,v,1,Y,ht,_]:=h0;cases r;let#[_,its,U,o,ho,Z,n,hd]:=(show FC X.prog X.w H s.heap a (.tup _) from I.hok a _ Y)
   let#[a8,_,#[o2,a7,a6,_],_]:=I.tuple ht;cases U with
   |cons q1 U=>
    cases q1;erw[.ref t::fs,.cons ho Z hd rfl t1,by simp[t2],λv O=>?_]
    rcases GH.mp O with rfl|O
    ·have z:Looks (model X.prog X.w) s.heap (typeOf (.ref t)) o2.cls:=(Looks.ld a7).andThen .now;rw[a6] at z;rwa[z]
    ·rwa[t3 v O]
end
section
theorem wB(a:Addr):Builtin.«list.sort» #[[.ref a],[]]=Builtin.«list.sort» #[[.ref a],[(Str.ofString "reverse",.bool false)]]:=by
 rw[list_sort_plain,list_sort_rev]
 rfl
def BA(r:Bool)(key:V->Int×List Int)(x y:V):Prop:=klt (key (if r=true then y else x)) (key (if r=true then x else y))=true
theorem kO{b r:Bool}{P:PySem.Fin->Shared->Prop}{key:V->Int×List Int}(hu:A.units+64<cLine)(I:Inv X pins σ H s)(h1:H0 D=none)(sm:Fu H0 H)(hD:H D=some (.lst xs))(h64:xs.length<64)(nd:(xs.map key).Nodup)(hk:∀y∈xs,PrK b X.K H0 y (key y))(h:∀H2 s2 zs,Inv X pins σ H2 s2->Fu H0 H2->H2 D=some (.lst zs)->zs.Perm xs->zs.Pairwise (BA r key)->P (.done (.ret .none)) s2):
  wpAny (model X.prog X.w) A (Builtin.«list.sort» #[[.ref D],[(Str.ofString "reverse",.bool r)]]) P E s:=by
 let#[lz,its,n,rv,lk,e]:=I.lstM hD;have lx:=rv.length;have q:=OS e (λ_=>(List.toArray []))
 have I1:Inv X pins σ (upd H D (.ext λh=>h.get? D=some (seqObj "list" (List.toArray []) (if (((List.toArray []):Array Value).size==its.toArray.size)=true then n else n+1)))) { s with heap:=s.heap.update D (Obj.mapSeq λ_=>(List.toArray [])),toks:=s.toks }:=
  I.write (x:=D) (e:=D) (by rw[hD];rwa[trivial]) (.inl rfl) (λb' u hb hu=>(LP _ _ (Ne.symm hb)).trans hu) #[_,q] #[q,#[_,q],λ_ _ p k=>k _ p]
 have I2:=I1.laid (t':=s.toks) (o:=.tup xs) (λb ob z=>h_ { cls:=.type "tuple",data:=.seq its.toArray } z) (ge _) #[by rw[Gr];lia,its,rv,IsTup.new _ _]
 have I3:=I2.lnew (t':=s.toks) (ys:=[]) (its:=[]) .nil (Gw _);have nT:=I1.fresh;have nK:=I2.fresh;generalize hX:(HO.ext λh=>h.get? D=some (seqObj "list" (List.toArray []) (if (((List.toArray []):Array Value).size==its.toArray.size)=true then n else n+1)))=oD at I1 I2 I3 nT nK
 have a7:upd H D oD D=some oD:=ae;have s1:Fu H0 (upd H D oD):=sm.put h1;have a8:=Fu.new (o:=.tup xs) nT _ _ a7;have s2:=s1.trans (Fu.new (o:=.tup xs) nT);have O:=Fu.new (o:=.lst []) nK _ _ a8;have s3:=s2.trans (Fu.new (o:=.lst []) nK);rw[list_sort_rev];erw[c_ (listItems_at e rfl ?_)];erw[c_ (OT e rfl ?_ (by rw[GR,Gr];lia) (Gw _))]
 erw[c_ (seqEpoch_at q rfl ?_)];erw[c_ (wpAny_newTuple ?_ (by show its.length<=_;rw[Gr];lia))]
 erw[c_ (OU ?_ (Gw _))];erw[Ll ?_];dsimp only;refine(?_:∀(S:Shared) (Y:Hp),Inv X pins σ Y S->Y D=some oD->Fu H0 Y->wpAny (model X.prog X.w) A _ P E S) _ _ I3 O s3
 clear I3 O s3;intro S Y I4 O s3;clear I1 I2 nT nK a7 a8 s1 s2;have step:∀t:Sem PySem.Fin,wpAny (model X.prog X.w) A t P E S->wpAny (model X.prog X.w) A (if r=true then(do let _ <- rule "list.sort.reverse";t) else t) P E S:=by
  intro t ht
  split
  ·rwa[c_ (PF ht)]
  ·rwa[ht]
 erw[step _ ?_];have eD:S.heap.get? D=some (seqObj "list" (List.toArray []) (if (((List.toArray []):Array Value).size==its.toArray.size)=true then n else n+1)):=by
  subst hX;exact(show FC X.prog X.w _ _ D (.ext _) from I4.hok D _ O).1
 have fin:∀(out:List Value) (zs:List V),Fw zs out->zs.Perm xs->zs.Pairwise (BA r key)->P (.done (.ret .none)) { S with heap:=S.heap.update D (Obj.mapSeq λ_=>List.toArray out) }:=by
  intro out zs rz pm pw;have ax:=pm.length_eq;have q:=OS eD (λ_=>List.toArray out)
  have I5:Inv X pins σ (upd Y D (.lst zs)) { S with heap:=S.heap.update D (Obj.mapSeq λ_=>List.toArray out),toks:=S.toks }:=
   I4.write (x:=D) (e:=D) (by rw[O];subst hX;rwa[trivial]) (.inl rfl) (λb' u hb hu=>(LP _ _ (Ne.symm hb)).trans hu) #[_,q] #[0121,by rw[ax,Gr];lia,out,_,rz,q]
  rwa[h _ _ zs I5 (s3.put h1) ae pm pw]
 by_cases h2:its.toArray.size<2
 ·rw[u_ h2,u_ h2];erw[c_ (i_ ?_)];rw[StateT.run_pure];erw[c_ (i_ ?_)];dsimp only;rw[kat_pairs r rfl];have a9:(arrOf (SortSt.mk' general' ((List.toArray (katRev r its)).zip (List.toArray (katRev r its))) (List.toArray []) 7 none)).map (·.2)=List.toArray (katRev r its):=by
   show Array.map (·.2) ((List.toArray (katRev r its)).zip (List.toArray (katRev r its)))=_;apply Array.toList_inj.mp;rw[Array.toList_map,ksk_zip];rwa[List.map_snd_zip (ge _)]
  rw[a9,kat_outs,show katRev r (katRev r its)=its by cases r<;>simp[katRev]]
  erw[c_ (seqEpoch_at eD rfl ?_)];erw[c_ (OT eD rfl ?_ (Gw _) (by rw[GR,Gr];lia))]
  simp only[bne_self_eq_false,LW,On];erw[i_ (fin its xs rv (.refl _) ?_)];rw[GR] at h2
  match xs,(():xs.length<2) with
  |[],_=>rwa[.nil]
  |[x],_=>rwa[pairwise_singleton _ _]
 ·rw[t_ h2,t_ h2];rw[GR] at h2;have Z:∀y∈xs,PrK b X.K Y y (key y):=λy hy=>(hk y hy).same s3
  let#[fs,t1,t2,t3]:=uK I4 Z rv;erw[c_ (kat_kind (T:=.type (if b=true then "int" else "tuple")) t1 () t3 (by cases b<;>decide) ?_)]
  rw[show(Value.type (if b=true then "int" else "tuple") != Value.type "tuple")=b by cases b<;>decide,kat_pairs r rfl]
  have lr:∀{α:Type} (l:List α),(katRev r l).length=l.length:=λl=>kat_len r l
  have mr:(katRev r xs).map key=katRev r (xs.map key):=by cases r<;>simp[katRev,map_reverse]
  have a':((katRev r xs).map key).Nodup:=by
   rw[mr];cases r
   ·rwa[nd]
   ·exact(OK _).nodup_iff.mpr nd
  have rr:Fw (katRev r xs) (katRev r its):=by
   cases r
   ·rwa[rv]
   ·rwa[rv.reverse]
  have ad:∀y∈katRev r xs,PrK b X.K Y y (key y):=by
   cases r
   ·rwa[Z]
   ·rwa[λy hy=>Z y (List.mem_reverse.mp hy)]
  have pr:(katRev r xs).Perm xs:=by
   cases r
   ·rwa[.refl _]
   ·rwa[OK _]
  have b3:(katRev r xs).length=xs.length:=lr xs;have b2:(katRev r its).length=its.length:=lr its;have bk:∀(w:List V),w.reverse.Pairwise (λx y=>klt (key y) (key x)=true)->(katRev r w).Pairwise (BA r key):=by
   intro w hw;cases r
   ·rwa[List.pairwise_reverse.mp hw]
   ·rwa[hw]
  have b0:∀(w:List V),(katRev r w).Perm w:=by
   intro w;cases r
   ·rwa[.refl _]
   ·rwa[OK _]
  have vw:∀(w:List V) (o:List Value),Fw w o->Fw (katRev r w) (katRev r o):=by
   intro w o hv;cases r
   ·rwa[hv]
   ·rwa[hv.reverse]
  generalize hys:katRev r xs=ys at *;generalize hus:katRev r its=us at *;have ac:=uD a';rw[k_] at ac;let#[hp,hs]:=uM ac ()
  erw[c_ (LF (kat_run (vs:=us) (ks:=us) (G:=λp s'=>p=ev (kAt (ys.map key)) (kas_sort ys.length)/\s'=S)
   (Q:=λU s'=>s'=S/\failedOf U=none/\arrOf U=(ev (kAt (ys.map key)) (kas_sort ys.length)).map (kas_item ((List.toArray us).zip (List.toArray us))))
   rfl () () (λp U s' a1 a2 a3 a4=>#[a4.2,a3,by rw[<- a4.1];rwa[a2]]) ?_) ?_ λ_ _ x=>x)]
  ·rw[show us.length=ys.length by lia]
   erw[xz (c:=kAt (ys.map key)) (λi j C hi hj hC=>?_) (qm ()) #[1,1]]
   show wpAny _ _ (keyLt' _ (us.getD i Value.none) (us.getD j Value.none)) C _ S;have at_:∀i,(hi:i<ys.length)->∃u,us.getD i Value.none=u/\Fy ys[i] u/\PrK b X.K Y ys[i] ((ys.map key).getD i (0,[])):=λi hi=>by
    let#[u,eu,b1]:=rr.get (e_ hi);erw[u,?_,b1,?_]
    ·rw[Gc,eu]
     rfl
    ·rw[Gc,Ga,e_ hi];rwa[ad _ (PR hi)]
   let#[u1,e1,r1,k1]:=at_ i hi;let#[u2,e2,r2,k2]:=at_ j hj;rw[e1,e2];erw[Fl hu I4 k1 k2 (λz=>?_) r1 r2 hC]
   rw[gq (by rw[k_];rwa[hi]),gq (by rw[k_];rwa[hj])] at z
   have:=(getElem_inj a').mp z;subst this
   rfl
  ·rintro⟨⟨⟩,U⟩ s' ⟨es,hf,har⟩;dsimp only at es hf har ⊢;subst es;have e3:∀{α:Type} (p:Array Nat) (l:List α) (d:α),(p.toList.map λi=>l.getD i d)=jS p l.reverse d:=by
    intro α p l d;unfold jS;rw[reverse_reverse]
   have ly:ys.length=ys.reverse.length:=(K_ ..).symm;have a6:Pm ys.reverse.length (ev (kAt (ys.map key)) (kas_sort ys.length)):=by rw[<- ly];rwa[hp]
   have au:So (kAt (ys.reverse.map key).reverse) (ev (kAt (ys.map key)) (kas_sort ys.length)) ys.reverse.length:=by
    rw[map_reverse,reverse_reverse,<- ly];rwa[hs]
   have o1:=nH (d:=V.non) a6;have o2:=mG a6 rr.reverse;have o3:=mE a6 au;rw[kat_snds rfl har,e3,kat_outs];generalize jS (ev (kAt (ys.map key)) (kas_sort ys.length)) ys.reverse V.non=w at o1 o2 o3;generalize jS (ev (kAt (ys.map key)) (kas_sort ys.length)) us.reverse Value.none=o at o2;have hw:w.Perm xs:=(OK w).symm.trans (o1.trans ((OK ys).trans pr));have lo:o.length=xs.length:=by rw[<- o2.length];rwa[hw.length_eq]
   erw[c_ (seqEpoch_at eD rfl ?_)];erw[c_ (OT eD rfl ?_ (Gw _) (by rw[GR,kat_len,Gr];lia))]
   rw[hf];simp only[bne_self_eq_false,LW,On];rwa[i_ (fin _ _ (vw w o o2) ((b0 w).trans hw) (bk w o3))]
end
section
def SrtB(b r:Bool)(K:Frag)(H1:Hp)(Q:VK)(xs:List V):Prop:=xs.length<64/\∃key:V->Int×List Int,(xs.map key).Nodup/\(∀y∈xs,PrK b K H1 y (key y))/\
 ∀D H2 zs,H1 D=none->Fu H1 H2->H2 D=some (.lst zs)->zs.Perm xs->zs.Pairwise (BA r key)->Q (.ref D) H2
def wI(b r:Bool)(K:Frag):List V->Hp->VK->Prop:=λvs H Q=>∃l xs,vs=[.ref l]/\SqL K H l xs/\SrtB b r K H Q xs
theorem rN{b:Bool}(hc:X.calm=true)(hu:X.A.in1.in1.units+64<cLine):cq X (.builtin "sorted") (wI b false X.K):=by
 intro pins s σ H xs us Q I r h;let#[l,xs,1,hl,U,key,nd,hk,q]:=h;let#[u,1,rx]:=cJ r;erw[Calls.call_function_entry kind_sorted plain_sorted entry_sorted (args_sorted1 _) ?_];unfold Builtin.«sorted»;erw[c_ (m:=checkCount "sorted" 1 1 _) (i_ ?_)];erw[c_ (fN (A:=X.A.in1) (B:=λys=>ys=xs) (I.ok.hd hc) I rx (.inl #[22,l,xs,1,hl,1]) λh' tk its ys e rv Y Z=>?_)]
 subst e;have O:Inv X pins σ H { s with heap:=h',toks:=tk }:=I.kept Y
 have I2:=O.lnew (t':=tk) rv Z;erw[c_ (OU ?_ (by rw[<- rv.length];rwa[Z]))]
 erw[c_ (Ll (Lh slot_list_sort #[_,z_ _ rfl,1] entry_list_sort ?_ (args_list_sort _)))];rw[wB];erw[kO (b:=b) (r:=false) (key:=key) hu I2 O.fresh (Fu.new O.fresh) ae U nd hk λH2 s2 zs I3 sm q' pm pw=>#[0,i_ #[62,0,.ref _,H2,I3,1,q _ H2 zs O.fresh sm q' pm pw]]]
theorem wK{p:Pos}(T:Blt X.mg)(hr:FD 2 X.A)(ha:PE X e te)(hK:X.K=K:=by rfl)(hc:X.calm=true:=by rfl)(hg:Gl X "sorted":=by rfl)(hs:starEach [e] X.env=[(false,eval e X.env)]:=by rfl):
  PE X (.Call (.Name "sorted" p) [e] [] pos) (tCB (wI true false K) (bR te cI)):=by
 subst hK;rwa[bP (rN hc hr.in1.in1.units) hg T.sorted boot_sorted (aa ha ag hs) #[] #[] hs]
def tSrt(b:Bool)(K:Frag)(te:TE):TE:=λσ H Q=>te σ H λx H1=>wI b true K [x] H1 Q
theorem vA{p k2 kp2:Pos}(T:Blt X.mg)(hr:FD 2 X.A)(he:PE X e te)(hK:X.K=K:=by rfl)(hg:Gl X "sorted":=by rfl)(hs:starEach [e] X.env=[(false,eval e X.env)]:=by rfl):
  PE X (.Call (.Name "sorted" p) [e] [#[some "reverse",.Constant (.bool true) j kp2,k2]] pos) (tSrt false K te):=by
 subst hK;intro pins s σ H Q I h;erw[LV (dM I hg T.sorted boot_sorted ?_)];erw[callWith_kw ?_ (by rw[hs];rfl) (by rw[hs];rfl)]
 erw[thn ((aa he ag hs) pos pins s σ H (λvs H1=>wI false true X.K vs H1 Q) I h) λus s1 ⟨vs,H1,I1,r1,q1⟩=>?_]
 let#[l,xs,1,hl,U,key,nd,hk,q]:=q1;let#[u,1,ru]:=r1.one;erw[thn ((jW gK sw) pos pins s1 σ H1 (λzs H2=>zs=[V.bl true]/\H2=H1) I1 #[1,1]) λws s2 ⟨zs,H2,I2,r2,e1,e2⟩=>?_]
 subst e1 e2;let#[w1,1,Z]:=r2.one;cases Z;erw[call_function_entry_kw kind_sorted plain_sorted entry_sorted (args_sorted_rev _ _) ?_];unfold Builtin.«sorted»;erw[c_ (m:=checkCount "sorted" 1 1 _) (i_ ?_)];erw[c_ (fN (A:=X.A.in1) (B:=λys=>ys=xs) hr.hd I2 ru (.inl #[22,l,xs,1,hl,1]) λh' tk its ys e rv Y hz=>?_)]
 subst e;have O:Inv X pins σ H2 { s2 with heap:=h',toks:=tk }:=I2.kept Y
 have I4:=O.lnew (t':=tk) rv hz;erw[c_ (OU ?_ (by rw[<- rv.length];rwa[hz]))]
 erw[c_ (Ll (wpAny_call_entry_kw slot_list_sort #[_,z_ _ rfl,1] entry_list_sort ?_ (args_list_sort_rev _ _)))];erw[kO (b:=false) (r:=true) (key:=key) hr.in1.in1.units I4 O.fresh (Fu.new O.fresh) ae U nd hk λH5 s5 zs I5 sm q' pm pw=>#[0,i_ #[62,0,.ref _,H5,I5,1,q _ H5 zs O.fresh sm q' pm pw]]]
end
section
def rF(r:Addr)(n:Nat):HO:=.ext λh=>∃t u v,IsRange h r 0 (n:Int) 1 t u v
def E8:List V->Hp->VK->Prop:=λxs H Q=>∃n:Nat,xs=[.int (n:Int)]/\∀r,H r=none->Q (.ref r) (upd H r (rF r n))
theorem zM:cq X (.type "range") E8:=by
 intro pins s σ H xs us Q I r h;let#[n,1,q]:=h;let#[u,1,O]:=cJ r;let#[t,1]:=O;erw[call_range_1 ?_];erw[22,.ref s.heap.objs.size,_,I.laid (t':=s.toks+1+1) (o:=rF s.heap.objs.size n) (λb u e=>h_ _ e) (ge _) ?_,1,q _ (I.hok.fresh (ge _))]
 rwa[#[30,_,_,_,IsRange.new ..],#[_,z_ _ rfl],λh1 h2 ⟨t,u,v,z⟩ k=>#[30,t,u,v,k _ z]]
def Cd:List V->Hp->VK->Prop:=λxs H Q=>∃(n:Nat) (r:Addr),xs=[.ref r]/\n<=1000/\H r=some (rF r n)/\∀l,H l=none->Q (.ref l) (upd H l (.lst ((List.range n).map λi:Nat=>V.int (i:Int))))
theorem rH:∀{l:List Value} {f:Nat->Int} ,(∀(j:Nat) (v:Value),l[j]? = some v->∃t,v=Value.int (f j) t)->Fw ((List.range l.length).map λi=>V.int (f i)) l:=by
 intro l
 induction l with
 |nil=>intro f _;rwa[.nil]
 |cons a l ih=>
  intro f h;rw[Mf,List.range_succ_eq_map,K1,MB];erw[.cons (h 0 a rfl) ?_];rwa[ih (f:=λj=>f (j+1)) λj v e=>h (j+1) v e]
theorem vm(hc:X.calm=true):cq X (.type "list") Cd:=by
 intro pins s σ H xs us Q I rr h;let#[n,r,1,hn,hr,q]:=h;let#[u,1,rx]:=cJ rr;cases rx;let#[#[t,u,v,Z],_]:=id (show FC X.prog X.w H s.heap r (rF r n) from I.hok r _ hr)
 erw[call_list_range (n:=n) (I.ok.hd hc) Z (small_one () () () ()) (by rw[rangeSize_one];split<;>lia) () λh' tk acc c hk Y U=>?_]
 have l1:acc.toList.length=n:=by rw[Lj];rwa[U.1]
 have rv:Fw ((List.range n).map λi:Nat=>V.int (i:Int)) acc.toList:=by
  have:=rH (l:=acc.toList) (f:=λj=>(j:Int)) λj v e=>by
   let#[t,e2]:=U.2 j v (by rw[<- e,Lv])
   rwa[t,by rw[e2,Pr,Oy]]
  rw[l1] at this;rwa[this]
 have O:h'.get? s.heap.objs.size=some { cls:=.type "list",dict:=none,data:=.seq acc.toList.toArray c,slots:=(List.toArray []) }:=by
  rw[Array.toArray_toList];rwa[Y]
 rwa[22,.ref s.heap.objs.size,_,I.laid (t':=tk) hk (ge _) (show FC X.prog X.w _ h' _ (.lst _) from#[0121,by rw[k_,Ng,Gr];lia,acc.toList,c,rv,O]),1,q _ (I.hok.fresh (ge _))]
theorem wM{a:Expr}{p pos2:Pos}(T:Blt X.mg)(ha:PE X a te)(hc:X.calm=true:=by rfl)(hg:Gl X "list":=by rfl)(hg2:Gl X "range":=by rfl)(hs:starEach [a] X.env=[(false,eval a X.env)]:=by rfl)(hs2:starEach [.Call (.Name "range" p2) [a] [] pos2] X.env=[(false,eval (.Call (.Name "range" p2) [a] [] pos2) X.env)]:=by rfl):
  PE X (.Call (.Name "list" p) [.Call (.Name "range" p2) [a] [] pos2] [] pos) (tCB Cd (bR (tCB E8 (bR te cI)) cI)):=
 ci (vm hc) hg T.list kG (aa (ci zM hg2 T.range boot_range (aa ha ag hs) #[] #[] hs) ag hs2) #[] #[] hs2
def iOr(a b:TI):TI:=λσ H R=>a σ H R\/b σ H R
theorem DY(K:Frag)(hK:X.K=K)(hl:PE X e te):PI X tg e (iOr (C1 K te) (yP K te)):=by
 intro pins s σ H R I h
 rcases h with h|h
 ·rwa[A4 K hK hl pins s σ H R I h]
 ·rwa[aL K hK hl pins s σ H R I h]
end
structure ClsIn (K:Frag) (n:Str) (C:Addr):Prop where
 a:nsIn K mainGlobals n=some (some (.ref C))
 pg:plainGet K C Str.empty=true
 hd:hasDictIn K C=true
 po:PySem.W.plainOver K C=true
 sa:findIn K (.ref C) "__setattr__"=some (some (.builtin "object.__setattr__"))
 ms:makesIn K C=true
 kc:keepIn K (.ref C)=true
theorem ClsIn.cl{n:Str}(e:ClsIn K n C):Cls K C:=#[e.pg,e.hd,e.po,e.sa]
def MethIn(K:Frag)(C:Addr)(m q:Str)(st:Stmt):Prop:=∃f fd,qg K C m f/\Fun K m q st f fd
theorem MethIn.mk{m q:Str}{kV ct:Value}(a:findIn K (.ref C) m=some (some (.ref f)))(i:isFn K (.ref f)=true)(l:K.lookup f=some #[oc,od,.func (fnOf m q (bv st) (aW st) (am st) .none kV doc pm an cdv ct),osl])(c:codeIn K cdv q=true)(k:keepIn K (.ref f)=true):MethIn K C m q st:=#[21,f,_,#[a,i,k],zu l c k]
def BindsM(m q:Str)(st:Stmt)(ps:List Str):Prop:=∀(kV doc pm:Value) (an:Option Addr) (cdv ct:Value),AllA ps.length λus=>bindArgs (fnOf m q (bv st) (aW st) (am st) .none kV doc pm an cdv ct) #[us,[]]=pure (ps.zip us)
section
variable {base:Heap}
theorem BindsM.b{m q:Str}(h:BindsM m q st ps){fd:FuncData}(F:Fun K m q st f fd):FT K fd ps []:=F.binds λa b c d e g=>(h a b c d e g).all
theorem MethIn.b{m q:Str}{k:Nat}(d:MethIn K C m q st)(cl:Cls K C)(o:∀{f fd},Fun K m q st f fd->`aC CX0 k f fd ps sp)(b:BindsM m q st ps:=by(repeat intro _);rfl):`MtB k C m sp:=
 let ⟨f,fd,M,F⟩:=d
 #[#[32,f,fd,ps,o F,M,b.b F],cl]
theorem MethIn.i{q:Str}{k:Nat}(d:MethIn K C "__init__" q st)(e:ClsIn K x C)(A:mg x=some (.ref C))(o:∀{f fd},Fun K "__init__" q st f fd->`aC CX0 k f fd ps sp)(b:BindsM "__init__" q st ps:=by(repeat intro _);rfl):`MkB k C x sp:=
 let ⟨f,fd,M,F⟩:=d
 #[#[32,f,fd,ps,o F,#[e.ms,M.at_,M.fn,e.kc],b.b F],A]
theorem MethIn.ix{q:Str}{k:Nat}(d:MethIn K C "__init__" q st)(e:ClsIn K x C)(A:mg x=some (.ref C))(o:∀{f fd},Fun K "__init__" q st f fd->`aC (CXE P w) k f fd ps sp)(b:BindsM "__init__" q st ps:=by(repeat intro _);rfl):`Bm k C x sp:=
 let ⟨f,fd,M,F⟩:=d
 #[#[32,f,fd,ps,o F,#[e.ms,M.at_,M.fn,e.kc],b.b F],A]
end
section
theorem wH(hc:X.calm=true)(t:Bool):cq X (.builtin "any") (λxs H Q=>∃(p:Addr) (bs:List Bool),xs=[.ref p]/\SqV t X.K H p (bs.map V.bl)/\Q (.bl (bs.any id)) H):=by
 intro pins s σ H xs us Q I rv h;let#[p,bs,1,q,hq]:=h;let#[u,1,ru]:=cJ rv;cases ru;let#[its,rb,po,z]:=I.seqV q;have hh:X.A.in1.handled=none:=I.ok.hd hc;erw[call_any_walk (gz po λo hi=>?_)]
 have Z:p<s.heap.objs.size:=by let#[ob,e]:=po.obj;rwa[GP e]
 erw[4034,s.heap.objs.size,_,_,_,_,_,λi=>bs.getD i false,1,Walks.sq t hh s.heap.objs.size p (GA Z) its.toArray,#[hi,po.at λo' e=>h_ _ e],?_,λh' tk hk=>?_]
 ·intro i v s' Q' E' hv hQ;have Y:its[i]? = some v:=by simpa using hv
  have O:=rb.length;have a6:i<its.length:=(q_.mp Y).1;rw[k_] at O;have U:(bs.map V.bl)[i]? = some (.bl (bs.getD i false)):=by
   rw[Ga,Gc,e_ ()]
   rfl
  let#[u,hu,ru]:=rb.get U;rw[Y] at hu;cases hu;cases (show v=Value.bool _ from ru)
  rwa[MA hQ]
 ·have I1:Inv X pins σ H { s with heap:=s.heap.push o,toks:=s.toks }:=I.kept λb u e=>h_ _ e
  have fp:FJ X pins H s.heap.objs.size:=I.fpOk (ge _) (I.hok.fresh (ge _));have I2:Inv X pins σ H { s with heap:=h',toks:=tk }:=by
   have:=I1.turnedN (fp:=[s.heap.objs.size]) (h':=h') (t':=tk) (λb ob U e=>hk b ob U e) (λb U=>by have e:b=s.heap.objs.size:=(by simpa using U);subst e;rwa[fp])
   rwa[this]
  erw[22,.bl (bs.any id),H,I2,?_,hq];show Value.bool _=Value.bool _;congr 1;have O:=rb.length;rw[k_] at O;have hsz:its.toArray.size=bs.length:=by simp[O]
  rw[hsz];rw[OP];simp only[List.any_eq_true,ME]
  constructor
  ·rintro⟨i,hi,h⟩;erw[bs[i],PR hi,?_];simpa[Gc,e_ hi] using h
  ·rintro⟨b,U,h⟩;let#[i,hi,1]:=getElem_of_mem U;erw[i,hi,?_];simpa[Gc,e_ hi] using h
def rAny(b:Bool)(K:Frag):List V->Hp->VK->Prop:=λxs H Q=>∃(p:Addr) (bs:List Bool),xs=[.ref p]/\SqV b K H p (bs.map V.bl)/\Q (.bl (bs.any id)) H
theorem AW{p:Pos}(na:X.mg "any" = none)(ha:PE X e te)(b:Bool)(hK:X.K=K:=by rfl)(hc:X.calm=true:=by rfl)(hg:Gl X "any":=by rfl)(hs:starEach [e] X.env=[(false,eval e X.env)]:=by rfl):PE X (.Call (.Name "any" p) [e] [] pos) (tCB (rAny b K) (bR te cI)):=by
 subst hK;rwa[bP (wH hc b) hg na boot_any (aa ha ag hs) #[] #[] hs]
end
end L2
set_option exponentiation.threshold 9000
namespace K
open PySem L2 PyProof.Rows
variable {P:Program}{w:World}{K:Frag}{mg:Str->Option Value}{base:Heap}
variable {P:Program}{w:World}{K:Frag}{mg:Str->Option Value}{base h:Heap}{j lo:Int}{xs vs:List V}{g:TG}{D:gC}{σ rest:L2.St}{H H' H0:Hp}{n L z B:Nat}{t1 t2 tk:Tok}{f d CF GZ CG Hb r c C CB CFr a5 CD c0 P0 Hz fa:Addr}{fd:FuncData}{α β:Type}{ns es ls:List Int}{v:V}{av:List Addr}{src:List (Option Nat)}{Q R:VK}{J:It}{te ta:TE}{tt:TT}{ld:List (Nat×List Int)}{kn:List (Key×V)}{tps:Array Value}
def top(i:Nat):Stmt:=PySem.Challenge.pw_relationladder_k19_rests_by_parts.main.body.getD i (.Pass #[(0),(0),(0),(0)])
abbrev cx:Stmt:=inClass (top 10) 0
abbrev aJ:Stmt:=inClass (top 10) 2
abbrev cR:Stmt:=inClass (top 11) 0
abbrev eU:Stmt:=inClass (top 11) 1
abbrev bf:Stmt:=inClass (top 11) 3
abbrev cU:Stmt:=top 12
abbrev h8:Stmt:=top 13
abbrev cf:Stmt:=top 14
abbrev je:Stmt:=top 15
abbrev l8:Stmt:=top 22
abbrev gQ:Stmt:=top 23
abbrev eO:Stmt:=top 24
abbrev cW:Stmt:=inClass (top 25) 0
abbrev eW:Stmt:=inClass (top 25) 1
abbrev eN:Stmt:=inClass (top 25) 2
abbrev bY:Stmt:=inClass (top 25) 3
abbrev fQ:Stmt:=inClass (top 25) 4
abbrev eV:Stmt:=inClass (top 25) 5
abbrev bI:Stmt:=inClass (top 25) 6
abbrev dn:Stmt:=inClass (top 25) 7
abbrev eB:Stmt:=top 26
abbrev cV:Stmt:=top 28
abbrev cQ:Stmt:=top 29
abbrev qV:Stmt:=top 30
abbrev gm:Stmt:=top 31
abbrev cw:Stmt:=top 32
abbrev lX:Stmt:=top 33
abbrev cO:Stmt:=inClass (top 36) 0
abbrev dA:Stmt:=inClass (top 36) 2
abbrev du:Stmt:=inClass (top 36) 3
abbrev di:Stmt:=inClass (top 36) 5
abbrev dZ:Stmt:=inClass (top 36) 6
abbrev bZ:Stmt:=inClass (top 37) 0
abbrev cB:Stmt:=inClass (top 37) 1
abbrev bO:Stmt:=inClass (top 37) 2
abbrev bX:Stmt:=inClass (top 37) 3
abbrev cE:Stmt:=inClass (top 37) 4
abbrev eP:Stmt:=top 39
abbrev sI:Stmt:=top 40
abbrev rL:Stmt:=top 42
abbrev eJ:Stmt:=top 43
abbrev jo:Stmt:=top 44
abbrev dQ:Stmt:=top 45
abbrev dw:Stmt:=inClass (top 48) 0
abbrev eC:Stmt:=inClass (top 48) 1
abbrev dW:Stmt:=inClass (top 48) 2
abbrev f7:Stmt:=top 50
abbrev gN:Stmt:=top 51
abbrev fZ:Stmt:=top 52
abbrev fB:Stmt:=top 53
abbrev eT:Stmt:=top 54
abbrev gY:Stmt:=top 55
abbrev dj:Stmt:=top 56
abbrev fw:Stmt:=top 57
abbrev dU:Stmt:=top 58
abbrev fK:Stmt:=top 59
abbrev fG:Stmt:=top 60
abbrev eS:Stmt:=top 61
abbrev f8:Stmt:=top 62
abbrev eQ:Stmt:=top 63
abbrev dO:Stmt:=top 64
abbrev gW:Stmt:=top 65
abbrev gX:Stmt:=top 66
abbrev cM:Stmt:=top 67
abbrev fH:Stmt:=top 68
abbrev dY:Stmt:=top 69
abbrev eK:Stmt:=top 70
abbrev gk:Stmt:=top 71
abbrev fj:Stmt:=top 72
abbrev fT:Stmt:=top 73
abbrev cy:Stmt:=top 74
abbrev ce:Stmt:=top 75
abbrev hW:Stmt:=top 76
abbrev xv:Stmt:=top 77
theorem Fh:(["_law_part", "_law_number_here"]:List Str).Nodup:=by decide +kernel
theorem nd_1:(["_law_product_here", "_law_come", "_law_prime_here"]:List Str).Nodup:=by decide +kernel
def CDivA(_ j:Int):Prop:=j≠0/\j.natAbs<2^6000
theorem CDivA.ok{i:Int}(h:CDivA i j):Builtin.divisionGoesByPylong i j=false:=by
 erw[PyProof.noPylong_of_log2 ?_]
 by_cases h0:j.natAbs=0
 ·rw[h0];decide +kernel
 ·have O:j.natAbs.log2<6000:=(Nat.log2_lt h0).mpr h.2;lia
theorem bM{X:Cx}:OpR X (binaryOp .FloorDiv) (rI CDivA λi j=>.int (i.fdiv j)):=opI λ_ _ _ _ _ _ _ O q=>floordiv_int O.1 q (.inl O.ok)
theorem qw{i:Int}(hi:i.natAbs<2^6000)(hj:j.natAbs<2^6000):IntMulOk i j:=by
 have O:∀{k:Int},k.natAbs<2^6000->Builtin.Int.intBits k<=6000:=λ{k} h=>by
  unfold Builtin.Int.intBits
  split
  ·lia
  ·rename_i h0;have U:k.natAbs≠0:=by intro z;apply h0;simp;lia
   have:=(Nat.log2_lt U).mpr h;lia
 have h1:=O hi;have h2:=O hj;unfold IntMulOk;have h3:Builtin.Int.intTooBig ((Builtin.Int.intBits i:Int)+Builtin.Int.intBits j)=false:=by
  unfold Builtin.Int.intTooBig;rw[decide_eq_false_iff_not];have:bitsLine=2^27:=rfl;rw[this];lia
 rw[h3];simp
theorem cS{a:Addr}{tb:TS}(Pv:Nat->L2.St->Hp->Prop)(h0:Pv 0 σ H)(hl:∀i σ H,i<=xs.length->Pv i σ H->SqL K H a xs)(hs:∀i x σ H,xs[i]? = some x->Pv i σ H->∀N B:L2.St->Hp->Prop,(∀σ' H',Pv (i+1) σ' H'->N σ' H')->g x σ H λσ2 H2=>tb { nx:=N,ct:=N,bk:=B,rt:=D.rt } σ2 H2)(hd:∀σ H,Pv xs.length σ H->D.nx σ H):
  ∃W:Nat->Nat->L2.St->Hp->Prop,(∃m,W 0 m σ H)/\∀i m σ H,W i m σ H->
   ((Itl K a).stop i H/\D.nx σ H)\/((Itl K a).go i H/\∃N:L2.St->Hp->Prop,(∀σ' H',N σ' H'->∃O,O<m/\W (i+1) O σ' H')/\∀x H',(Itl K a).yld i H x H'->g x σ H' λσ2 H2=>tb { D with nx:=N,ct:=N,bk:=D.nx } σ2 H2):=
 eA Pv h0 hl (λi x σ H e p=>hs i x σ H e p _ _ λ_ _ z=>z) hd
theorem dX{tb:TS}(Pv:Nat->L2.St->Hp->Prop)(h0:Pv 0 σ H)(hs:∀i σ H,i<n->Pv i σ H->∀N B:L2.St->Hp->Prop,(∀σ' H',Pv (i+1) σ' H'->N σ' H')->g (.int (lo+i)) σ H λσ2 H2=>tb { nx:=N,ct:=N,bk:=B,rt:=D.rt } σ2 H2)(hd:∀σ H,Pv n σ H->D.nx σ H):
  ∃W:Nat->Nat->L2.St->Hp->Prop,(∃m,W 0 m σ H)/\∀i m σ H,W i m σ H->
   ((Itr lo n).stop i H/\D.nx σ H)\/((Itr lo n).go i H/\∃N:L2.St->Hp->Prop,(∀σ' H',N σ' H'->∃O,O<m/\W (i+1) O σ' H')/\∀x H',(Itr lo n).yld i H x H'->g x σ H' λσ2 H2=>tb { D with nx:=N,ct:=N,bk:=D.nx } σ2 H2):=
 mZ Pv h0 (λi σ H e p=>hs i σ H e p _ _ λ_ _ z=>z) hd
theorem xB{t1 t2:Bool}{a b:Addr}{ys:List V}{tb:TS}(Pv:Nat->L2.St->Hp->Prop)(h0:Pv 0 σ H)(hl:∀i σ H,i<=min xs.length ys.length->Pv i σ H->SqV t1 K H a xs/\SqV t2 K H b ys)(hs:∀(i:Nat) x y σ H p,xs[i]? = some x->ys[i]? = some y->Pv i σ H->H p=none->∀N B:L2.St->Hp->Prop,(∀σ' H',Pv (i+1) σ' H'->N σ' H')->g (.ref p) σ (upd H p (.tup [x,y])) λσ2 H2=>tb { nx:=N,ct:=N,bk:=B,rt:=D.rt } σ2 H2)(hd:∀σ H,Pv (min xs.length ys.length) σ H->D.nx σ H):
  ∃W:Nat->Nat->L2.St->Hp->Prop,(∃m,W 0 m σ H)/\∀i m σ H,W i m σ H->
   ((Itz t1 t2 K a b).stop i H/\D.nx σ H)\/((Itz t1 t2 K a b).go i H/\∃N:L2.St->Hp->Prop,(∀σ' H',N σ' H'->∃O,O<m/\W (i+1) O σ' H')/\∀x H',(Itz t1 t2 K a b).yld i H x H'->g x σ H' λσ2 H2=>tb { D with nx:=N,ct:=N,bk:=D.nx } σ2 H2):=
 AK Pv h0 hl (λi x y σ H p U e2 q n=>hs i x y σ H p U e2 q n _ _ λ_ _ z=>z) hd
theorem aM(h:0<=j)(h2:j<2^63):j.natAbs<2^6000:=by
 have h3:j.natAbs<2^63:=()
 rwa[GS h3 (Nat.pow_le_pow_right #[] #[])]
theorem ie{i:Int}(h:0<j)(h2:j<2^63):CDivA i j:=#[(),aM () h2]
theorem zG(ns:List Int){k:Int}(h0:0<=k)(h1:k<ns.length):∃z,atI (ns.map V.int) k=some (V.int z):=by
 let#[n,1]:=Int.eq_ofNat_of_zero_le h0;have O:n<ns.length:=()
 rwa[ns[n],bt (by rw[Ga,e_ O];rfl)]
def yn(K:Frag):Sp:=λvs H Q _=>∃(a:Addr) (ns:List Int) (k:Int),vs=[.ref a,.int k]/\SqL K H a (ns.map V.int)/\ns.length<=63/\0<=k/\k<=100/\∀r:Int,Q (.int r) H
def gM(a b:Int):Int:=(a*48271+7919*b*b+17)%2147483647
def FI(a b:Int)(k:Nat):Prop:=b=0\/(0<=a/\a<2147483647/\0<b/\b<=k)
def yh(K:Frag):Sp:=λvs H Q _=>∃(a:Addr) (ns:List Int) (k:Int),vs=[.ref a,.int k]/\SqL K H a (ns.map V.int)/\ns.length<=63/\0<=k/\k<=99/\
 ∀(p:Addr) (a b:Int),H p=none->FI a b 100->Q (.ref p) (upd H p (.lst [.int a,.int b]))
def eM:Sp:=λvs H Q _=>∃(p:Addr) (a b m:Int) (k:Nat),vs=[.ref p,.int m]/\H p=some (.lst [.int a,.int b])/\FI a b k/\k<=1000000/\0<m/\m.natAbs<2^6000/\
 ∀r a' b',0<=r->r<m->FI a' b' (k+1)->Q (.int r) (upd H p (.lst [.int a',.int b']))
theorem Go:Fv ["_law_script", "_law_k", "_law_seed", "_law_some"] ["_law_script", "_law_k"] (am f7):=.i
theorem Bp(F:Fun K "_law_cell" "_law_cell" f7 f fd)(T:Blt mg):`aC CX0 1 f fd ["_law_script", "_law_k"] (yn K):=by
 erw[F.o Go λ_ _ _ _ H _ Q _ hr h=>?_]
 ·let#[a,ns,k,1,U,hl,Y,a6,q]:=h;have a7:((ns.map V.int).length:Int)=ns.length:=by rw[k_]
  erw[_,(af (aT (az jA (pv 1) (bU K T (pv 0)) (aA _))
(aj (ar (aG (aF K rfl) (pv 0) (pv 1) (λ_ _=>rfl))))
aE)
(af (aq (i:=2) Go.nd rfl #[4] (ap bA (pv 1) ak))
(af (aT (az gL (bU K T (pv 0)) ak (aA _))
(aj (aq (i:=2) Go.nd rfl #[4] (ap aX (pv 2) (ap bC (aG (aF K rfl) (pv 0) (ap bC (pv 1) (bU K T (pv 0))) (λ_ _=>rfl)) ak))))
aE)
(af (aq (i:=3) Go.nd rfl #[4] (ap bC (ap bA (pv 2) ak) ak))
(aj (ar (ap bC (ap bM (ap bA (pv 3) (ap aX (ap aX (pv 3) (ap bA ak (pv 1))) ak)) ak) ak))))))),?_]
  erw[51222211,0,0,a,0,.inl U,2,0,?_];erw[cT (λh=>?_) (λh=>?_)]
  ·have h':k<ns.length:=by have:=A_ h;lia
   let#[z,Z]:=zG ns Y h';rwa[5144,0,0,a,_,2,U,Z,q _]
  ·erw[63,0,2,.inl #[(),()],?_]
   erw[622211,0,a,0,.inl U,2,0,?_];have fin:∀sd:Int,(0:Int)<=sd*48271%65537/\sd*48271%65537<65537:=λsd=>#[Lr _ #[],La _ #[]]
   erw[cT (λh=>?_) (λh=>?_)]
   ·have h':0<(ns.length:Int):=by have:=A_ h;lia
    let#[z,Z]:=zG ns (k:=k%((ns.map V.int).length:Int)) (Lr _ ()) (by have:=La k (b:=((ns.map V.int).length:Int)) ();lia)
    erw[51512223442322,0,0,0,0,a,0,.inl U,2,(by show(0:Int)<_;lia),a,_,2,U,Z,2,(by show(0:Int)<65537;decide),2,?_]
    have O:=fin (k*7919+z%65537);erw[6323,0,2,.inr #[#[],#[]],2,(by show(0:Int)<65537;decide),?_]
    rwa[51632222232323,0,0,0,2,.inl #[#[],#[]],2,2,2,.inl #[Int.lt_of_lt_of_le #[] O.1,Int.lt_of_lt_of_le O.2 #[]],2,ie #[] #[],2,(by show(0:Int)<65521;decide),q _]
   ·have O:=fin (k*7919);erw[6323,0,2,.inr #[#[],#[]],2,(by show(0:Int)<65537;decide),?_]
    rwa[51632222232323,0,0,0,2,.inl #[#[],#[]],2,2,2,.inl #[Int.lt_of_lt_of_le #[] O.1,Int.lt_of_lt_of_le O.2 #[]],2,ie #[] #[],2,(by show(0:Int)<65521;decide),q _]
theorem sc__law_bag:Fv ["_law_script", "_law_at", "_law_cell_here"] ["_law_script", "_law_at"] (am gN):=.i
theorem Dt(F:Fun K "_law_bag" "_law_bag" gN f fd)(IN:`FnB 1 "_law_cell" (yn K)):`aC CX0 2 f fd ["_law_script", "_law_at"] (yh K):=by
 erw[F.o sc__law_bag λ_ _ _ _ H _ Q _ hr h=>?_]
 ·let#[a,ns,k,1,Z,hl,U,a6,q]:=h;erw[_,(af (aq (i:=2) sc__law_bag.nd rfl #[4] (ay IN hr.m (aa (pv 0) (aa (pv 1) ag))))
(af (aT (PW.pt (qv (az Fn (pv 2) (ap hV ak ak) (aA _)) (kX (az nY (pv 2) (uO pF (ap hV ak ak)) (aA _)))))
(aj (ar (aQ (aa (pv 2) (aa ak ag)))))
aE)
(aj (ar (aQ (aa (ap bC (pv 2) ak) (aa (ap aX (pv 1) ak) ag))))))),?_]
  erw[5135,0,0,a,ns,k,1,Z,hl,U,(),λr=>?_]
  erw[632211,0,2,#[#[],#[],#[]],2,0,?_]
  have Y:(0:Int)<=r%2147483647/\r%2147483647<2147483647:=#[Lr _ #[],La _ #[]]
  erw[cT (λh=>?_) (λh=>?_)]
  ·erw[cZ ?_];rwa[0,by show 2<=sizeLine;decide,λp O=>q p r 0 O (.inl rfl)]
  ·erw[636211,0,2,#[#[],#[],#[]],0,2,0,?_]
   erw[cT (λh=>?_) (λh=>?_)]
   ·rwa[0,by show 2<=sizeLine;decide,λp O=>q p r 0 O (.inl rfl)]
   ·rwa[6363,0,2,(by show(0:Int)<2147483647;decide),0,2,by show 2<=sizeLine;decide,λp O=>q p _ _ O (.inr #[Y.1,Y.2,(),()])]
theorem sc__law_take:Fv ["_law_bag_here", "_law_many", "_law_some"] ["_law_bag_here", "_law_many"] (am fZ):=.i
theorem Bx(F:Fun K "_law_take" "_law_take" fZ f fd):`aC CX0 1 f fd ["_law_bag_here", "_law_many"] eM:=by
 erw[F.o sc__law_take λ_ _ _ _ H _ Q _ hr h=>?_]
 ·let#[p,a,b,m,k,1,U,hb,hk,Z,a8,q]:=h;erw[_,(af (aT (az dJ (aG (aF K rfl) (pv 0) ak (λ_ _=>rfl)) ak (aA _))
(af (aq (i:=2) sc__law_take.nd rfl #[4] (ap bC (aG (aF K rfl) (pv 0) ak (λ_ _=>rfl)) (pv 1)))
(af (fz (ap bM (aG (aF K rfl) (pv 0) ak (λ_ _=>rfl)) (pv 1)) (f6 (pv 0) ak da))
(aj (ar (pv 2)))))
aE)
(af (fz (ap bC (ap aX (ap aX (ap bA (aG (aF K rfl) (pv 0) ak (λ_ _=>rfl)) ak) (ap bA (ap bA ak (aG (aF K rfl) (pv 0) ak (λ_ _=>rfl))) (aG (aF K rfl) (pv 0) ak (λ_ _=>rfl)))) ak) ak) (f6 (pv 0) ak da))
(af (fz (ap aX (aG (aF K rfl) (pv 0) ak (λ_ _=>rfl)) ak) (f6 (pv 0) ak da))
(aj (ar (ap bC (ap bC (ap bA (aG (aF K rfl) (pv 0) ak (λ_ _=>rfl)) ak) ak) (pv 1))))))),?_]
  have O:∀(a b:Int) (H':Hp),H' p=some (.lst [.int a,.int b])->SqL K H' p [.int a,.int b]:=λa b H' h=>SqL.of h
  erw[8511,0,p,_,2,O a b H U,1,1,0,?_];erw[cT (λh=>?_) (λh=>?_)]
  ·have Y:b=0:=by simpa using h
   erw[8463,0,p,_,2,O a b H U,1,0,2,Z,?_];erw[846384,0,p,_,2,O a b H U,1,0,2,#[(),a8],0,p,_,2,U,1,?_]
   erw[0,?_];rwa[q _ _ _ (Lr _ ()) (La _ Z) (.inl Y)]
  ·have Y:b≠0:=by simpa using h
   rcases hb with z|⟨a0,a1,b0,b1⟩
   ·rwa[absurd z Y]
   erw[84238423842322222384,0,p,_,2,O a b H U,1,2,.inl #[(),()],0,p,_,2,O a b H U,1,2,.inl #[#[],#[]],0,p,_,2,O a b H U,1,2,.inr #[(),()],2,2,2,(by show(0:Int)<2147483647;decide),0,p,_,2,U,1,?_]
   have a6:0<=gM a b:=Lr _ #[]
   have a7:gM a b<2147483647:=La _ #[]
   erw[842284,0,p,_,2,O (gM a b) b _ ae,1,2,0,p,[.int (gM a b),.int b],2,ae,1,?_];erw[84232363,0,p,_,2,O (gM a b) (b+1) _ ae,1,2,.inl #[(),()],2,(by show(0:Int)<2147483629;decide),0,2,Z,?_]
   have e:upd (upd H p (.lst [.int (gM a b),.int b])) p (.lst [.int (gM a b),.int (b+1)])=upd H p (.lst [.int (gM a b),.int (b+1)]):=fA;have z:=q (gM a b*69621%2147483629%m) (gM a b) (b+1) (Lr _ ()) (La _ Z) (.inr #[a6,a7,(),()])
   rw[<- e] at z;rwa[z]
theorem FI.mono{a b:Int}{j k:Nat}(h:FI a b j)(hk:j<=k):FI a b k:=by
 rcases h with h|⟨h1,h2,h3,h4⟩
 ·rwa[.inl h]
 ·rwa[.inr #[h1,h2,h3,()]]
theorem ph{a:Addr}(h:SqT K H a xs):SqV true K H a xs:=h
theorem dC{a:Addr}(h:SqL K H a xs):SqV false K H a xs:=h
def v2(f:Int->Int->V):V->V->V:=λx y=>match x,y with
 |.int i,.int j=>f i j
 |_,_=>.non
def v1(f:Int->V):V->V:=λx=>match x with
 |.int i=>f i
 |_=>.non
theorem sF(f:Int->Int->V):∀ns ms:List Int,List.zipWith (v2 f) (ns.map V.int) (ms.map V.int)=List.zipWith f ns ms
 |[],_=>rfl
 |_::_,[]=>rfl
 |n::ns,m::ms=>Ls (f n m :: ·) (sF f ns ms)
theorem Dv(f:Int->V)(ns:List Int):(ns.map V.int).map (v1 f)=ns.map f:=by
 rw[MB];rfl
theorem rR(g:α->V)(f:Int->Int->α):∀ns ms:List Int,List.zipWith (λi j=>g (f i j)) ns ms=(List.zipWith f ns ms).map g
 |[],_=>rfl
 |_::_,[]=>rfl
 |n::ns,m::ms=>Ls (g (f n m) :: ·) (rR g f ns ms)
theorem fm{i:Nat}{x:V}(h:(ns.map V.int)[i]? = some x):∃z,ns[i]? = some z/\x=.int z:=by
 rw[Ga] at h;cases e:ns[i]? with
 |none=>rw[e] at h;cases h
 |some z=>rw[e] at h;rwa[z,1,(G_ h).symm]
theorem fU:((10:Int)^(10:Int).toNat)=10000000000:=by decide +kernel
def pE:Sp:=λvs H Q _=>∃(p:Addr) (a b:Int) (k:Nat),vs=[.ref p]/\H p=some (.lst [.int a,.int b])/\FI a b k/\k<=900000/\
 ∀(r a' b':Int),0<=r->r<1000000000000000000000000000000->FI a' b' (k+3)->Q (.int r) (upd H p (.lst [.int a',.int b']))
def qW:Sp:=λvs H Q _=>∃(p:Addr) (a b:Int) (k:Nat),vs=[.ref p]/\H p=some (.lst [.int a,.int b])/\FI a b k/\k<=800000/\
 ∀(r a' b':Int),-1000000000000000000000000000000<r->r<1000000000000000000000000000000->FI a' b' (k+4)->Q (.int r) (upd H p (.lst [.int a',.int b']))
theorem sc__law_great:Fv ["_law_bag_here", "_law_high"] ["_law_bag_here"] (am fB):=.i
theorem Ah(F:Fun K "_law_great" "_law_great" fB f fd)(GY:`FnB 1 "_law_take" eM):`aC CX0 2 f fd ["_law_bag_here"] pE:=by
 erw[F.o sc__law_great λ_ _ _ _ H _ Q _ Z h=>?_]
 ·let#[p,a,b,k,1,hp,hb,hk,q]:=h;erw[_,(af (aq (i:=1) sc__law_great.nd rfl #[4] (ap aX (ap bA (ay GY Z.m (aa (pv 0) (aa (ap hV ak ak) ag))) (ap hV ak ak)) (ay GY Z.m (aa (pv 0) (aa (ap hV ak ak) ag)))))
(aj (ar (ap aX (ap bA (pv 1) (ap hV ak ak)) (ay GY Z.m (aa (pv 0) (aa (ap hV ak ak) ag))))))),?_]
  erw[634016,0,2,#[#[],#[],#[]],p,a,b,_,k,1,hp,hb,(),by rw[fU];decide,by rw[fU];rwa[aM #[] #[]],λr1 a1 b1 a9 a6 O=>?_]
  rw[fU] at a6;erw[2323,2,#[#[],#[],#[]],2,.inl #[(),()],?_]
  erw[634016,0,2,#[#[],#[],#[]],p,a1,b1,_,k+1,1,ae,O,(),by rw[fU];decide,by rw[fU];rwa[aM #[] #[]],λr2 a2 b2 a' a7 U=>?_]
  rw[fU] at a7;erw[22,2,?_];erw[6323,0,2,#[#[],#[],#[]],2,.inr (by rw[fU];rwa[#[],#[]]),?_]
  erw[634016,0,2,#[#[],#[],#[]],p,a2,b2,_,k+2,1,ae,U,(),by rw[fU];decide,by rw[fU];rwa[aM #[] #[]],λr3 a3 b3 ac a8 Y=>?_]
  rw[fU] at a8;erw[22,2,?_];rw[fA,fA,fU];rwa[q _ a3 b3 () () Y]
theorem lh:Fv ["_law_bag_here"] ["_law_bag_here"] (am eT):=.i
theorem wd(F:Fun K "_law_signed" "_law_signed" eT f fd)(GY:`FnB 1 "_law_take" eM)(Hs:`FnB 2 "_law_great" pE):`aC CX0 3 f fd ["_law_bag_here"] qW:=by
 erw[F.o lh λ_ _ _ _ H _ Q _ Z h=>?_]
 ·let#[p,a,b,k,1,hp,hb,hk,q]:=h;erw[_,(aj (ar (ap bA (ap bE (ap bA ak (ay GY Z.m (aa (pv 0) (aa ak ag)))) ak) (ay Hs Z.m (aa (pv 0) ag))))),?_];erw[96,0,p,a,b,(2),k,1,hp,hb,(),#[],aM #[] #[],λr1 a1 b1 a6 a7 U=>?_]
  erw[2322,2,.inl #[#[],#[]],2,?_]
  erw[84,0,p,a1,b1,k+1,1,ae,U,(),λr2 a2 b2 a8 a9 Y=>?_]
  erw[23,2,.inl #[(),()],?_]
  rw[fA];have O:r1=0\/r1=1:=()
  erw[q _ a2 b2 ?_ ?_ Y]
  ·rcases O with z|z<;>rw[z]<;>lia
  ·rcases O with z|z<;>rw[z]<;>lia
def uY:Sp:=λvs H Q _=>∃(a b:Int),vs=[.int a,.int b]/\b≠0/\b.natAbs<2^6000/\∀t,H t=none->Q (.ref t) (upd H t (.tup [.int (nrm a b).1,.int (nrm a b).2]))
theorem Gh:Fv ["_law_top", "_law_bottom", "_law_one", "_law_other"] ["_law_top", "_law_bottom"] (am gY):=.i
theorem DG(F:Fun K "_law_low" "_law_low" gY f fd)(T:Blt mg):`aC CX0 1 f fd ["_law_top", "_law_bottom"] uY:=by
 erw[F.o Gh λ_ _ _ _ H _ Q _ hr h=>?_]
 ·let#[a,b,1,Z,a6,q]:=h;erw[_,(af (aq (i:=2) Gh.nd rfl #[4] (kJ T (pv 0)))
(af (aq (i:=3) Gh.nd rfl #[4] (kJ T (pv 1)))
(af (eX GM (az gL (pv 3) ak (aA _))
(aj (C4 (i:=2) (j:=3) rfl Gh.nd rfl rfl #[] rfl rfl (aa (pv 3) (aa (ap bC (pv 2) (pv 3)) ag)) rfl)))
(af (aT (az jA (pv 1) ak (aA _))
(aj (aq (i:=2) Gh.nd rfl #[4] (ap bE ak (pv 2))))
aE)
(aj (ar (aS (aa (ap bM (pv 0) (pv 2)) (aa (ap bM (pv 1) (pv 2)) ag))))))))),?_]
  erw[5151,0,0,0,0,?_];erw[e9 (λσ H'=>∃x y:Nat,σ=[some (.int a),some (.int b),some (.int x),some (.int y)]/\H'=H/\Nat.gcd x y=Int.gcd a b) (λσ _=>match σ with|[_,_,_,some (.int y)]=>y.toNat|_=>0) #[22,a.natAbs,b.natAbs,?_,1,1] ?_ ?_]
  ·have Y:(if a<0 then -a else a)=(a.natAbs:Int):=by split<;>lia
   have e2:(if b<0 then -b else b)=(b.natAbs:Int):=by split<;>lia
   rw[Y,e2]
   rfl
  ·rintro σ H2 ⟨x,y,rfl,rfl,hg⟩;erw[6211,0,2,0,cT (λh=>?_) (λh=>?_)]
   ·have hy:0<y:=by have:=A_ h;lia
    erw[516322,0,0,0,2,(by show(0:Int)<(y:Int);lia),_,0,#[22,y,x%y,?_,1,?_],?_]
    ·rfl
    ·rw[<- hg,Nat.gcd_comm x y,Nat.gcd_rec y x,Nat.gcd_comm]
    ·show((x:Int)%(y:Int)).toNat<(y:Int).toNat;have h1:=La (x:Int) (show(0:Int)<y by lia)
     have h2:=Lr (x:Int) (show(y:Int)≠0 by lia)
     lia
   ·have hy:y=0:=by
     have h1:¬(0:Int)<(y:Int):=λz=>h (p_ z)
     lia
    subst hy;rw[Nat.gcd_zero_right] at hg;subst hg;have a8:0<Int.gcd a b:=Int.gcd_pos_of_ne_zero_right a Z;have a7:Int.gcd a b<=b.natAbs:=Nat.le_of_dvd () (Nat.gcd_dvd_right a.natAbs b.natAbs)
    have sm:(Int.gcd a b)<2^6000:=Li a7 a6;erw[6211,0,2,0,cT (λh=>?_) (λh=>?_)]
    ·have U:b<0:=A_ h;erw[62,0,2,?_];have O:CDivA a (0-(Int.gcd a b:Int)):=#[(),by rw[show(0-(Int.gcd a b:Int)).natAbs=Int.gcd a b by lia];rwa[sm]]
     erw[51235124,0,0,2,O,0,0,2,O,(by show 2<=sizeLine;decide),λt ht=>?_]
     have z:=q t ht;unfold nrm at z;rw[u_ U] at z;rw[show 0-(Int.gcd a b:Int) = -(Int.gcd a b:Int) by lia]
     rwa[z]
    ·have U:¬b<0:=λz=>h (p_ z)
     have O:CDivA a (Int.gcd a b:Int):=#[(),by rw[K5];rwa[sm]]
     erw[51235124,0,0,2,O,0,0,2,O,(by show 2<=sizeLine;decide),λt ht=>?_]
     have z:=q t ht;unfold nrm at z;rw[t_ U] at z;rwa[z]
  ·rintro σ H Q Q' hq ⟨x,hx,i,j,Y,e2,b,Z,h⟩;rwa[6211,x,hx,i,j,Y,e2,b,Z,hq _ _ h]
def cX(n:Int)(i:Nat):List Int:=((List.range i).map λj:Nat=>(2:Int)+(j:Int)).filter λd=>decide (d*d<=n)
def hZ(n:Int):Bool:=decide (1<n)&&(cX n 98).all λd=>decide (0<n%d)
def Fz(p:Int):Prop:=p=0\/(2<=p/\p<=9973/\hZ p=true)
theorem ia(n:Int)(i:Nat):cX n (i+1)=if (2+(i:Int))*(2+(i:Int))<=n then cX n i++[2+(i:Int)] else cX n i:=by
 unfold cX;rw[range_succ,KB,NH]
 by_cases h:(2+(i:Int))*(2+(i:Int))<=n
 ·rw[u_ h];simp[h]
 ·rw[t_ h];simp[h]
theorem mem_parts{n d:Int}{i:Nat}:d∈cX n i↔2<=d/\d<2+(i:Int)/\d*d<=n:=by
 unfold cX;rw[LM,GK]
 constructor
 ·rintro⟨⟨j,hj,rfl⟩,h⟩;have:=ME.mp hj;rwa[(),(),A_ h]
 ·rintro⟨h1,h2,h3⟩;rwa[#[(d-2).toNat,ME.mpr (),()],p_ h3]
theorem isPb_iff{n:Int}:hZ n=true↔1<n/\∀d,2<=d->d<100->d*d<=n->0<n%d:=by
 unfold hZ;rw[Lp,all_eq_true]
 constructor
 ·rintro⟨h1,h2⟩;rwa[A_ h1,λd a b c=>A_ (h2 d (mem_parts.mpr #[a,(),c]))]
 ·rintro⟨h1,h2⟩;erw[p_ h1,λd hd=>?_]
  let#[a,b,c]:=mem_parts.mp hd;rwa[p_ (h2 d a () c)]
theorem CA:hZ 2=true:=by decide +kernel
def lJ:Sp:=λvs H Q _=>∃n:Int,vs=[.int n]/\∀H',Fu H H'->Q (.bl (hZ n)) H'
theorem Gy:Fv ["_law_number_here", "_law_parts"] ["_law_number_here"] (am dj):=.i
theorem qQ(F:Fun K "_law_is_prime" "_law_is_prime" dj f fd)(T:Blt mg):`aC CX0 1 f fd ["_law_number_here"] lJ:=by
 erw[F.o Gy λ_ _ _ _ H _ Q _ hr h=>?_]
 ·let#[n,1,q]:=h;erw[_,(af (fF (i:=1) Gy.nd rfl #[4] (N:=["_law_part", "_law_number_here"]) (src:=[none,some 0]) rfl rfl rfl (by exact(nE rfl T.range (aa ak (aa ak ag)))) (λ_ _ _=>by rwa[by exact(cc (i:=0) Fh rfl rfl),(gr (az nY (ap bA (pv 0) (pv 0)) (pv 1) (aA _))),by exact(pv 0)]))
(aj (ar (zV (gv gL (pv 0) ak (aA _)) (yu (ur K T (by rwa[bh (N:=["_law_part", "_law_number_here"]) (src:=[none,some 0]) rfl rfl rfl (by exact(aL K rfl (pv 1))) (λ_ _ _=>by rwa[by exact(cc (i:=0) Fh rfl rfl),aV,by exact(gv gL (ap bC (pv 1) (pv 0)) ak (aA _))])]) false)))))),?_]
  erw[22,_,0,#[#[],#[],#[],#[]],cY (n:=98) (σ0:=[none,some (.int n)]) rfl (λacc i zs σ H'=>∃u:Option V,σ=[u,some (.int n)]/\zs=(cX n i).map V.int/\Fu H H') #[] (λacc O=>#[none,1,1,Fu.new O]) ?_ ?_ ?_ ?_]
  ·rintro acc i zs σ H' O hi Y _;rwa[hi]
  ·rintro acc zs σ H' O Y _;rwa[ge 98]
  ·rintro acc i zs σ H' x a' O hi Y a9 ⟨u,rfl,rfl,sm⟩ ⟨rfl,rfl⟩;erw[51236211,0,0,2,.inl #[(),()],0,2,0,cT (λh=>?_) (λh=>?_)]
   ·have h':(2+(i:Int))*(2+(i:Int))<=n:=A_ h;erw[521212,0,_,Y,iY (),_,ae,by rw[y_,GV];lia,0,?_,sm.put O]
    rw[ia,u_ h',KB]
    rfl
   ·have h':¬(2+(i:Int))*(2+(i:Int))<=n:=λz=>h (p_ z)
    erw[_,Y,(),0,?_,sm]
    rw[ia,t_ h']
  ·rintro acc zs σ H' O Y a9 ⟨u,rfl,rfl,sm⟩;erw[6211,0,2,0,cT (λh=>?_) (λh=>?_)]
   ·have h1:(1:Int)<n:=A_ h;erw[52,0,acc,1,#[_,SqL.of Y],zL (v1 λd=>.bl (decide (0<n%d))) rfl (SqL.of Y) (Pi (iY ())) (λi x H1 R hx a6 hR=>?_) (λZ H1 a7 a6 U=>?_)]
    ·let#[z,a8,1]:=fm hx;let#[z2,_,_]:=mem_parts.mp (E_ a8);rwa[512322,0,0,2,(by show(0:Int)<z;lia),2,hR]
    ·rw[Dv] at U;have e1:(cX n 98).map (λd=>V.bl (decide (0<n%d)))=((cX n 98).map λd=>decide (0<n%d)).map V.bl:=by rw[MB];rfl
     rw[e1] at U;erw[22,Z,0,dC (SqL.of U),?_];have z:=q H1 (sm.trans a6);unfold hZ at z;rw[p_ h1,Bool.true_and] at z;rw[List.all_map];rwa[z]
   ·have h1:¬(1:Int)<n:=λz=>h (p_ z)
    have z:=q H' sm;unfold hZ at z;rw[Gx h1,Bool.false_and] at z;rwa[z]
def uF:Sp:=λvs H Q _=>∃(p:Addr) (a b:Int) (k:Nat),vs=[.ref p]/\H p=some (.lst [.int a,.int b])/\FI a b k/\k<=900000/\
 ∀(r a' b':Int) (H':Hp),Fz r->H' p=some (.lst [.int a',.int b'])->FI a' b' (k+2)->(∀c o,H c=some o->c≠p->H' c=some o)->Q (.int r) H'
theorem Gk:Fv ["_law_bag_here", "_law_way", "_law_number_here"] ["_law_bag_here"] (am fw):=.i
theorem xT(F:Fun K "_law_prime" "_law_prime" fw f fd)(GY:`FnB 1 "_law_take" eM)(HZ:`FnB 1 "_law_is_prime" lJ):`aC CX0 2 f fd ["_law_bag_here"] uF:=by
 erw[F.o Gk λ_ _ _ _ H _ Q _ hr h=>?_]
 ·let#[p,a,b,k,1,hp,hb,hk,q]:=h;erw[_,(af (aq (i:=1) Gk.nd rfl #[4] (ay GY hr.m (aa (pv 0) (aa ak ag))))
(af (aT (az jA (pv 1) ak (aA _))
(aj (ar ak))
aE)
(af (aT (az jA (pv 1) ak (aA _))
(aj (ar (aG (aF K rfl) (aQ (aa ak (aa ak (aa ak ag)))) (ap bE (pv 1) ak) (λ_ _=>rfl))))
aE)
(af (aq (i:=2) Gk.nd rfl #[4] (ap aX ak (ay GY hr.m (aa (pv 0) (aa ak ag)))))
(af (eX GM (tH (oY (ay HZ hr.m (aa (pv 2) ag))))
(aj (aq (i:=2) Gk.nd rfl #[4] (ap bE (pv 2) ak))))
(aj (ar (pv 2)))))))),?_]
  erw[96,0,p,a,b,(8),k,1,hp,hb,(),#[],aM #[] #[],λU a1 b1 a8 a9 O=>?_]
  have k1:∀o c o',H c=some o'->c≠p->(upd H p o) c=some o':=λo c o' e Y=>by rw[al Y];rwa[e]
  erw[6211,0,2,0,cT (λh=>?_) (λh=>?_)]
  ·rwa[q 0 a1 b1 _ (.inl rfl) ae (O.mono ()) (k1 _)]
  have h4:¬U<4:=λz=>h (p_ z)
  erw[6211,0,2,0,cT (λh=>?_) (λh=>?_)]
  ·have h7:U<7:=A_ h;erw[(by show 3<=sizeLine;decide),λq1 n1=>?_]
   have pq:p≠q1:=ah (o:=.lst [.int a1,.int b1]) ae n1;obtain⟨v,a6,hv⟩:∃v:Int,atI [V.int 2,V.int 3,V.int 7] (U-4)=some (.int v)/\Fz v:=by
    have h:U=4\/U=5\/U=6:=()
    rcases h with rfl|rfl|rfl
    ·rwa[(2),1,.inr #[#[],#[],by decide +kernel]]
    ·rwa[(3),1,.inr #[#[],#[],by decide +kernel]]
    ·rwa[(7),1,.inr #[#[],#[],by decide +kernel]]
   erw[6244,0,2,q1,_,2,SqL.of ae,a6,?_];rwa[q v a1 b1 _ hv (by rw[al pq,ae]) (O.mono ()) λc o e Y=>by rw[al (ah (k1 _ c o e Y) n1)];rwa[k1 _ c o e Y]]
  ·erw[96,0,p,a1,b1,9972,k+1,1,ae,O,(),#[],aM #[] #[],λr2 a2 b2 a' ac a7=>?_]
   erw[22,2,?_];rw[fA];erw[e9 (λσ H'=>∃n:Int,σ=[some (.ref p),some (.int U),some (.int n)]/\2<=n/\n<=9973/\Fu (upd H p (.lst [.int a2,.int b2])) H') (λσ _=>match σ with|[_,_,some (.int n)]=>n.toNat|_=>0) #[0,(),(),Fu.refl _] ?_ ?_]
   ·rintro σ H2 ⟨n,rfl,n2,n9,sm⟩;erw[51,0,n,1,λH3 Z=>#[0,?_]]
    cases hn:hZ n with
    |false=>
     erw[cZ #[63,0,2,#[0,?_,(),sm.trans Z],?_]]
     ·have:n≠2:=λz=>by rw[z,CA] at hn;cases hn
      lia
     ·show(n-1).toNat<n.toNat;lia
    |true=>
     erw[cG #[0,?_]];have s:=sm.trans Z;rwa[q n a2 b2 H3 (.inr #[n2,n9,hn]) (s _ _ ae) a7 λc o e Y=>s _ _ (k1 _ c o e Y)]
   ·rintro σ H Q Q' hq ⟨x,hx,n,e,h⟩;erw[51,x,hx,n,e,λH' s=>?_]
    let#[b,hb,z]:=h H' s;rwa[b,hb,hq _ _ z]
def mF:Sp:=λvs H Q _=>∃n:Int,vs=[.int n]/\Q (.bl (decide (2<=n/\n<=9973)&&hZ n)) H
theorem sc_is_prime:Fv ["whole", "divisor"] ["whole"] (am h8):=.i
theorem tG{tk2:Tok}(F:Fun K "is_prime" "is_prime" h8 f fd)(cLeast:mg "LEAST_PRIME"=some (.int 2 tk))(cGreatest:mg "GREATEST_PRIME"=some (.int 9973 tk2)):`aC CX0 1 f fd ["whole"] mF:=by
 erw[F.o sc_is_prime λ_ _ _ _ H _ Q _ hr h=>?_]
 ·let#[n,1,q]:=h;erw[_,(af (aT (PW.pt (qv (az jA (pv 0) (bJ (v:=.int 2) rfl cLeast #[0]) (aA _)) (kX (az gL (pv 0) (bJ (v:=.int 9973) rfl cGreatest #[0]) (aA _)))))
(aj (ar gK))
aE)
(af (aq (i:=1) sc_is_prime.nd rfl #[4] ak)
(af (eX GM (az nY (ap bA (pv 1) (pv 1)) (pv 0) (aA _))
(af (aT (az dJ (ap bC (pv 0) (pv 1)) ak (aA _))
(aj (ar gK))
aE)
(aj (aq (i:=1) sc_is_prime.nd rfl #[4] (ap aX (pv 1) ak)))))
(aj (ar gK))))),?_]
  have no:¬(2<=n/\n<=9973)->Q (.bl false) H:=λh=>by
   rw[Gx h,Bool.false_and] at q;rwa[q]
  erw[6211,0,2,0,cT (λh=>?_) (λh=>?_)]
  ·have h1:n<2:=A_ h;rwa[cZ (no ())]
  have h1:¬n<2:=λz=>h (p_ z)
  erw[6211,0,2,0,cT (λh=>?_) (λh=>?_)]
  ·have h2:9973<n:=A_ h;rwa[no ()]
  have h2:¬9973<n:=λz=>h (p_ z)
  rw[p_ (show 2<=n/\n<=9973 by lia),Bool.true_and] at q
  erw[e9 (λσ H'=>∃d:Int,σ=[some (.int n),some (.int d)]/\H'=H/\2<=d/\d<=101/\∀e,2<=e->e<d->0<n%e) (λσ _=>match σ with|[_,some (.int d)]=>(200-d).toNat|_=>0) #[(2),1,1,(),(),λe h1 h2=>()] ?_ ?_]
  ·rintro σ H2 ⟨d,rfl,rfl,a6,a9,O⟩;erw[51236211,0,0,2,.inl #[(),()],0,2,0,cT (λh=>?_) (λh=>?_)]
   ·have Z:d*d<=n:=A_ h;have U:d<100:=Int.not_le.mp λz=>by
     have:=Int.mul_le_mul z z () ()
     lia
    erw[512411,0,0,2,(by show(0:Int)<d;lia),1,0,cT (λh=>?_) (λh=>?_)]
    ·have h0:n%d=0:=by
      have:=A_ h;injection this
     have e:hZ n=false:=by
      cases hp:hZ n with
      |false=>rfl
      |true=>
       have:=(isPb_iff.mp hp).2 d a6 U Z;lia
     rw[e] at q;rwa[q]
    ·have h0:n%d≠0:=λz=>h (p_ (Ls V.int z))
     have a8:=Lr n (show d≠0 by lia)
     erw[63,0,2,#[d+1,1,1,(),(),λe Y e2=>?_],?_]
     ·by_cases ee:e=d
      ·rw[ee];lia
      ·rwa[O e Y ()]
     ·show(200-(d+1)).toNat<(200-d).toNat;lia
   ·have Z:¬d*d<=n:=λz=>h (p_ z)
    have e:hZ n=true:=isPb_iff.mpr #[(),λe Y e2 e3=>O e Y (Int.not_le.mp λz=>by
     have:=Int.mul_le_mul z z () ()
     lia)]
    rw[e] at q;rwa[q]
  ·rintro σ H Q Q' hq ⟨x,hx,x2,a7,i,j,Y,e2,c,y,hy,i2,j2,e3,e4,b,hb,h⟩;rwa[51236211,x,hx,x2,a7,i,j,Y,e2,c,y,hy,i2,j2,e3,e4,b,hb,hq _ _ h]
def vf:Sp:=λvs H Q _=>∃a b:Int,vs=[.int a,.int b]/\Q (.int (Int.gcd a b)) H
section
theorem FN:Fv ["one", "other", "first", "second", "rest"] ["one", "other"] (am cf):=.i
theorem Dj(F:Fun K "greatest_divisor" "greatest_divisor" cf f fd)(T:Blt mg):`aC CX0 1 f fd ["one", "other"] vf:=by
 erw[F.o FN λ_ _ _ _ H _ Q _ hr h=>?_]
 ·let#[a,b,1,q]:=h;erw[_,(af (aq (i:=2) FN.nd rfl #[4] (kJ T (pv 0)))
(af (aq (i:=3) FN.nd rfl #[4] (kJ T (pv 1)))
(af (eX GM (az mL (pv 3) ak (aA _))
(af (aq (i:=4) FN.nd rfl #[4] (ap bC (pv 2) (pv 3)))
(af (aq (i:=2) FN.nd rfl #[4] (pv 3))
(aj (aq (i:=3) FN.nd rfl #[4] (pv 4))))))
(aj (ar (pv 2)))))),?_]
  erw[5151,0,0,0,0,?_];erw[e9 (λσ H'=>∃(x y:Nat) (u:Option V),σ=[some (.int a),some (.int b),some (.int x),some (.int y),u]/\H'=H/\Nat.gcd x y=Int.gcd a b) (λσ _=>match σ with|[_,_,_,some (.int y),_]=>y.toNat|_=>0) #[32,a.natAbs,b.natAbs,none,?_,1,1] ?_ ?_]
  ·have O:(if a<0 then -a else a)=(a.natAbs:Int):=by split<;>lia
   have e2:(if b<0 then -b else b)=(b.natAbs:Int):=by split<;>lia
   rw[O,e2]
   rfl
  ·rintro σ H2 ⟨x,y,u,rfl,rfl,U⟩;erw[0,1,0,?_]
   by_cases hy:y=0
   ·subst hy;erw[uy rfl ?_];rw[Nat.gcd_zero_right] at U;subst U;rwa[0,q]
   ·rw[Gx (show ¬V.int (y:Int)=V.int 0 from λz=>by injection z;lia)]
    erw[cZ #[512352,0,0,2,(by show(0:Int)<(y:Int);lia),0,0,#[32,y,x%y,some (.int ((x:Int)%(y:Int))),?_,1,?_],?_]]
    ·rfl
    ·rw[<- U,Nat.gcd_comm x y,Nat.gcd_rec y x,Nat.gcd_comm]
    ·show((x:Int)%(y:Int)).toNat<(y:Int).toNat;have h1:=La (x:Int) (show(0:Int)<y by lia)
     have h2:=Lr (x:Int) (show(y:Int)≠0 by lia)
     lia
  ·rintro σ H Q Q' Z ⟨x,hx,O,b,Y,h⟩;rwa[x,hx,O,b,Y,Z _ _ h]
end
def FQ(CF CR:Addr)(H:Hp)(x:Addr)(p:Int):Prop:=(p=0/\∃dx,H x=some (.ins CF dx []))\/(p≠0/\∃dx,H x=some (.ins CR dx [("modulus",.int p)]))
def pD(CR:Addr):Sp:=λvs H Q _=>∃(x dx:Addr) (p:Int),vs=[.ref x,.int p]/\H x=some (.ins CR dx [])/\Fz p/\p≠0/\Q .non (upd H x (.ins CR dx [("modulus",.int p)]))
def zz(CF CR:Addr):Sp:=λvs H Q _=>∃p:Int,vs=[.int p]/\Fz p/\∀(x:Addr) (H':Hp),Fu H H'->FQ CF CR H' x p->Q (.ref x) H'
theorem iQ:Fv ["self", "prime"] ["self", "prime"] (am cR):=.i
theorem zU{CR:Addr}(F:Fun K "__init__" "Rests.__init__" cR f fd)(cl:Cls K CR)(nM:Fx K CR "modulus")(IV:`FnB 1 "is_prime" mF):`aC CX0 2 f fd ["self", "prime"] (pD CR):=by
 erw[F.o iQ λ_ _ _ _ H _ Q _ U h=>?_]
 ·let#[x,dx,p,1,Y,O,Z,q]:=h;erw[_,(af (aT (tH (oY (ay IV U.m (aa (pv 1) ag))))
(aj yM)
aE)
(aj (br (pv 0) (pv 1) rfl))),?_]
  rcases O with z|⟨h1,h2,h3⟩
  ·rwa[absurd z Z]
  erw[5111,0,p,1,0,?_];rw[p_ #[h1,h2],h3];erw[cG #[5145,0,0,x,CR,dx,[],1,Y,cl,nM,(by show 0<1000;decide),?_]]
  rwa[q]
theorem jU:Fv ["_law_prime_here"] ["_law_prime_here"] (am dU):=.i
theorem BB{CR:Addr}(F:Fun K "_law_numbers" "_law_numbers" dU f fd)(MFractions:Mk0 K CF)(AFractions:mg "Fractions"=some (.ref CF))(JP:`MkB 2 CR "Rests" (pD CR)):`aC CX0 4 f fd ["_law_prime_here"] (zz CF CR):=by
 erw[F.o jU λ_ _ _ _ H _ Q _ Y h=>?_]
 ·let#[p,1,U,q]:=h;erw[_,(af (aT (az dJ (pv 0) ak (aA _))
(aj (ar (Di MFractions AFractions)))
aE)
(aj (ar (pc JP Y.m (aa (pv 0) ag))))),?_]
  erw[0,1,0,cT (λh=>?_) (λh=>?_)]
  ·have h0:p=0:=by
    have:=A_ h;injection this
   intro x dx nx O ne;rwa[q x _ ((Fu.new O).put nx) (.inl #[h0,dx,ae])]
  ·have h0:p≠0:=λz=>h (p_ (Ls V.int z))
   erw[0,λx dx nx O ne=>?_]
   erw[35,x,dx,p,1,ae,U,h0,1,?_];rwa[q x _ (((Fu.new O).put nx).put nx) (.inr #[h0,dx,ae])]
def EJ(P:Int)(H:Hp)(v:V):Prop:=(P≠0/\∃r,v=.int r/\0<=r/\r<P)\/(P=0/\∃(t:Addr) (n d:Int),v=.ref t/\H t=some (.tup [.int n,.int d])/\0<d/\Int.gcd n d=1/\n.natAbs<10^31/\d.natAbs<10^31)
def E7:List V->Bool
 |[.int n,.int d]=>decide (1<=d)&&decide (Int.gcd n d=1)
 |_=>false
def fracV(H:Hp):V->Bool
 |.ref a=>match H a with
  |some (.tup xs)=>E7 xs
  |_=>false
 |_=>false
def Eg:Sp:=λvs H Q _=>∃(p:Addr) (P a b:Int) (g:Bool) (k:Nat),vs=[.int P,.ref p,.bl g]/\Fz P/\H p=some (.lst [.int a,.int b])/\FI a b k/\k<=700000/\
 ∀(v:V) (a' b':Int) (H':Hp),EJ P H' v->H' p=some (.lst [.int a',.int b'])->FI a' b' (k+8)->(∀c o,H c=some o->c≠p->H' c=some o)->Q v H'
theorem lT:Fv ["_law_prime_here", "_law_bag_here", "_law_great_here"] ["_law_prime_here", "_law_bag_here", "_law_great_here"] (am eQ):=.i
def At(P:Int)(H:Hp)(v:V)(x:Int×Int):Prop:=(P=0/\∃t,v=.ref t/\H t=some (.tup [.int x.1,.int x.2]))\/(P≠0/\v=.int x.1/\x.2=1)
theorem At.mono{P:Int}{x:Int×Int}(h:At P H v x)(k:∀t xs,H t=some (.tup xs)->H' t=some (.tup xs)):At P H' v x:=by
 rcases h with⟨h0,t,rfl,e⟩|h
 ·rwa[.inl #[h0,t,1,k _ _ e]]
 ·rwa[.inr h]
theorem At.same{P:Int}{x:Int×Int}(h:At P H v x)(s:Fu H H'):At P H' v x:=h.mono λt xs e=>s _ _ e
theorem rj:(2:Nat)^2900<2^6000:=K8 #[] #[]
theorem qz{a b:Int}(h1:a.natAbs<2^2900)(h2:b.natAbs<2^2900):IntMulOk a b:=qw (NA h1 rj) (NA h2 rj)
theorem yz{a b:Int}(h1:a.natAbs<2^2900)(h2:b.natAbs<2^2900):(a*b).natAbs<2^6000:=GS (kN h1 h2) (iN #[])
def oU(CN:Addr):Sp:=λvs H Q E=>∃(x:V) (a b:Int),vs=[x,.int a,.int b]/\(b=0->E (.ref CN) none H)/\(b≠0->b.natAbs<2^6000/\∀t,H t=none->Q (.ref t) (upd H t (.tup [.int (nrm a b).1,.int (nrm a b).2])))
theorem Gp:Fv ["self", "top", "bottom", "common"] ["self", "top", "bottom"] (am aJ):=.i
theorem Bj(F:FunD K "of" "Fractions.of" aJ f fd)(Ha:`FnB 1 "greatest_divisor" vf)(ANoNumber:mg "NoNumber"=some (.ref GZ))(xc:XCl K GZ):
  aC P w K mg base (CXE P w) 2 f fd ["self", "top", "bottom"] (oU GZ):=by
 erw[F.okX Gp (λvs H Q E h=>?_) (λcdv A outer s H vs Q E hr h=>?_)]
 ·let#[x,a,b,1,_]:=h
  rfl
 ·let#[x,a,b,1,hz,hq]:=h;erw[_,(af (aT (az dJ (pv 2) ak (aA _))
(aj (ii xc.ek ANoNumber (aa pG ag)))
aE)
(af (aT (az dJ (pv 2) ak (aA _))
(aj (ar (aS (aa (pv 1) (aa ak ag)))))
aE)
(af (aq (i:=3) Gp.nd rfl #[4] (ay Ha hr.m (aa (pv 1) (aa (pv 2) ag))))
(af (aT (az jA (pv 2) ak (aA _))
(aj (aq (i:=3) Gp.nd rfl #[4] (uO pF (pv 3))))
aE)
(aj (ar (aS (aa (ap bM (pv 1) (pv 3)) (aa (ap bM (pv 2) (pv 3)) ag))))))))),?_]
  erw[0,1,0,?_]
  by_cases Z:b=0
  ·subst Z;rw[p_ rfl];rwa[cZ #[(by show 1<=sizeLine;decide),hz rfl]]
  let#[a6,q]:=hq Z;rw[Gx (show ¬V.int b=V.int 0 from λz=>Z (by injection z))]
  erw[cG #[0,1,0,cT (λh=>?_) (λh=>?_)]]
  ·have h1:b=1:=by
    have:=A_ h;injection this
   subst h1;erw[0,(by show 2<=sizeLine;decide),λt Y=>?_]
   have z:=q t Y;rw[(fO a 1 #[]).mpr (Int.gcd_one_right ..)] at z
   rwa[z]
  ·erw[5121,0,0,a,b,1,?_];have a8:0<Int.gcd a b:=Int.gcd_pos_of_ne_zero_right a Z;have a7:Int.gcd a b<=b.natAbs:=Nat.le_of_dvd () (Nat.gcd_dvd_right a.natAbs b.natAbs)
   have sm:(Int.gcd a b)<2^6000:=Li a7 a6;erw[6211,0,2,0,cT (λh=>?_) (λh=>?_)]
   ·have U:b<0:=A_ h;erw[51,0,0,?_];have O:CDivA a (-(Int.gcd a b:Int)):=#[(),by rw[Int.natAbs_neg,K5];rwa[sm]]
    erw[51235124,0,0,2,O,0,0,2,O,(by show 2<=sizeLine;decide),λt Y=>?_]
    have z:=q t Y;unfold nrm at z;rw[u_ U] at z;rwa[z]
   ·have U:¬b<0:=λz=>h (p_ z)
    have O:CDivA a (Int.gcd a b:Int):=#[(),by rw[K5];rwa[sm]]
    erw[51235124,0,0,2,O,0,0,2,O,(by show 2<=sizeLine;decide),λt Y=>?_]
    have z:=q t Y;unfold nrm at z;rw[t_ U] at z;rwa[z]
theorem Fz.b{P:Int}(h:Fz P):0<=P/\P<=9973/\P≠1:=by
 rcases h with h|⟨h1,h2,_⟩<;>lia
def u4(g:Int->Int×Int->Int×Int->Int×Int):Sp:=λvs H Q _=>∃(P:Int) (u v:V) (x y:Int×Int),vs=[.int P,u,v]/\Fz P/\At P H u x/\At P H v y/\OkN P x/\OkN P y/\Sz 2900 x/\Sz 2900 y/\∀r H',Fu H H'->At P H' r (g P x y)->Q r H'
theorem oZ:Fv ["_law_prime_here", "_law_one", "_law_other"] ["_law_prime_here", "_law_one", "_law_other"] (am fK):=.i
theorem yF(F:Fun K "_law_plus" "_law_plus" fK f fd)(He:`FnB 1 "_law_low" uY):`aC CX0 2 f fd ["_law_prime_here", "_law_one", "_law_other"] (u4 bu):=by
 erw[F.o oZ λ_ _ _ _ H _ Q _ hr h=>?_]
 ·let#[P,u,v,x,y,1,hP,Z,hv,ox,oy,O,U,q]:=h;erw[_,(af (aT (az dJ (pv 0) ak (aA _))
(aj (ar (ay He hr.m (aa (ap aX (ap dE (aG (aI K rfl) (pv 1) ak (λ_ _=>rfl)) (aG (aI K rfl) (pv 2) ak (λ_ _=>rfl))) (ap dE (aG (aI K rfl) (pv 2) ak (λ_ _=>rfl)) (aG (aI K rfl) (pv 1) ak (λ_ _=>rfl)))) (aa (ap dE (aG (aI K rfl) (pv 1) ak (λ_ _=>rfl)) (aG (aI K rfl) (pv 2) ak (λ_ _=>rfl))) ag)))))
aE)
(aj (ar (ap bC (ap aX (pv 1) (pv 2)) (pv 0))))),?_]
  unfold bu at q;erw[0,1,0,cT (λh=>?_) (λh=>?_)]
  ·have h0:P=0:=by have:=A_ h;injection this
   rcases Z with⟨_,s,rfl,hs⟩|⟨z,_⟩
   ·rcases hv with⟨_,t,rfl,ht⟩|⟨z,_⟩
    ·rw[u_ h0] at q;erw[84842384842322,0,s,_,2,SqT.of hs,1,0,t,_,2,SqT.of ht,1,2,qz O.1 U.2,0,t,_,2,SqT.of ht,1,0,s,_,2,SqT.of hs,1,2,qz U.1 O.2,2,?_];erw[84842323,0,s,_,2,SqT.of hs,1,0,t,_,2,SqT.of ht,1,2,qz O.2 U.2,_,0,dD ox.den oy.den,yz O.2 U.2,λr nr=>?_]
     rwa[q _ _ (Fu.new nr) (.inl #[h0,r,1,ae])]
    ·rwa[absurd h0 z]
   ·rwa[absurd h0 z]
  ·have h0:P≠0:=λz=>h (p_ (Ls V.int z))
   have Y:0<P:=by have:=hP.b;lia
   rcases Z with⟨z,_⟩|⟨_,rfl,_⟩
   ·rwa[absurd z h0]
   ·rcases hv with⟨z,_⟩|⟨_,rfl,_⟩
    ·rwa[absurd z h0]
    ·rw[t_ h0] at q;rwa[512263,0,0,2,0,2,Y,q _ H (Fu.refl H) (.inr #[h0,1,1])]
theorem ml:Fv ["_law_prime_here", "_law_one", "_law_other"] ["_law_prime_here", "_law_one", "_law_other"] (am fG):=.i
theorem vK(F:Fun K "_law_times" "_law_times" fG f fd)(He:`FnB 1 "_law_low" uY):`aC CX0 2 f fd ["_law_prime_here", "_law_one", "_law_other"] (u4 gF):=by
 erw[F.o ml λ_ _ _ _ H _ Q _ hr h=>?_]
 ·let#[P,u,v,x,y,1,hP,Z,hv,ox,oy,U,Y,q]:=h;erw[_,(af (aT (az dJ (pv 0) ak (aA _))
(aj (ar (ay He hr.m (aa (ap dE (aG (aI K rfl) (pv 1) ak (λ_ _=>rfl)) (aG (aI K rfl) (pv 2) ak (λ_ _=>rfl))) (aa (ap dE (aG (aI K rfl) (pv 1) ak (λ_ _=>rfl)) (aG (aI K rfl) (pv 2) ak (λ_ _=>rfl))) ag)))))
aE)
(aj (ar (ap bC (ap bA (pv 1) (pv 2)) (pv 0))))),?_]
  unfold gF at q;erw[0,1,0,cT (λh=>?_) (λh=>?_)]
  ·have h0:P=0:=by have:=A_ h;injection this
   rcases Z with⟨_,s,rfl,hs⟩|⟨z,_⟩
   ·rcases hv with⟨_,t,rfl,ht⟩|⟨z,_⟩
    ·rw[u_ h0] at q;erw[848423,0,s,_,2,SqT.of hs,1,0,t,_,2,SqT.of ht,1,2,qz U.1 Y.1,?_];erw[84842323,0,s,_,2,SqT.of hs,1,0,t,_,2,SqT.of ht,1,2,qz U.2 Y.2,_,0,dD ox.den oy.den,yz U.2 Y.2,λr nr=>?_]
     rwa[q _ _ (Fu.new nr) (.inl #[h0,r,1,ae])]
    ·rwa[absurd h0 z]
   ·rwa[absurd h0 z]
  ·have h0:P≠0:=λz=>h (p_ (Ls V.int z))
   have hb:=hP.b;have O:0<P:=()
   rcases Z with⟨z,_⟩|⟨_,rfl,_⟩
   ·rwa[absurd z h0]
   ·rcases hv with⟨z,_⟩|⟨_,rfl,_⟩
    ·rwa[absurd z h0]
    ·rw[t_ h0] at q
     rcases ox with⟨z,_⟩|⟨_,x0,x1,_⟩
     ·rwa[absurd z h0]
     rwa[512363,0,0,2,.inl #[(),()],0,2,O,q _ H (Fu.refl H) (.inr #[h0,1,1])]
def lN:Sp:=λvs H Q _=>∃P:Int,vs=[.int P]/\Fz P/\∀r H',Fu H H'->At P H' r (0,1)->Q r H'
theorem lQ:Fv ["_law_prime_here"] ["_law_prime_here"] (am eS):=.i
theorem v8(F:Fun K "_law_nought" "_law_nought" eS f fd)(T:Blt mg):`aC CX0 1 f fd ["_law_prime_here"] lN:=by
 erw[F.o lQ λ_ _ _ _ H _ Q _ hr h=>?_]
 ·let#[P,1,O,q]:=h;erw[_,(aj (ar (aG (aF K rfl) (aQ (aa (aS (aa ak (aa ak ag))) (aa ak ag))) (ci mH (by rfl) T.int nN (aa (gv gL (pv 0) ak (aA _)) ag)) (λ_ _=>rfl)))),?_]
  erw[(by show 2<=sizeLine;decide),λt Y=>?_]
  erw[(by show 2<=sizeLine;decide),λl U=>?_]
  have s1:=Fu.new (o:=.tup [.int 0,.int 1]) Y;have s2:=Fu.new (o:=.lst [.ref t,.int 0]) U;have Z:=O.b
  by_cases h0:P=0
  ·erw[62,0,2,.inr #[84,0,l,_,2,SqL.of ae,(by rw[Gx ()];rfl),?_]]
   rwa[q _ _ (s1.trans s2) (.inl #[h0,t,1,s2 _ _ ae])]
  ·erw[62,0,2,.inr #[84,0,l,_,2,SqL.of ae,(by rw[p_ ()];rfl),?_]]
   rwa[q _ _ (s1.trans s2) (.inr #[h0,1,1])]
def zC:Sp:=λvs H Q _=>∃P:Int,vs=[.int P]/\Fz P/\∀r H',Fu H H'->At P H' r (1,1)->Q r H'
theorem oz:Fv ["_law_prime_here"] ["_law_prime_here"] (am f8):=.i
theorem BP(F:Fun K "_law_unit" "_law_unit" f8 f fd)(T:Blt mg):`aC CX0 1 f fd ["_law_prime_here"] zC:=by
 erw[F.o oz λ_ _ _ _ H _ Q _ hr h=>?_]
 ·let#[P,1,O,q]:=h;erw[_,(aj (ar (aG (aF K rfl) (aQ (aa (aS (aa ak (aa ak ag))) (aa ak ag))) (ci mH (by rfl) T.int nN (aa (gv gL (pv 0) ak (aA _)) ag)) (λ_ _=>rfl)))),?_]
  erw[(by show 2<=sizeLine;decide),λt Y=>?_]
  erw[(by show 2<=sizeLine;decide),λl U=>?_]
  have s1:=Fu.new (o:=.tup [.int 1,.int 1]) Y;have s2:=Fu.new (o:=.lst [.ref t,.int 1]) U;have Z:=O.b
  by_cases h0:P=0
  ·erw[62,0,2,.inr #[84,0,l,_,2,SqL.of ae,(by rw[Gx ()];rfl),?_]]
   rwa[q _ _ (s1.trans s2) (.inl #[h0,t,1,s2 _ _ ae])]
  ·erw[62,0,2,.inr #[84,0,l,_,2,SqL.of ae,(by rw[p_ ()];rfl),?_]]
   rwa[q _ _ (s1.trans s2) (.inr #[h0,1,1])]
def dN(P:Int)(x:Int×Int):PyData:=if P=0 then fJ [x.1,x.2] else .int x.1
theorem mK{P:Int}{x:Int×Int}(h:At P H v x):DR K H (dN P x) v:=by
 unfold dN
 rcases h with⟨h0,t,rfl,e⟩|⟨h0,rfl,_⟩
 ·rw[u_ h0];rwa[dB (ns:=[x.1,x.2]) (SqT.of e)]
 ·rw[t_ h0];rwa[.int _]
theorem e7(P:Int)(x:Int×Int):SeqAt.shaped (dN P x)=true:=by
 unfold dN
 split
 ·rwa[bH _]
 ·rfl
abbrev ai:=List Int×(Int×Int)
variable {a ps out e qs:List ai}{tb ys l:List (Nat×ai)}{x y:Nat×ai}{p:ai}{S:List (Nat×(Nat×ai))}{s:Nat×(Nat×ai)}{ms left:List (List ai)}
def Gb(P:Int)(H:Hp)(v:V)(p:ai):Prop:=∃(t k:Addr) (u:V),v=.ref t/\H t=some (.tup [.ref k,u])/\H k=some (.tup (p.1.map V.int))/\At P H u p.2
abbrev FA(P:Int)(H:Hp):List V->List ai->Prop:=Paired (Gb P H)
theorem Gb.mono{P:Int}(k:∀t xs,H t=some (.tup xs)->H' t=some (.tup xs))(h:Gb P H v p):Gb P H' v p:=by
 let#[t,c,u,1,h1,h2,h3]:=h;rwa[33,t,c,u,1,k _ _ h1,k _ _ h2,h3.mono k]
theorem FA.mono{P:Int}(k:∀t xs,H t=some (.tup xs)->H' t=some (.tup xs)):∀{vs:List V} {ps:List ai},FA P H vs ps->FA P H' vs ps
 |_,_,.nil=>.nil
 |_,_,.cons q r=>.cons (q.mono k) (FA.mono k r)
theorem FA.at_{P:Int}:∀{vs:List V} {ps:List ai} {i:Nat} {v:V},FA P H vs ps->vs[i]? = some v->∃p,ps[i]? = some p/\Gb P H v p
 |_,_,0,v,.cons q r,e=>by cases e;rwa[0,q]
 |_::_,_::_,i+1,v,.cons q r,e=>FA.at_ (i:=i) r e
theorem jf{R:α->β->Prop}:∀{xs:List α} {ys:List β} {i:Nat} {x:α} {y:β},Paired R xs ys->xs[i]? = some x->ys[i]? = some y->R x y
 |_,_,0,x,y,.cons q r,e1,e2=>by cases e1;cases e2;rwa[q]
 |_::_,_::_,i+1,x,y,.cons q r,e1,e2=>jf (i:=i) r e1 e2
def bW(P:Int)(m:List ai)(p:ai):List ai:=gf m p.1 (bu P ((bT m p.1).getD (0,1)) p.2)
def acc(P:Int)(ps:List ai):List ai:=ps.foldl (bW P) []
theorem kQ(P:Int)(ps:List ai)(p:ai):acc P (ps++[p])=bW P (acc P ps) p:=by
 unfold acc;rw[foldl_append]
 rfl
theorem ir{P:Int}{i:Nat}(h:ps[i]? = some p):acc P (ps.take (i+1))=bW P (acc P (ps.take i)) p:=by
 rw[Kw,h];rwa[kQ P _ p]
def iG(P:Int)(ps:List ai):Prop:=(∀p∈ps,OkN P p.2/\Sz 2900 p.2)/\∀i,∀p∈acc P (ps.take i),Sz 2900 p.2
theorem jq(P:Int)(ps:List ai):((acc P ps).map (·.1)).Nodup:=by
 unfold acc;have go:∀(ps m:List ai),(m.map (·.1)).Nodup->((ps.foldl (bW P) m).map (·.1)).Nodup:=by
  intro ps
  induction ps with
  |nil=>intro m h;rwa[h]
  |cons p ps ih=>intro m h;rwa[ih _ (tM h)]
 rwa[go ps [] (by simp)]
theorem ij(P:Int)(ps:List ai):(acc P ps).length<=ps.length:=by
 unfold acc;have go:∀(ps m:List ai),(ps.foldl (bW P) m).length<=m.length+ps.length:=by
  intro ps
  induction ps with
  |nil=>intro m;simp
  |cons p ps ih=>
   intro m;have h1:=ih (bW P m p);have h2:(bW P m p).length<=m.length+1:=yY _ _ _;show(ps.foldl (bW P) (bW P m p)).length<=_;rw[Mf];lia
 simpa using go ps []
theorem fW{P:Int}(hP:0<=P)(h1:P≠1)(h:∀p∈ps,OkN P p.2):∀p∈acc P ps,OkN P p.2:=by
 unfold acc;have go:∀(ps m:List ai),(∀p∈ps,OkN P p.2)->(∀p∈m,OkN P p.2)->∀p∈ps.foldl (bW P) m,OkN P p.2:=by
  intro ps
  induction ps with
  |nil=>intro m _ h;rwa[h]
  |cons p ps ih=>
   intro m O Y;erw[ih _ (λq U=>O q (by simp[U])) λq U=>?_]
   rcases fX U with z|z
   ·rw[z];erw[iO hP ?_ (O p (by simp))]
    cases e:bT m p.1 with
    |none=>rwa[eZ hP h1]
    |some y=>rwa[Y _ (dL e)]
   ·rwa[Y q z]
 rwa[go ps [] h (λp O=>nomatch O)]
def nz(p:ai):Bool:=decide (p.2≠(0,1))
def hk(p:ai):Int×List Int:=(p.1.sum,p.1)
def F3(P:Int)(ps out:List ai):Prop:=out.Perm ((acc P ps).filter nz)/\out.Pairwise λa b=>klt (hk b) (hk a)=true
theorem uN{P:Int}{x y:Int×Int}(hx:OkN P x)(hy:OkN P y):PyData.eqv (dN P x) (dN P y)=decide (x=y):=by
 unfold dN
 by_cases h0:P=0
 ·rw[u_ h0,u_ h0,iL];apply decide_eq_decide.mpr
  constructor
  ·intro z;injection z with z1 z2
   injection z2 with z2
   rwa[NU z1 z2]
  ·intro z;rw[z]
 ·rw[t_ h0,t_ h0]
  rcases hx with⟨z,_⟩|⟨_,_,_,x2⟩
  ·rwa[absurd z h0]
  rcases hy with⟨z,_⟩|⟨_,_,_,y2⟩
  ·rwa[absurd z h0]
  have e:PyData.eqv (.int x.1) (.int y.1)=decide (x.1=y.1):=by simp only[PyData.eqv];rfl
  rw[e];apply decide_eq_decide.mpr;rwa[λz=>NU z (x2.trans y2.symm),λz=>by rw[z]]
theorem El:Sz 2900 (0,1):=#[Nat.pow_pos #[],Nat.one_lt_two_pow #[]]
def vI:V->Int
 |.int i=>i
 |_=>0
def Dc(H:Hp):V->List Int
 |.ref k=>match H k with
  |some (.tup xs)=>xs.map vI
  |_=>[]
 |_=>[]
def Bu(H:Hp)(v:V):Int×List Int:=((Dc H v).sum,Dc H v)
def tL(H:Hp):V->Int×List Int
 |.ref t=>match H t with
  |some (.tup (k::_))=>Bu H k
  |_=>(0,[])
 |_=>(0,[])
theorem AU{k:Addr}(h:H k=some (.tup (ns.map V.int))):Dc H (.ref k)=ns:=by
 show(match H k with|some (.tup xs)=>xs.map vI|_=>[])=ns
 rw[h];show(ns.map V.int).map vI=ns;rw[MB];rwa[List.map_id'' (λ_=>rfl) ns]
theorem Gb.key{P:Int}(h:Gb P H v p):tL H v=hk p:=by
 let#[t,k,u,1,h1,h2,_]:=h;show(match H t with|some (.tup (k::_))=>Bu H k|_=>(0,[]))=hk p
 rw[h1];show Bu H (.ref k)=hk p;unfold Bu hk;rw[AU h2]
theorem FA.keys{P:Int}:∀{vs:List V} {ps:List ai},FA P H vs ps->vs.map (tL H)=ps.map hk
 |_,_,.nil=>rfl
 |_,_,.cons q r=>by rw[K1,K1,q.key,FA.keys r]
theorem xI(h:(ps.map (·.1)).Nodup):(ps.map hk).Nodup:=by
 have e:ps.map hk=(ps.map (·.1)).map (λk:List Int=>(k.sum,k)):=by rw[MB];rfl
 rw[e];rwa[Nr _ (λa b O z=>O (Ls Prod.snd z)) h]
theorem FA.perm{P:Int}{ws:List V}(h:FA P H vs ps)(p:ws.Perm vs):∃O:List ai,O.Perm ps/\FA P H ws O:=by
 have go:∀{ws vs:List V},ws.Perm vs->∀ps:List ai,FA P H vs ps->∃O:List ai,O.Perm ps/\FA P H ws O:=by
  intro ws vs p
  induction p with
  |nil=>intro ps h;rwa[ps,.refl _,h]
  |cons x p ih=>
   intro ps h;cases h with
   |cons q r=>
    let#[O,e,h']:=ih _ r;rwa[_::O,e.cons _,.cons q h']
  |swap x y l=>
   intro ps h;cases h with
   |cons q r=>cases r with
    |cons q2 r=>rwa[_::_::_,.swap _ _ _,.cons q2 (.cons q r)]
  |trans p1 p2 ih1 ih2=>
   intro ps h;let#[O,e,h']:=ih2 _ h;let#[U,e2,h2]:=ih1 _ h';rwa[U,e2.trans e,h2]
 rwa[go p ps h]
theorem FA.fall{P:Int}{lt:Int×List Int->Int×List Int->Bool}:∀{vs:List V} {ps:List ai},FA P H vs ps->vs.Pairwise (λx y=>lt (tL H y) (tL H x)=true)->ps.Pairwise (λa b=>lt (hk b) (hk a)=true):=by
 intro vs ps h O;have z:(vs.map (tL H)).Pairwise (λa b=>lt b a=true):=Oc.mpr O
 rw[h.keys] at z;rwa[Oc.mp z]
theorem FA.snoc{P:Int}(q:Gb P H v p):∀{vs:List V} {ps:List ai},FA P H vs ps->FA P H (vs++[v]) (ps++[p])
 |_,_,.nil=>.cons q .nil
 |_,_,.cons a r=>.cons a (FA.snoc q r)
theorem FA.mem{P:Int}:∀{vs:List V} {ps:List ai} {v:V},FA P H vs ps->v∈vs->∃p∈ps,Gb P H v p
 |_,_,v,.cons q r,O=>by
  rcases GH.mp O with rfl|O
  ·rwa[_,by simp,q]
  ·let#[p,U,h]:=FA.mem r O;rwa[p,by simp[U],h]
theorem jK{i:Nat}(h:ps[i]? = some p):(ps.take (i+1)).filter nz=(ps.take i).filter nz++(if nz p=true then[p] else[]):=by
 rw[Kw,h,NH];congr 1;show List.filter nz [p]=_
 by_cases e:nz p=true
 ·rw[u_ e];simp[e]
 ·rw[t_ e];simp[e]
theorem jB{R:α->β->Prop}{ws vs:List α}(p:ws.Perm vs):∀ps:List β,Paired R vs ps->∃O:List β,O.Perm ps/\Paired R ws O:=by
 induction p with
 |nil=>intro ps h;rwa[ps,.refl _,h]
 |cons x p ih=>
  intro ps h;cases h with
  |cons q r=>
   let#[O,e,h']:=ih _ r;rwa[_::O,e.cons _,.cons q h']
 |swap x y l=>
  intro ps h;cases h with
  |cons q r=>cases r with
   |cons q2 r=>rwa[_::_::_,.swap _ _ _,.cons q2 (.cons q r)]
 |trans p1 p2 ih1 ih2=>
  intro ps h;let#[O,e,h']:=ih2 _ h;let#[U,e2,h2]:=ih1 _ h';rwa[U,e2.trans e,h2]
def B5(K:Frag):Sp:=λvs H Q _=>∃(t k:Addr) (u:V) (ns:List Int),vs=[.ref t]/\H t=some (.tup [.ref k,u])/\SqT K H k (ns.map V.int)/\∀r,H r=none->Q (.ref r) (upd H r (.tup [.int ns.sum,.ref k]))
def lG:Sp:=λvs H Q _=>∃(l:Addr) (P:Int) (ts:List V) (ps:List ai),vs=[.int P,.ref l]/\Fz P/\H l=some (.lst ts)/\FA P H ts ps/\ps.length<=60/\iG P ps/\
 ∀(d:Addr) (rs:List V) (out:List ai) (H':Hp),H d=none->Fu H H'->H' d=some (.lst rs)->FA P H' rs out->F3 P ps out->Q (.ref d) H'
theorem pV:Fv ["_law_part"] ["_law_part"] (am gW):=.i
theorem Bk(F:Fun K "_law_key" "_law_key" gW f fd)(T:Blt mg):`aC CX0 1 f fd ["_law_part"] (B5 K):=by
 erw[F.o pV λ_ _ _ _ H _ Q _ U h=>?_]
 ·let#[t,k,u,ns,1,O,hk,q]:=h;erw[_,(aj (ar (aS (aa (BS K T (aG (aI K rfl) (pv 0) ak (λ_ _=>rfl)) true) (aa (aG (aI K rfl) (pv 0) ak (λ_ _=>rfl)) ag))))),?_]
  rwa[842285,0,t,_,2,SqT.of O,1,k,ns,1,ph hk,0,t,_,2,SqT.of O,1,by show 2<=sizeLine;decide,q]
theorem Gu:Fv ["_law_prime_here", "_law_parts", "_law_come", "_law_product_here", "_law_number_here", "_law_found"] ["_law_prime_here", "_law_parts"] (am gX):=.i
theorem AB(F:Fun K "_law_sum" "_law_sum" gX f fd)(T:Blt mg)(IP:`FnB 2 "_law_plus" (u4 bu))(Hf:`FnB 1 "_law_nought" lN)(IW:`FnB 1 "_law_key" (B5 K)):
  aC P w K mg base CX0 4 f fd ["_law_prime_here", "_law_parts"] lG:=by
 erw[F.o Gu λ_ _ _ _ H _ Q _ hr h=>?_]
 ·let#[l,P,ts,ps,1,hP,hl,ad,hn,hok,q]:=h;have hB:=hP.b;erw[_,(af (aq (i:=2) Gu.nd rfl (Or.inr rfl) xy)
(af (bi GM rfl (aL K rfl (pv 1)) (bc K (i:=3) (j:=4) rfl rfl Gu.nd rfl rfl rfl rfl)
(aj (tR (hu1 hr) (pv 2) (pv 3) (ay IP hr.m (aa (pv 0) (aa (zN (hu1 hr) (pv 2) (pv 3) (ay Hf hr.m (aa (pv 0) ag)) #[1,1,1,1]) (aa (pv 4) ag)))) rfl)))
(af (fF (i:=5) Gu.nd rfl #[4] (N:=["_law_product_here", "_law_come", "_law_prime_here"]) (src:=[none,some 2,some 0]) rfl rfl rfl (by exact(Af K rfl (pv 2))) (λ_ _ _=>by rwa[by exact(cc (i:=0) nd_1 rfl rfl),(gr (az (wA K rfl hr.units) (eE (hu1 hr) (pv 1) (pv 0) (λ_ _=>rfl)) (ay Hf hr.m (aa (pv 2) ag)) (aA _))),by exact(aS (aa (pv 0) (aa (eE (hu1 hr) (pv 1) (pv 0) (λ_ _=>rfl)) ag)))]))
(aj (ar (zo T IW hr.m (pv 5))))))),?_]
  have lt:ts.length=ps.length:=Paired.length ad;intro d hd;have dl:d≠l:=λz=>by rw[z,hl] at hd;cases hd
  erw[52,0,l,1,#[_,SqL.of (by rw[al dl.symm];rwa[hl])],eA (xs:=ts) (λi σ H'=>∃(x3 x4:Option V) (kvs:List (List Key×V)),σ=[some (.int P),some (.ref l),some (.ref d),x3,x4,none]/\Fu H H'/\H' d=some (.dT kvs)/\FZ (At P H') kvs (acc P (ps.take i))) ?_ ?_ ?_ ?_]
  ·rwa[33,none,none,[],1,Fu.new hd,ae,.nil]
  ·rintro i σ H' _ ⟨x3,x4,kvs,rfl,sm,_⟩;rwa[SqL.of (sm _ _ hl)]
  ·rintro i x σ H1 hx ⟨x3,x4,kvs,rfl,sm,Y,dr⟩;let#[p,ep,t,k,u,1,ht,hk,hu]:=ad.at_ hx;have tk:∀t xs,H t=some (.tup xs)->H1 t=some (.tup xs):=λt xs e=>sm _ _ e
   erw[232122,t,0,SqT.of (sm _ _ ht),1,_,0,2,?_];erw[51125112,0,0,d,1,.inr #[kvs,.inl Y],0,0,P,1,hP,λr H2 s2 a0=>?_]
   have ac:H2 k=some (.tup ((kI p.1).map kV)):=by rw[yO];rwa[s2 _ _ (sm _ _ hk)]
   erw[_,F8.t (s2 _ _ Y) ac,?_];have mp:p∈ps:=E_ ep;let#[op,zp]:=hok.1 p mp;have a9:∀q∈acc P (ps.take i),OkN P q.2:=fW hB.1 hB.2.2 λq hq=>(hok.1 q (Mp hq)).1
   have hw:At P H2 ((bw kvs (kI p.1)).getD r) ((bT (acc P (ps.take i)) p.1).getD (0,1))/\OkN P ((bT (acc P (ps.take i)) p.1).getD (0,1))/\Sz 2900 ((bT (acc P (ps.take i)) p.1).getD (0,1)):=by
    rcases dr.val p.1 with⟨e1,e2⟩|⟨v,y,e1,e2,ra⟩
    ·rw[e1,e2];rwa[a0,eZ hB.1 hB.2.2,El]
    ·rw[e1,e2];rwa[ra.same s2,a9 _ (dL e2),hok.2 i _ (dL e2)]
   erw[98,0,P,_,u,_,p.2,1,hP,hw.1,(hu.same (sm.trans s2)),hw.2.1,op,hw.2.2,zp,λr3 Z s3 a3=>?_]
   erw[5122,0,0,d,0,DPut.t (k:=kI p.1) (s3 _ _ (s2 _ _ Y)) (s3 _ _ ac) ?_,?_]
   ·have h1:kvs.length=(acc P (ps.take i)).length:=Paired.length dr;have h2:=ij P (ps.take i);rw[LK] at h2;rw[h1,Gr];lia
   ·have d3:Z d=some (.dT kvs):=s3 _ _ (s2 _ _ Y);have keep:∀c o,Z c=some o->c≠d->upd Z d (.dT (cH kvs (kI p.1) r3)) c=some o:=λc o e hc=>by rw[al hc];rwa[e]
    have b1:∀t xs,Z t=some (.tup xs)->upd Z d (.dT (cH kvs (kI p.1) r3)) t=some (.tup xs):=λt xs e=>keep t _ e (aw e d3 #[3])
    erw[33,_,_,0,λc o e=>keep c o (s3 _ _ (s2 _ _ (sm c o e))) (ah e hd),ae,?_]
    rw[ir ep];rwa[FZ.put (a3.mono b1) (dr.mono λv x z=>((z.same s2).same s3).mono b1)]
  ·rintro σ H1 ⟨x3,x4,kvs,rfl,sm,Y,dr⟩;rw[lt,KU] at dr;have nd:=jq P ps;have lm:=ij P ps;have a9:∀q∈acc P ps,OkN P q.2:=fW hB.1 hB.2.2 λq hq=>(hok.1 q hq).1
   unfold F3 at q;generalize acc P ps=m at *;erw[62,0,d,kvs,1,Y,λo as pk=>?_]
   have tp:=dr.tups pk;have la:as.length=m.length:=Paired.length tp;have keep:∀c u,H1 c=some u->c≠d->upd H1 d (.frz o (.dT kvs)) c=some u:=λc u e hc=>by rw[al hc];rwa[e]
   have tk:∀t xs,H1 t=some (.tup xs)->upd H1 d (.frz o (.dT kvs)) t=some (.tup xs):=λt xs e=>keep t _ e (aw e Y #[3])
   have b0:Fu H (upd H1 d (.frz o (.dT kvs))):=λc u e=>keep c u (sm c u e) (ah e hd)
   have a8:upd H1 d (.frz o (.dT kvs)) d=some (.frz o (.dT kvs)):=ae;have b2:FZ (At P (upd H1 d (.frz o (.dT kvs)))) kvs m:=dr.mono λv x z=>z.mono tk
   have b5:∀(i:Nat) (a:Addr) (p:ai),as[i]? = some a->m[i]? = some p->upd H1 d (.frz o (.dT kvs)) a=some (.tup (p.1.map V.int)):=λi a p h1 h2=>tk _ _ (show H1 a=some (.tup (p.1.map V.int)) from jf (R:=λ(a:Addr) (q:ai)=>H1 a=some (.tup (q.1.map V.int))) tp h1 h2)
   generalize upd H1 d (.frz o (.dT kvs))=HF at *;erw[cY (n:=m.length) (σ0:=[none,some (.ref d),some (.int P)]) rfl (λacc i zs σ H'=>∃u:Option V,σ=[u,some (.ref d),some (.int P)]/\Fu HF H'/\FA P H' zs ((m.take i).filter nz)) (by rw[Gr];lia) (λacc O=>#[none,1,Fu.new O,.nil]) ?_ ?_ ?_ ?_]
   ·rintro acc i zs σ H' O hi hz ⟨u,rfl,U,_⟩;rwa[U _ _ a8,by rw[k_,la];rwa[hi]]
   ·rintro acc zs σ H' O hz ⟨u,rfl,U,_⟩;rwa[U _ _ a8,by rw[k_,la];rwa[ge _]]
   ·rintro acc i zs σ H9 x H' O hi hz b3 ⟨u,rfl,U,pr⟩ ⟨rfl,hx⟩;obtain⟨a,ea,rfl⟩:∃a,as[i]? = some a/\x=.ref a:=by
     rw[Ga] at hx;cases e:as[i]? with
     |none=>rw[e] at hx;cases hx
     |some a=>rw[e] at hx;rwa[a,1,(G_ hx).symm]
    obtain⟨p,ep⟩:∃p,m[i]? = some p:=#[_,e_ hi]
    have mp:p∈m:=E_ ep;have ha:=b5 i a p ea ep;obtain⟨v,e1,av⟩:∃v,bw kvs (kI p.1)=some v/\At P HF v p.2:=by
     rcases b2.val p.1 with⟨_,e2⟩|⟨v,y,e1,e2,ra⟩
     ·rw[jX nd (show(p.1,p.2)∈m from mp)] at e2;cases e2
     ·rw[jX nd (show(p.1,p.2)∈m from mp)] at e2
      cases e2;rwa[v,e1,ra]
    have dg:∀H2,Fu HF H2->F8 H2 d (.ref a) (some v):=λH2 s2=>.inr #[33,kvs,kI p.1,a,.inr #[o,s2 _ _ a8],1,by rw[yO];rwa[s2 _ _ ha],e1.symm]
    erw[512252,0,0,d,v,1,dg H' U,0,P,1,hP,λr Z s3 a3=>?_]
    have a7:=U.trans s3;erw[24,dN P p.2,dN P (0,1),mK (av.same a7),mK a3,e7 _ _,e7 _ _,?_];rw[uN (a9 p mp) (eZ hB.1 hB.2.2)];have en:(!decide (p.2=(0,1)))=nz p:=by unfold nz;rw[decide_not]
    rw[en];have ax:=pr.mono λt xs e=>s3 _ _ e
    erw[0,cT (λh=>?_) (λh=>?_)]
    ·erw[5163,0,0,0,d,v,1,dg Z a7,by show 2<=sizeLine;decide,λt nt=>?_]
     have s4:=Fu.new (o:=.tup [.ref a,v]) nt;have a':=a7.trans s4;have au:=s4 _ _ (s3 _ _ hz);have a6:∀c u,(upd Z t (.tup [.ref a,v])) c=some u->c≠acc->upd (upd Z t (.tup [.ref a,v])) acc (.lst (zs++[.ref t])) c=some u:=λc u e hc=>by rw[al hc];rwa[e]
     have b4:∀c xs,(upd Z t (.tup [.ref a,v])) c=some (.tup xs)->upd (upd Z t (.tup [.ref a,v])) acc (.lst (zs++[.ref t])) c=some (.tup xs):=λc xs e=>a6 c _ e (aw e au #[3])
     erw[zs,au,by rw[Gr];lia,_,ae,by rw[y_,GV];lia,0,λc u e=>a6 c u (a' c u e) (ah e O),?_]
     rw[jK ep,u_ h];exact(FA.snoc (p:=p) #[33,t,a,v,1,ae,a' _ _ ha,av.same a'] (ax.mono λt xs e=>s4 _ _ e)).mono b4
    ·erw[zs,s3 _ _ hz,(),0,a7,?_]
     rw[jK ep,t_ h,Mg];rwa[ax]
   ·rintro acc zs σ H' O hz b3 ⟨u,rfl,U,pr⟩;rw[KU] at pr;have sub:((m.filter nz).map (·.1)).Nodup:=(List.Sublist.map _ filter_sublist).nodup nd;erw[0,.inl #[2312,acc,zs,1,SqL.of hz,(),tL H',?_,λy hy H2 s2=>?_,λD H2 ws nD s2 hD pm pw=>?_]]
    ·rw[pr.keys];rwa[xI sub]
    ·let#[p,hp,h]:=pr.mem hy;rw[h.key];let#[t,k,u,1,h1,h2,_]:=h;rwa[43,t,k,u,p.1,1,s2 _ _ h1,SqT.of (s2 _ _ h2),λr nr=>#[0122,Fu.new nr,r,k,1,ae,SqT.of (Fu.new nr _ _ (s2 _ _ h2))]]
    ·let#[qs,e,h']:=pr.perm pm;erw[q D ws qs H2 ?_ ((b0.trans U).trans s2) hD (h'.mono λt xs e=>s2 _ _ e) #[e,h'.fall pw]]
     exact(b0.trans U).free nD
theorem Dx{p f:Int}(h2:2<=p)(h9:p<=9973)(hp:hZ p=true)(f0:0<f)(f1:f<p):Int.gcd p f=1:=by
 have a7:0<Int.gcd p f:=Int.gcd_pos_of_ne_zero_left f ()
 have Z:((Int.gcd p f:Nat):Int) ∣ p:=Int.gcd_dvd_left ..;have Y:((Int.gcd p f:Nat):Int) ∣ f:=Int.gcd_dvd_right ..;generalize Int.gcd p f=g at *;have a6:(g:Int)<=f:=Int.le_of_dvd f0 Y;let#[h,e]:=Z
 by_cases g1:g=1
 ·rwa[g1]
 exfalso
 have g2:2<=(g:Int):=()
 have hh:2<=h:=by
  rcases Int.lt_or_le h 2 with z|z
  ·have:=Int.mul_le_mul_of_nonneg_left (show h<=1 by lia) (show 0<=(g:Int) by lia)
   lia
  ·rwa[z]
 have key:∀d k:Int,2<=d->d<=k->p=d*k->False:=λd k d2 dk ep=>by
  have U:d*d<=p:=by rw[ep];rwa[Int.mul_le_mul_of_nonneg_left dk ()]
  have O:d<100:=Int.not_le.mp λz=>by
   have:=Int.mul_le_mul z z () ()
   lia
  have h0:=(isPb_iff.mp hp).2 d d2 O U;have:p%d=0:=by rw[ep];rwa[Int.mul_emod_right d k]
  lia
 rcases Int.le_total (g:Int) h with z|z
 ·rwa[key g h g2 z e]
 ·rwa[key h g hh z (by rw[e,MZ])]
theorem lK{a b p:Int}(h:p ∣ a-b):a%p=b%p:=Int.emod_eq_emod_iff_emod_sub_eq_zero.mpr (Int.emod_eq_zero_of_dvd h)
theorem j8(a p:Int):p ∣ a-a%p:=#[a/p,by rw[Int.emod_def];lia]
def yr:Sp:=λvs H Q _=>∃(w p:Int),vs=[.int w,.int p]/\2<=p/\p<=9973/\hZ p=true/\w%p≠0/\∀r:Int,0<=r->r<p->(r*w)%p=1->Q (.int r) H
theorem FO:Fv ["whole", "prime", "rest", "share", "following", "following_share", "often", "further", "further_share"] ["whole", "prime"] (am je):=.i
theorem sj(F:Fun K "inverse" "inverse" je f fd):`aC CX0 1 f fd ["whole", "prime"] yr:=by
 erw[F.o FO λ_ _ _ _ H _ Q _ hr h=>?_]
 ·let#[a,p,1,h2,h9,hp,ha,q]:=h;erw[_,(af (aq (i:=2) FO.nd rfl #[4] (pv 1))
(af (aq (i:=3) FO.nd rfl #[4] ak)
(af (aq (i:=4) FO.nd rfl #[4] (ap bC (pv 0) (pv 1)))
(af (aq (i:=5) FO.nd rfl #[4] ak)
(af (eX GM (az mL (pv 4) ak (aA _))
(af (aq (i:=6) FO.nd rfl #[4] (ap bM (pv 2) (pv 4)))
(af (aq (i:=7) FO.nd rfl #[4] (ap bE (pv 2) (ap bA (pv 6) (pv 4))))
(af (aq (i:=8) FO.nd rfl #[4] (ap bE (pv 3) (ap bA (pv 6) (pv 5))))
(af (aq (i:=2) FO.nd rfl #[4] (pv 4))
(af (aq (i:=3) FO.nd rfl #[4] (pv 5))
(af (aq (i:=4) FO.nd rfl #[4] (pv 7))
(aj (aq (i:=5) FO.nd rfl #[4] (pv 8))))))))))
(aj (ar (ap bC (pv 5) (pv 1))))))))),?_]
  erw[5163,0,0,0,2,(by show(0:Int)<p;lia),?_]
  have m0:=Lr a (show p≠0 by lia)
  have m1:=La a (show 0<p by lia)
  erw[e9 (λσ H'=>∃(R S F G:Int) (u6 u7 u8:Option V),σ=[some (.int a),some (.int p),some (.int R),some (.int S),some (.int F),some (.int G),u6,u7,u8]/\H'=H/\1<=F/\F<R/\R<=p/\Int.gcd R F=1/\p ∣ S*a-R/\p ∣ G*a-F)
   (λσ _=>match σ with|[_,_,_,_,some (.int F),_,_,_,_]=>F.toNat|_=>0) #[4037,p,(0),a%p,(1),none,none,none,1,1,(),m1,Int.le_refl p,Dx h2 h9 hp () m1,#[-1,()],by rw[Int.one_mul];rwa[j8 a p]] ?_ ?_]
  ·rintro σ H2 ⟨R,S,F,G,u6,u7,u8,rfl,rfl,f1,fR,Rp,Z,d1,d2⟩;erw[0,1,0,?_]
   by_cases Y:F=1
   ·subst Y;erw[uy rfl ?_];erw[5123,0,0,2,(by show(0:Int)<p;lia),?_]
    erw[q _ (Lr _ ()) (La _ ()) ?_]
    have O:(G%p*a)%p=1%p:=by
     apply lK;let#[k1,O]:=d2;let#[k2,e2]:=j8 G p;erw[k1-k2*a,?_];have U:G%p=G-p*k2:=()
     rw[U,Int.sub_mul,Int.mul_sub,MS];lia
    rw[O];rwa[L8 #[] ()]
   ·rw[Gx (show ¬V.int F=V.int 1 from λz=>Y (by injection z))]
    have eq:R.fdiv F=R/F:=Int.fdiv_eq_ediv_of_nonneg _ ()
    have q0:0<=R/F:=Int.ediv_nonneg () ()
    have q1:R/F<=R:=Int.ediv_le_self F ()
    erw[cZ #[5123,0,0,2,ie () (),?_]]
    erw[516322,0,0,0,2,.inr #[(),()],2,?_]
    erw[516322,0,0,0,2,.inl #[(),()],2,?_]
    rw[eq];have eF:R-R/F*F=R%F:=by rw[Int.emod_def,MZ]
    have r0:=Lr R (show F≠0 by lia)
    have r1:=La R (show 0<F by lia)
    have rn:R%F≠0:=λz=>by
     have hd:F ∣ R:=Int.dvd_of_emod_eq_zero z;have:Nat.gcd R.natAbs F.natAbs=F.natAbs:=Nat.gcd_eq_right (Int.natAbs_dvd_natAbs.mpr hd);have a6:Nat.gcd R.natAbs F.natAbs=1:=Z;lia
    erw[5152,0,0,0,0,#[4037,F,G,R-R/F*F,S-R/F*G,_,2,(),(),(),?_,d2,?_],?_]
    ·rw[eF,Int.emod_def,Int.gcd_comm];rw[Int.gcd_sub_mul_left_left];rwa[Z]
    ·let#[k1,O]:=d1;let#[k2,e2]:=d2;erw[k1-R/F*k2,?_];have U:(S-R/F*G)*a-(R-R/F*F)=(S*a-R)-R/F*(G*a-F):=by
      rw[Int.sub_mul,Int.mul_sub,MS];lia
     rw[U,O,e2,Int.mul_sub,MY]
    ·show(R-R/F*F).toNat<F.toNat;lia
  ·rintro σ H Q Q' hq ⟨x,hx,O,b,hb,h⟩;rwa[x,hx,O,b,hb,hq _ _ h]
def oJ(CR CN:Addr):Sp:=λvs H Q E=>∃(x dx:Addr) (p a b:Int),vs=[.ref x,.int a,.int b]/\H x=some (.ins CR dx [("modulus",.int p)])/\2<=p/\p<=9973/\hZ p=true/\
 (b%p=0->E (.ref CN) none H)/\(b%p≠0->∀r:Int,0<=r->r<p->(r*b)%p=a%p->Q (.int r) H)
theorem qk:Fv ["self", "top", "bottom"] ["self", "top", "bottom"] (am bf):=.i
theorem AG{CR:Addr}(F:FunD K "of" "Rests.of" bf f fd)(cl:Cls K CR)(nM:Fx K CR "modulus")(Ia:`FnB 1 "inverse" yr)(ANoNumber:mg "NoNumber"=some (.ref GZ))(xc:XCl K GZ):
  aC P w K mg base (CXE P w) 2 f fd ["self", "top", "bottom"] (oJ CR GZ):=by
 erw[F.okX qk (λvs H Q E h=>?_) (λcdv A outer s H vs Q E hr h=>?_)]
 ·let#[x,dx,p,a,b,1,_]:=h
  rfl
 ·let#[x,dx,p,a,b,1,Y,h2,h9,hp,qn,qy]:=h;erw[_,(af (aT (az dJ (ap bC (pv 2) (bq (pv 0) rfl)) ak (aA _))
(aj (ii xc.ek ANoNumber (aa pG ag)))
aE)
(aj (ar (ap bC (ap bA (pv 1) (ay Ia hr.m (aa (pv 2) (aa (bq (pv 0) rfl) ag)))) (bq (pv 0) rfl))))),?_]
  have Z:(0:Int)<p:=()
  erw[11952411,0,0,x,CR,dx,_,0,Y,cl,nM,1,2,Z,1,0,?_]
  by_cases O:b%p=0
  ·rw[p_ (Ls V.int O)];rwa[cZ #[(by show 1<=sizeLine;decide),qn O]]
  ·rw[Gx (show ¬V.int (b%p)=V.int 0 from λz=>O (by injection z))]
   erw[cG #[519525,0,0,0,x,CR,dx,_,0,Y,cl,nM,1,b,p,1,h2,h9,hp,O,λr r0 r1 U=>?_]]
   erw[239523,2,.inr #[(),()],0,x,CR,dx,_,0,Y,cl,nM,1,2,Z,?_]
   erw[qy O _ (Lr _ ()) (La _ Z) ?_]
   apply lK;let#[k1,e1]:=j8 (a*r) p;let#[k2,e2]:=j8 (r*b) p;rw[U] at e2;erw[a*k2-k1*b,?_];have e3:a*r%p=a*r-p*k1:=()
   have e4:r*b=1+p*k2:=()
   rw[e3,Int.sub_mul,MS,e4,Int.mul_add,Int.mul_sub,Oy,MY,MS];lia
theorem FQ.mono{CR x:Addr}{p:Int}(h:FQ CF CR H x p)(k:∀o,H x=some o->H' x=some o):FQ CF CR H' x p:=by
 rcases h with⟨h0,dx,e⟩|⟨h0,dx,e⟩
 ·rwa[.inl #[h0,dx,k _ e]]
 ·rwa[.inr #[h0,dx,k _ e]]
theorem tD{m:Str}(e:(m==("modulus" : Str))=false)(v:V):List.lookup m [(("modulus" : Str),v)]=none:=by
 simp only[List.lookup,e]
def fE(CG:Addr)(H:Hp)(g x:Addr)(L:Int):Prop:=∃dx,H g=some (.ins CG dx [("kind",.ref x),("width",.int L)])
def kD(CG:Addr):Sp:=λvs H Q _=>∃(g x:Addr) (L:Int),vs=[.ref g]/\fE CG H g x L/\Q (.ref x) H
def rZ(CG:Addr):Sp:=λvs H Q _=>∃(g x:Addr) (L:Int),vs=[.ref g]/\fE CG H g x L/\Q (.int L) H
section
theorem jL:Fv ["self"] ["self"] (am eC):=.i
theorem Bv(F:Fun K "numbers" "Ring.numbers" eC f fd)(cl:Cls K CG)(nA:Fx K CG "kind"):`aC CX0 1 f fd ["self"] (kD CG):=by
 erw[F.o jL λ_ _ _ _ H _ Q _ U h=>?_]
 ·let#[g,x,L,1,#[dx,O],q]:=h;erw[_,(aj (ar (bq (pv 0) rfl))),?_];rwa[95,0,g,CG,dx,_,0,O,cl,nA,1,q]
theorem jM:Fv ["self"] ["self"] (am dW):=.i
theorem BR(F:Fun K "letters" "Ring.letters" dW f fd)(cl:Cls K CG)(nA:Fx K CG "width"):`aC CX0 1 f fd ["self"] (rZ CG):=by
 erw[F.o jM λ_ _ _ _ H _ Q _ U h=>?_]
 ·let#[g,x,L,1,#[dx,O],q]:=h;erw[_,(aj (ar (bq (pv 0) rfl))),?_];rwa[95,0,g,CG,dx,_,0,O,cl,nA,1,q]
end
def dP(P:Int)(p:ai):PyData:=.tuple [fJ p.1,dN P p.2]
def dS(P:Int)(out:List ai):PyData:=.list (out.map (dP P))
theorem xC(P:Int)(p:ai):(dP P p).canLay0=true/\(dP P p).depth<=2:=by
 have h1:=bH p.1;have h2:=e7 P p.2;have d1:(fJ p.1).depth<=1:=by simp[fJ,PyData.depth,PySem.W.ke_depthAll]
 have d2:(dN P p.2).depth<=1:=by
  unfold dN
  split
  ·simp[fJ,PyData.depth,PyData.depthAll]
  ·simp[PyData.depth]
 erw[?_,?_]
 ·simp only[dP,PyData.canLay0,PyData.canLayAll0,SeqAt.canLay_of_shaped h1,SeqAt.canLay_of_shaped h2,Bool.and_true]
 ·simp only[dP,PyData.depth,PyData.depthAll];lia
theorem yA(P:Int):∀out:List ai,PyData.canLayAll0 (out.map (dP P))=true/\PyData.depthAll (out.map (dP P))<=2
 |[]=>#[1,by simp[PyData.depthAll]]
 |p::r=>by
  let#[a,b]:=xC P p;let#[c,d]:=yA P r;erw[by simp only[K1,PyData.canLayAll0,a,c,Bool.and_true],?_]
  simp only[K1,PyData.depthAll];lia
theorem jy(P:Int)(out:List ai):SeqAt.shaped (dS P out)=true:=by
 let#[c,d]:=yA P out;unfold SeqAt.shaped dS;rw[Lp];erw[by simp only[PyData.canLay0,c],p_ ?_]
 simp only[PyData.depth];lia
theorem mJ{P:Int}:∀{ts:List V} {ps:List ai},FA P H ts ps->DRs K H (ps.map (dP P)) ts
 |_,_,.nil=>.nil
 |_,_,.cons ⟨t,k,u,e,h1,h2,h3⟩ r=>by
  rw[e];rwa[.cons (.tup (SqT.of h1) (.cons (dB (SqT.of h2)) (.cons (mK h3) .nil))) (mJ r)]
theorem yc{P:Int}{l:Addr}{ts:List V}(hl:H l=some (.lst ts))(h:FA P H ts ps):DR K H (dS P ps) (.ref l):=.lst (SqL.of hl) (mJ h)
theorem dI{P:Int}{x:Int×Int}(h:OkN P x):bu P (0,1) x=x:=by
 unfold bu
 rcases h with⟨h0,hd,hg⟩|⟨h0,a,b,c⟩
 ·rw[u_ h0];show nrm (0*x.2+x.1*1) (1*x.2)=x;rw[Int.zero_mul,Pr,Oy,Int.one_mul];exact(fO x.1 x.2 hd).mpr hg
 ·rw[t_ h0];show((0+x.1)%P,1)=x;rw[Pr,L8 a b];rwa[NU rfl c.symm]
def lY(CG CN:Addr):Sp:=λvs H Q E=>∃(g dx:Addr) (v:V) (L:Int),vs=[.ref g,v,.int L]/\H g=some (.ins CG dx [])/\(¬(1<=L/\L<=4)->E (.ref CN) none H)/\
 (1<=L->L<=4->Q .non (upd (upd H g (.ins CG dx [("kind",v)])) g (.ins CG dx [("kind",v),("width",.int L)])))
def oG(CF CR CG CN:Addr):Sp:=λvs H Q E=>∃P L:Int,vs=[.int P,.int L]/\Fz P/\(¬(1<=L/\L<=4)->∀H',Fu H H'->E (.ref CN) none H')/\
 (1<=L->L<=4->∀(g x:Addr) (H':Hp),Fu H H'->FQ CF CR H' x P->fE CG H' g x L->Q (.ref g) H')
theorem iV:Fv ["self", "numbers", "letters"] ["self", "numbers", "letters"] (am dw):=.i
theorem xx(F:Fun K "__init__" "Ring.__init__" dw f fd)(cl:Cls K CG)(nK:Fx K CG "kind")(nW:Fx K CG "width")(cMost:mg "MOST_LETTERS"=some (.int 4 tk))(ANoRing:mg "NoRing"=some (.ref Hb))(xc:XCl K Hb):
  aC P w K mg base (CXE P w) 2 f fd ["self", "numbers", "letters"] (lY CG Hb):=by
 erw[F.okX iV (λvs H Q E h=>?_) (λcdv A outer s H vs Q E hr h=>?_)]
 ·let#[g,dx,v,L,1,_]:=h
  rfl
 ·let#[g,dx,v,L,1,U,Y,Z]:=h;erw[_,(af (aT (PW.pt (qv (az jA (pv 2) ak (aA _)) (kX (az gL (pv 2) (bJ (v:=.int 4) rfl cMost #[0]) (aA _)))))
(aj (ii xc.ek ANoRing (aa pG ag)))
aE)
(af (br (pv 0) (pv 1) rfl)
(aj (br (pv 0) (pv 2) rfl)))),?_]
  have O:¬(1<=L/\L<=4)->E (.ref Hb) none H:=Y;erw[6211,0,2,0,cT (λh=>?_) (λh=>?_)]
  ·have h1:L<1:=A_ h;rwa[cZ #[(by show 1<=sizeLine;decide),O ()]]
  ·have h1:¬L<1:=λz=>h (p_ z)
   erw[6211,0,2,0,cT (λh=>?_) (λh=>?_)]
   ·have h4:L>4:=A_ h;rwa[(by show 1<=sizeLine;decide),O ()]
   ·have h4:¬L>4:=λz=>h (p_ z)
    rwa[51455145,0,0,g,CG,dx,0,U,cl,nK,#[],0,0,g,CG,dx,0,ae,cl,nW,(by show(1:Nat)<1000;decide),Z () ()]
theorem oR:Fv ["_law_prime_here", "_law_letters"] ["_law_prime_here", "_law_letters"] (am fT):=.i
theorem Ba{CR:Addr}(F:Fun K "_law_ring" "_law_ring" fT f fd)(Ih:`FnB 4 "_law_numbers" (zz CF CR))(J5:`Bm 2 CG "Ring" (lY CG Hb)):
  aC P w K mg base (CXE P w) 5 f fd ["_law_prime_here", "_law_letters"] (oG CF CR CG Hb):=by
 erw[F.okX oR (λvs H Q E h=>?_) (λcdv A outer s H vs Q E hr h=>?_)]
 ·let#[P,L,1,_]:=h
  rfl
 ·let#[P,L,1,hP,qn,qy]:=h;erw[_,(aj (ar (D8 J5 hr.m xg (aa (ay Ih hr.m (aa (pv 0) ag)) (aa (pv 1) ag))))),?_];erw[52,0,P,1,hP,λx H1 s1 hN=>#[0,λg dx Z U ne=>?_]]
  have s2:Fu H1 (upd (upd H1 dx (.own g)) g (.ins CG dx [])):=(Fu.new U).put Z;erw[43,g,dx,.ref x,L,1,ae,λhL=>qn hL _ (s1.trans s2),λh1 h4=>#[1,qy h1 h4 g x _ ?_ ?_ #[dx,ae]]]
  ·intro c o e;have Y:=s1 c o e;have O:c≠g:=ah Y Z;rw[al O,al O,al O,al (ah Y U)];rwa[Y]
  ·erw[hN.mono λo e=>?_]
   have O:x≠g:=ah e Z;rw[al O,al O,al O,al (ah e U)];rwa[e]
theorem ql{P:Int}(hn:(ps.map (·.1)).Nodup)(h:∀p∈ps,OkN P p.2):∀i,i<=ps.length->acc P (ps.take i)=ps.take i
 |0,_=>by simp[acc]
 |i+1,hi=>by
  obtain⟨q,eq⟩:∃q,ps[i]? = some q:=#[_,e_ ()]
  rw[ir eq,ql hn h i ()]
  have Z:bT (ps.take i) q.1=none:=by
   apply Gv.mpr;intro Y;have U:ps.take (i+1)=ps.take i++[q]:=by rw[Kw,eq];rfl
   have O:((ps.take (i+1)).map (·.1)).Nodup:=(List.Sublist.map _ (take_sublist _ _)).nodup hn;rw[U,KB,OM] at O;rwa[O.2.2 q.1 Y q.1 (by simp) rfl]
  unfold bW gf;rw[Z];show ps.take i++[(q.1,bu P (0,1) q.2)]=ps.take (i+1);rw[dI (h q (E_ eq)),Kw,eq]
  rfl
theorem jb{P:Int}(hn:(ps.map (·.1)).Nodup)(h:∀p∈ps,OkN P p.2):acc P ps=ps:=by
 have z:=ql hn h ps.length (ge _);rw[KU] at z;rwa[z]
theorem kR{P:Int}:∀p∈acc P ps,∃q∈ps,q.1=p.1:=by
 unfold acc;have go:∀(O m:List ai),(∀r∈O,r∈ps)->(∀p∈m,∃q∈ps,q.1=p.1)->∀p∈O.foldl (bW P) m,∃q∈ps,q.1=p.1:=by
  intro O
  induction O with
  |nil=>intro m _ h;rwa[h]
  |cons r O ih=>
   intro m U Z;erw[ih _ (λq hq=>U q (by simp[hq])) λp Y=>?_]
   rcases fX Y with z|z
   ·rwa[r,U r (by simp),by rw[z]]
   ·rwa[Z p z]
 rwa[go ps [] (λr U=>U) (λp Y=>nomatch Y)]
def co(m:List ai)(k:List Int):Int×Int:=(bT m k).getD (0,1)
theorem DT(k:List Int):co [] k=(0,1):=rfl
theorem Dk{r:List ai}{k:List Int}(e:p.1=k):co (p::r) k=p.2:=by unfold co;rw[bF e];rfl
theorem Dp{r:List ai}{k:List Int}(e:¬p.1=k):co (p::r) k=co r k:=by unfold co;rw[bb e]
theorem uj{m:List ai}(hn:(m.map (·.1)).Nodup)(h:p∈m):co m p.1=p.2:=by
 unfold co;rw[jX hn (show(p.1,p.2)∈m from h)]
 rfl
theorem uB{m:List ai}{k:List Int}(h:¬k∈m.map (·.1)):co m k=(0,1):=by
 unfold co;rw[Gv.mpr h]
 rfl
theorem dc(m:List ai)(k:List Int):(k,co m k)∈m\/(co m k=(0,1)/\¬k∈m.map (·.1)):=by
 unfold co;cases e:bT m k with
 |none=>rwa[.inr #[1,Gv.mp e]]
 |some y=>rwa[.inl (dL e)]
theorem uU{P:Int}(hB:0<=P)(h1:P≠1){m:List ai}(h:∀p∈m,OkN P p.2)(k:List Int):OkN P (co m k):=by
 rcases dc m k with z|⟨z,_⟩
 ·rwa[h _ z]
 ·rw[z];rwa[eZ hB h1]
theorem rg(m:List ai)(k:List Int)(x:Int×Int):bT (gf m k x) k=some x:=by
 unfold gf
 split
 ·rename_i hs
  induction m with
  |nil=>cases hs
  |cons p r ih=>
   rw[K1]
   by_cases e:p.1=k
   ·rw[u_ e];rwa[bF e]
   ·rw[t_ e,bb e];rwa[ih (by rw[bb e] at hs;rwa[hs])]
 ·rename_i hs;have O:bT m k=none:=by
   cases e:bT m k with
   |none=>rfl
   |some y=>rw[e] at hs;rwa[absurd rfl hs]
  clear hs
  induction m with
  |nil=>rwa[bF rfl]
  |cons p r ih=>
   by_cases e:p.1=k
   ·rw[bF e] at O;cases O
   ·rw[cons_append,bb e];rw[bb e] at O;rwa[ih O]
theorem jD(m:List ai){k k':List Int}(h:k'≠k)(x:Int×Int):bT (gf m k x) k'=bT m k':=by
 unfold gf
 split
 ·rename_i hs;clear hs
  induction m with
  |nil=>rfl
  |cons p r ih=>
   rw[K1]
   by_cases e:p.1=k
   ·have O:¬p.1=k':=λz=>h (z.symm.trans e)
    rw[u_ e,bb (p:=(p.1,x)) O,bb O];rwa[ih]
   ·rw[t_ e]
    by_cases O:p.1=k'
    ·rw[bF O,bF O]
    ·rw[bb O,bb O];rwa[ih]
 ·induction m with
  |nil=>rwa[bb (p:=(k,x)) (λz=>h z.symm)]
  |cons p r ih=>
   rename_i hs;rw[cons_append]
   by_cases O:p.1=k'
   ·rw[bF O,bF O]
   ·rw[bb O,bb O];apply ih;intro z;apply hs
    by_cases e:p.1=k
    ·rw[bF e];rfl
    ·rw[bb e];rwa[z]
theorem fh{P:Int}{x:Int×Int}(h:OkN P x):bu P x (0,1)=x:=by
 unfold bu
 rcases h with⟨h0,hd,hg⟩|⟨h0,a,b,c⟩
 ·rw[u_ h0];show nrm (x.1*1+0*x.2) (x.2*1)=x;rw[Int.zero_mul,Int.add_zero,Oy,Oy];exact(fO x.1 x.2 hd).mpr hg
 ·rw[t_ h0];show((x.1+0)%P,1)=x;rw[Int.add_zero,L8 a b];rwa[NU rfl c.symm]
theorem u9{P:Int}(hB:0<=P)(h1:P≠1):∀(b m:List ai) (k:List Int),(b.map (·.1)).Nodup->(∀p∈b,OkN P p.2)->(∀p∈m,OkN P p.2)->co (b.foldl (bW P) m) k=bu P (co m k) (co b k)
 |[],m,k,_,_,hm=>by
  rw[DT,fh (uU hB h1 hm k)]
  rfl
 |p::r,m,k,hn,hb,hm=>by
  have U:(p.1::r.map (·.1)).Nodup:=hn;let#[Z,n2]:=N5.mp U;have O:∀q∈bW P m p,OkN P q.2:=λq Y=>by
   rcases fX Y with z|z
   ·rw[z];rwa[iO hB (uU hB h1 hm p.1) (hb p (by simp))]
   ·rwa[hm q z]
  rw[List.foldl_cons,u9 hB h1 r (bW P m p) k n2 (λq Y=>hb q (by simp[Y])) O]
  by_cases e:p.1=k
  ·subst e;rw[Dk rfl,uB Z];have e2:co (bW P m p) p.1=bu P (co m p.1) p.2:=by
    unfold bW;show((bT (gf m p.1 _) p.1).getD (0,1))=_;rw[rg]
    rfl
   rw[e2,fh (iO hB (uU hB h1 hm p.1) (hb p (by simp)))]
  ·rw[Dp e];have e2:co (bW P m p) k=co m k:=by
    unfold bW;show((bT (gf m p.1 _) k).getD (0,1))=_;rw[jD _ (λz=>e z.symm)]
    rfl
   rw[e2]
theorem oW{P:Int}(hB:0<=P)(h1:P≠1){b:List ai}(na:(a.map (·.1)).Nodup)(nb:(b.map (·.1)).Nodup)(ha:∀p∈a,OkN P p.2)(hb:∀p∈b,OkN P p.2)(k:List Int):co (acc P (a++b)) k=bu P (co a k) (co b k):=by
 have e:acc P (a++b)=b.foldl (bW P) (acc P a):=by unfold acc;rw[foldl_append]
 rw[e,jb na ha];rwa[u9 hB h1 b a k nb hb ha]
def jI(a b:ai):Prop:=klt (hk b) (hk a)=true
theorem fy(h:a.Pairwise jI):(a.map (·.1)).Nodup:=by
 rw[List.Nodup,Oc];erw[h.imp λ{x y} z e=>?_]
 unfold jI at z;have e2:hk x=hk y:=by unfold hk;rw[e]
 rw[e2,uo] at z;cases z
theorem AS{b:List ai}(fa:a.Pairwise jI)(fb:b.Pairwise jI)(za:∀p∈a,nz p=true)(zb:∀p∈b,nz p=true)(h:∀k,co a k=co b k):a=b:=by
 have U:=fy fa;have nb:=fy fb;have sub:∀{a b:List ai},(a.map (·.1)).Nodup->(∀p∈a,nz p=true)->(∀k,co a k=co b k)->∀p∈a,p∈b:=λ{a b} U za h p O=>by
  have e:=uj U O;rw[h] at e
  rcases dc b p.1 with z|⟨z,_⟩
  ·rw[e] at z;rwa[z]
  ·rw[z] at e;have:=za p O;unfold nz at this;rwa[absurd e.symm (A_ this)]
 have Y:a.Nodup:=List.Pairwise.of_map (·.1) (λ_ _ h z=>h (by rw[z])) U
 have Z:b.Nodup:=List.Pairwise.of_map (·.1) (λ_ _ h z=>h (by rw[z])) nb
 have pm:a.Perm b:=(List.perm_ext_iff_of_nodup Y Z).mpr λp=>#[λO=>sub U za h p O,λO=>sub nb zb (λk=>(h k).symm) p O]
 rwa[gg (lt:=λx y=>klt (hk x) (hk y)) (λ_=>uo _) (λ_ _ _=>m9) pm fa fb]
theorem F3.nz{P:Int}(h:F3 P ps out):∀p∈out,_root_.K.nz p=true:=λp O=>(LM.mp (h.1.mem_iff.mp O)).2
theorem F3.mem{P:Int}(h:F3 P ps out):∀p∈out,p∈acc P ps:=λp O=>(LM.mp (h.1.mem_iff.mp O)).1
theorem F3.co{P:Int}(h:F3 P ps out)(k:List Int):_root_.K.co out k=_root_.K.co (acc P ps) k:=by
 have Y:=jq P ps;have no:=fy h.2
 rcases dc out k with z|⟨z,hk⟩
 ·have e:=uj Y (h.mem _ z);rwa[e.symm]
 ·rw[z]
  rcases dc (acc P ps) k with U|⟨U,_⟩
  ·by_cases O:_root_.K.nz (k,_root_.K.co (acc P ps) k)=true
   ·have:(k,_root_.K.co (acc P ps) k)∈out:=h.1.mem_iff.mpr (LM.mpr #[U,O]);rwa[absurd (GK.mpr #[_,this,1]) hk]
   ·unfold _root_.K.nz at O;have:_root_.K.co (acc P ps) k=(0,1):=Decidable.of_not_not λy=>O (p_ y)
    rwa[this.symm]
  ·rwa[U.symm]
theorem Al{P:Int}(h:F3 P ps out)(fa:a.Pairwise jI)(za:∀p∈a,_root_.K.nz p=true)(e:∀k,_root_.K.co (acc P ps) k=_root_.K.co a k):out=a:=
 AS h.2 fa h.nz za λk=>(h.co k).trans (e k)
def FL(P L:Int)(z:Nat)(ps:List ai):Prop:=ps.Pairwise jI/\∀p∈ps,OkN P p.2/\Sz z p.2/\nz p=true/\(p.1.length:Int)=L/\∀e∈p.1,0<=e
theorem FL.nodup{P L:Int}(h:FL P L z ps):(ps.map (·.1)).Nodup:=fy h.1
theorem FL.ok{P L:Int}(h:FL P L z ps):∀p∈ps,OkN P p.2:=λp O=>(h.2 p O).1
theorem DZ(hz:1<=z):Sz z (0,1):=#[Nat.pow_pos #[],Nat.one_lt_two_pow ()]
theorem kL{P:Int}(hP:Fz P){b:List ai}{x y:Nat}(na:(a.map (·.1)).Nodup)(nb:(b.map (·.1)).Nodup)(ha:∀p∈a,OkN P p.2/\Sz x p.2)(hb:∀p∈b,OkN P p.2/\Sz y p.2)(hx:x<=z)(hy:y<=z)(h14:14<=x)(hy1:1<=y)(hz:∀k u v,(k,u)∈a->(k,v)∈b->Sz z (bu P u v)):∀p∈acc P (a++b),Sz z p.2:=by
 have Z:=hP.b;intro p Y;have e:=uj (jq P (a++b)) Y;rw[oW Z.1 Z.2.2 na nb (λp Y=>(ha p Y).1) (λp Y=>(hb p Y).1)] at e
 rw[<- e]
 rcases dc a p.1 with U|⟨U,_⟩
 ·rcases dc b p.1 with O|⟨O,_⟩
  ·rwa[hz _ _ _ U O]
  ·rw[O,fh (ha _ U).1];exact(ha _ U).2.mono hx
 ·rw[U]
  rcases dc b p.1 with O|⟨O,_⟩
  ·rw[dI (hb _ O).1];exact(hb _ O).2.mono hy
  ·rw[O,dI (eZ Z.1 Z.2.2)];rwa[DZ ()]
theorem nJ{P:Int}(hP:Fz P){b:List ai}{x y:Nat}(na:(a.map (·.1)).Nodup)(nb:(b.map (·.1)).Nodup)(ha:∀p∈a,OkN P p.2/\Sz x p.2)(hb:∀p∈b,OkN P p.2/\Sz y p.2)(hx:x<=2900)(hy:y<=2900)(h14:14<=x)(hy1:1<=y)(hz:∀k u v,(k,u)∈a->(k,v)∈b->Sz 2900 (bu P u v)):iG P (a++b):=by
 erw[λp O=>?_,λi p O=>?_]
 ·rcases KI.mp O with z|z
  ·rwa[(ha p z).1,(ha p z).2.mono hx]
  ·rwa[(hb p z).1,(hb p z).2.mono hy]
 ·rw[List.take_append] at O;have U:((a.take i).map (·.1)).Nodup:=(List.Sublist.map _ (take_sublist _ _)).nodup na;have Y:((b.take (i-a.length)).map (·.1)).Nodup:=(List.Sublist.map _ (take_sublist _ _)).nodup nb;rwa[kL hP U Y (λp O=>ha p (Mp O)) (λp O=>hb p (Mp O)) hx hy h14 hy1 (λk u v h1 h2=>hz k u v (Mp h1) (Mp h2)) p O]
theorem wW{P L:Int}(hP:Fz P){b:List ai}{x y:Nat}(ca:FL P L x a)(cb:FL P L y b)(h14:14<=x)(hs:F3 P (a++b) out):FL P L (x+y+1) out/\out.length<=a.length+b.length:=by
 have Y:=hP.b;have Z:∀q∈acc P (a++b),OkN P q.2:=fW Y.1 Y.2.2 λq O=>by
  rcases KI.mp O with z|z
  ·rwa[ca.ok q z]
  ·rwa[cb.ok q z]
 have a6:=kL (z:=x+y+1) hP ca.nodup cb.nodup (λp U=>#[(ca.2 p U).1,(ca.2 p U).2.1]) (λp U=>#[(cb.2 p U).1,(cb.2 p U).2.1.mono (Op y 1)]) () () h14 () (λk u v h1 h2=>(gB Y.1 Y.2.1 (ca.ok _ h1) (cb.ok _ h2) (ca.2 _ h1).2.1 (cb.2 _ h2).2.1 h14).1)
 erw[#[hs.2,λq O=>#[Z q (hs.mem q O),a6 q (hs.mem q O),hs.nz q O,?_]],?_]
 ·let#[r,hr,e]:=kR q (hs.mem q O);rw[<- e]
  rcases KI.mp hr with z|z
  ·rwa[(ca.2 r z).2.2.2.1,(ca.2 r z).2.2.2.2]
  ·rwa[(cb.2 r z).2.2.2.1,(cb.2 r z).2.2.2.2]
 ·have e1:=hs.1.length_eq;have e2:=Nb _root_.K.nz (acc P (a++b));have e3:=ij P (a++b);rw[y_] at e3;lia
def jh:Sp:=λvs H Q _=>∃(p:Addr) (P a b:Int) (k:Nat),vs=[.int P,.ref p,.bl false]/\Fz P/\H p=some (.lst [.int a,.int b])/\FI a b k/\k<=700000/\
 ∀(v:V) (x:Int×Int) (a' b':Int) (H':Hp),At P H' v x->OkN P x->(P=0->Sz 2 x)->H' p=some (.lst [.int a',.int b'])->FI a' b' (k+2)->(∀c o,H c=some o->c≠p->H' c=some o)->Q v H'
theorem sk(F:Fun K "_law_number" "_law_number" eQ f fd)(T:Blt mg)(GY:`FnB 1 "_law_take" eM)(Hs:`FnB 2 "_law_great" pE)(Iq:`FnB 3 "_law_signed" qW)(He:`FnB 1 "_law_low" uY):
  aC P w K mg base CX0 4 f fd ["_law_prime_here", "_law_bag_here", "_law_great_here"] jh:=by
 erw[F.o lT λ_ _ _ _ H _ Q _ U h=>?_]
 ·let#[p,P,a,b,k,1,hP,hp,hb,hk,q]:=h;erw[_,(af (aT (az gL (pv 0) ak (aA _))
(aj (ar (ay GY U.m (aa (pv 1) (aa (pv 0) ag)))))
aE)
(af (aT (oY (pv 2))
(aj (ar (ay He U.m (aa (ay Iq U.m (aa (pv 1) ag)) (aa (ya T (aa ak (aa (ay Hs U.m (aa (pv 1) ag)) ag))) ag)))))
aE)
(aj (ar (ay He U.m (aa (ap bE (ay GY U.m (aa (pv 1) (aa ak ag))) ak) (aa (ap aX ak (ap bM (ay GY U.m (aa (pv 1) (aa ak ag))) ak)) ag))))))),?_]
  have k1:∀o c o',H c=some o'->c≠p->(upd H p o) c=some o':=λo c o' e Z=>by rw[al Z];rwa[e]
  erw[6211,0,2,0,cT (λh=>?_) (λh=>?_)]
  ·have h0:0<P:=A_ h;have h9:P<=9973:=by rcases hP with z|⟨_,z,_⟩<;>lia
   erw[1196,0,0,p,a,b,P,k,1,hp,hb,(),h0,aM () (),λr a1 b1 r0 Y O=>?_]
   rwa[q _ (r,1) a1 b1 _ (.inr #[(),1,1]) (.inr #[(),r0,Y,1]) (λz=>absurd z ()) ae (O.mono ()) (k1 _)]
  have h0:P=0:=by
   have h1:¬0<P:=λz=>h (p_ z)
   rcases hP with z|⟨z,_⟩<;>lia
  erw[51,0,0,?_];erw[cG #[96,0,p,a,b,(7),k,1,hp,hb,(),#[],aM #[] #[],λY a1 b1 a7 a8 O=>?_]]
  erw[22,2,?_];erw[96,0,p,a1,b1,(8),k+1,1,ae,O,(),#[],aM #[] #[],λr2 a2 b2 a9 a' a6=>?_]
  erw[2322,2,ie #[] #[],2,?_]
  rw[fA];have hm:(1:Int)<=1+r2.fdiv 7/\1+r2.fdiv 7<4:=by
   rw[Int.fdiv_eq_ediv_of_nonneg _ #[]]
   lia
  erw[23,Y-3,1+r2.fdiv 7,1,(),aM () (),λt ht=>?_]
  generalize 1+r2.fdiv 7=dd at *;have pt:p≠t:=ah (o:=.lst [.int a2,.int b2]) ae ht;have hl:=oS (Y-3) dd ()
  erw[q _ (nrm (Y-3) dd) a2 b2 _ (.inl #[h0,t,1,ae]) (.inl #[h0,iM _ _ (),iS _ _ ()]) (λ_=>#[Li hl.1 (by show(Y-3).natAbs<4;lia),Li hl.2 (by show dd.natAbs<4;lia)]) (by rw[al pt,ae]) (a6.mono ()) λc o e Z=>?_]
  rw[al (ah (k1 _ c o e Z) ht)];rwa[k1 _ c o e Z]
def sD:Sp:=λvs H Q _=>∃(p:Addr) (L M a b:Int) (k:Nat),vs=[.int L,.int M,.ref p]/\1<=L/\L<=4/\0<=M/\M<=1000/\H p=some (.lst [.int a,.int b])/\FI a b k/\k<=100000/\
 ∀(t:Addr) (es:List Int) (a' b':Int) (H':Hp),(es.length:Int)=L->(∀e∈es,0<=e)->es.sum=M->H' t=some (.tup (es.map V.int))->H' p=some (.lst [.int a',.int b'])->FI a' b' (k+6)->(∀c o,H c=some o->c≠p->H' c=some o)->Q (.ref t) H'
theorem FY:Fv ["_law_letters", "_law_many", "_law_bag_here", "_law_found", "_law_left", "_law_letter", "_law_here"] ["_law_letters", "_law_many", "_law_bag_here"] (am dO):=.i
theorem sU(F:Fun K "_law_product" "_law_product" dO f fd)(T:Blt mg)(GY:`FnB 1 "_law_take" eM):`aC CX0 2 f fd ["_law_letters", "_law_many", "_law_bag_here"] sD:=by
 erw[F.o FY λ_ _ _ _ H _ Q _ hr h=>?_]
 ·let#[p,L,M,a,b,k,1,ax,b0,a9,b1,hp,hb,hk,q]:=h;erw[_,(af (aq (i:=3) FY.nd rfl #[4] (aQ ag))
(af (aq (i:=4) FY.nd rfl #[4] (pv 1))
(af (bi GM rfl (bj rfl T.range (aa (ap bE (pv 0) ak) ag)) (aO (i:=5) FY.nd rfl #[4])
(af (aq (i:=6) FY.nd rfl #[4] (ay GY hr.m (aa (pv 2) (aa (ap aX (pv 4) ak) ag))))
(af (aZ (bmA K rfl (pv 3) (aa (pv 6) ag)))
(aj (aq (i:=4) FY.nd rfl #[4] (ap bE (pv 4) (pv 6)))))))
(aj (ar (nX K T (ap pJ (pv 3) (aQ (aa (pv 4) ag))))))))),?_]
  erw[Gw _,λl hl=>?_]
  have pl:p≠l:=ah hp hl;erw[0,?_];erw[6213,0,2,0,(),(),mZ (n:=(L-1).toNat) (λi σ H'=>∃(es:List Int) (left a b:Int) (x5 x6:Option V),σ=[some (.int L),some (.int M),some (.ref p),some (.ref l),some (.int left),x5,x6]/\es.length=i/\(∀e∈es,0<=e)/\0<=left/\(left<=M/\es.sum+left=M)/\
    H' l=some (.lst (es.map V.int))/\H' p=some (.lst [.int a,.int b])/\FI a b (k+i)/\(∀c o,H c=some o->c≠p->H' c=some o)) ?_ ?_ ?_]
  ·erw[4028,[],M,a,b,none,none,1,1,λe he=>absurd he (by simp),a9,#[Int.le_refl _,by simp],ae,(by rw[al pl];rwa[hp]),hb,λc o e hc=>?_]
   rw[al (ah e hl)];rwa[e]
  ·rintro i σ H2 hi ⟨es,left,a2,b2,x5,x6,rfl,O,Z,a7,⟨ac,ad⟩,Y,a6,U,kp⟩;erw[51224016,0,0,2,p,a2,b2,_,k+i,1,a6,U,(),(),aM () (),λr3 a3 b3 au b4 a'=>?_]
   have a8:(upd H2 p (.lst [.int a3,.int b3])) l=some (.lst (es.map V.int)):=by rw[al pl.symm];rwa[Y]
   erw[1274,0,.inl #[1,_,SqL.of a8],0,l,2,a8,iY (by rw[k_];lia),?_]
   erw[5122,0,0,2,?_];erw[4028,es++[r3],left-r3,a3,b3,_,0,by rw[y_,GV,O],λe he=>?_,(),#[(),by rw[sum_append];simp;lia],by rw[ae,KB];rfl,by rw[al pl,ae],by rw[show k+(i+1)=k+i+1 by lia];rwa[a'],λc o e hc=>?_]
   ·rcases KI.mp he with z|z
    ·rwa[Z e z]
    ·rw[GF.mp z];rwa[au]
   ·rw[al (ah e hl),al hc];rwa[kp c o e hc]
  ·rintro σ H2 ⟨es,left,a2,b2,x5,x6,rfl,O,Z,a7,⟨ac,ad⟩,Y,a6,U,kp⟩;erw[52,0,0,(by show 1<=sizeLine;decide),λl1 n1=>?_]
   have s1:=Fu.new (o:=.lst [.int left]) n1;have h4:(10:Nat)<=sizeLine:=#[]
   erw[45,l,l1,2,s1 _ _ Y,ae,by rw[k_,GV];lia,λl2 n2=>?_]
   have s2:=Fu.new (o:=.lst (es.map V.int++[.int left])) n2;erw[22,l2,0,SqL.of ae,λt ht=>?_]
   have s3:=Fu.new (o:=.tup (es.map V.int++[.int left])) ht;have sm:=(s1.trans s2).trans s3;erw[q t (es++[left]) a2 b2 _ (by rw[y_,GV];lia) (λe he=>?_) (by rw[sum_append];simp;lia) (by rw[ae,KB];rfl) (sm _ _ a6) (U.mono ()) (λc o e hc=>sm c o (kp c o e hc))]
   rcases KI.mp he with z|z
   ·rwa[Z e z]
   ·rw[GF.mp z];rwa[a7]
def FW(P:Int)(H:Hp)(v:V)(e:List ai):Prop:=∃l ts,v=.ref l/\H l=some (.lst ts)/\FA P H ts e
def FS(P:Int)(H:Hp)(v:V)(row:List (List ai)):Prop:=∃r es,v=.ref r/\H r=some (.lst es)/\Paired (FW P H) es row
theorem ao{R S:α->β->Prop}(h:∀x y,R x y->S x y):∀{xs:List α} {ys:List β},Paired R xs ys->Paired S xs ys
 |_,_,.nil=>.nil
 |_,_,.cons q r=>.cons (h _ _ q) (ao h r)
theorem aD{R:α->β->Prop}:∀{xs:List α} {ys:List β} {i:Nat} {x:α},Paired R xs ys->xs[i]? = some x->∃y,ys[i]? = some y/\R x y
 |_,_,0,x,.cons q r,e=>by cases e;rwa[0,q]
 |_::_,_::_,i+1,x,.cons q r,e=>aD (i:=i) r e
theorem aK{R:α->β->Prop}{x:α}{y:β}(h:R x y):∀{xs:List α} {ys:List β},Paired R xs ys->Paired R (xs++[x]) (ys++[y])
 |_,_,.nil=>.cons h .nil
 |_,_,.cons q r=>.cons q (aK h r)
theorem hU{R:α->β->Prop}:∀{xs:List α} {ys:List β} {x:α},Paired R xs ys->x∈xs->∃y∈ys,R x y
 |_,_,x,.cons q r,O=>by
  rcases GH.mp O with rfl|O
  ·rwa[_,by simp,q]
  ·let#[y,U,h]:=hU r O;rwa[y,by simp[U],h]
theorem FW.same{P:Int}(s:Fu H H')(h:FW P H v e):FW P H' v e:=by
 let#[l,ts,1,O,U]:=h;rwa[22,l,ts,1,s _ _ O,U.mono λt xs e=>s _ _ e]
theorem FS.same{P:Int}{row:List (List ai)}(s:Fu H H')(h:FS P H v row):FS P H' v row:=by
 let#[r,es,1,O,U]:=h;rwa[22,r,es,1,s _ _ O,ao (λ_ _=>FW.same s) U]
def KeepB(p:Addr)(H H':Hp):Prop:=(∃xs,H p=some (.lst xs))/\(∃ys,H' p=some (.lst ys))/\∀c o,H c=some o->c≠p->H' c=some o
theorem KeepB.put{p:Addr}{ys:List V}(h:H p=some (.lst xs)):KeepB p H (upd H p (.lst ys)):=#[#[_,h],#[_,ae],λc o e O=>by rw[al O];rwa[e]]
def FB(av:List Addr)(H H':Hp):Prop:=(∀t xs,H t=some (.tup xs)->H' t=some (.tup xs))/\∀c o,H c=some o->c∉av->H' c=some o
theorem FB.of(s:Fu H H'):FB av H H':=#[λt xs e=>s _ _ e,λc o e _=>s c o e]
theorem FB.trans{H1 H2:Hp}(a:FB av H H1)(b:FB av H1 H2):FB av H H2:=#[λt xs e=>b.1 t xs (a.1 t xs e),λc o e O=>b.2 c o (a.2 c o e O) O]
theorem FB.bag{p:Addr}(hp:H p=some (.lst xs))(k:∀c o,H c=some o->c≠p->H' c=some o)(m:p∈av):FB av H H':=
 #[λt ys e=>k t _ e (aw e hp #[3]),λc o e O=>k c o e λz=>O (by rw[z];rwa[m])]
theorem FB.put{ys:List V}(h:H r=some (.lst xs))(m:r∈av):FB av H (upd H r (.lst ys)):=FB.bag h (λc o e O=>by rw[al O];rwa[e]) m
def EntA(av:List Addr)(P:Int)(H:Hp)(v:V)(e:List ai):Prop:=∃l ts,v=.ref l/\l∉av/\H l=some (.lst ts)/\FA P H ts e
theorem EntA.keep{P:Int}(k:FB av H H')(h:EntA av P H v e):EntA av P H' v e:=by
 let#[l,ts,1,O,U,Y]:=h;rwa[23,l,ts,1,O,k.2 _ _ U O,Y.mono k.1]
theorem EntA.ent{P:Int}(h:EntA av P H v e):FW P H v e:=by
 let#[l,ts,1,_,O,U]:=h;rwa[22,l,ts,1,O,U]
def FF(H0:Hp)(r:Addr)(P:Int)(H:Hp)(v:V)(e:List ai):Prop:=∃l ts,v=.ref l/\H0 l=none/\l≠r/\H l=some (.lst ts)/\FA P H ts e
theorem FF.keep{p:Addr}{o:HO}{P:Int}(hp:H0 p=some o)(k:FB [p,r] H H')(h:FF H0 r P H v e):FF H0 r P H' v e:=by
 let#[l,ts,1,O,U,Y,pr]:=h;have Z:l≠p:=λz=>by rw[z,hp] at O;cases O
 rwa[24,l,ts,1,O,U,k.2 _ _ Y (by simp[Z,U]),pr.mono k.1]
theorem FF.keepA{P:Int}(hav:∀a∈av,a=r\/H0 a≠none)(k:FB av H H')(h:FF H0 r P H v e):FF H0 r P H' v e:=by
 let#[l,ts,1,O,U,Y,Z]:=h;erw[24,l,ts,1,O,U,k.2 _ _ Y (λm=>?_),Z.mono k.1]
 rcases hav l m with z|z
 ·rwa[U z]
 ·rwa[z O]
theorem FF.ent{P:Int}(h:FF H0 r P H v e):FW P H v e:=by
 let#[l,ts,1,_,_,O,U]:=h;rwa[22,l,ts,1,O,U]
theorem tu{p:Addr}{o:HO}(k:∀c o,H c=some o->c≠p->H' c=some o)(hp:H' p=some o)(hd:H' d=none):H d=none:=by
 cases e:H d with
 |none=>rfl
 |some x=>
  by_cases z:d=p
  ·rw[z,hp] at hd;cases hd
  ·rw[k d x e z] at hd;cases hd
theorem jC{R:α->β->Prop}{x:α}{y:β}(h:R x y):∀{xs:List α} {ys:List β} (i:Nat),Paired R xs ys->Paired R (xs.set i x) (ys.set i y)
 |_,_,_,.nil=>.nil
 |_,_,0,.cons q r=>.cons h r
 |_,_,i+1,.cons q r=>.cons q (jC h i r)
theorem pM{P:Int}(hP:Fz P){S:Nat}(hS:14<=S)(h:∀p∈ps,OkN P p.2/\Sz S p.2):∀i,i<=ps.length->∀p∈acc P (ps.take i),Sz ((S+1)*i) p.2
 |0,_,p,hp=>by simp[acc] at hp
 |i+1,hi,p,hp=>by
  have O:=hP.b;obtain⟨q,eq⟩:∃q,ps[i]? = some q:=#[_,e_ ()]
  have Z:=pM hP hS h i ()
  have Y:∀q∈acc P (ps.take i),OkN P q.2:=fW O.1 O.2.2 λq hq=>(h q (Mp hq)).1
  let#[oq,zq]:=h q (E_ eq);have e3:(S+1)*(i+1)=(S+1)*i+(S+1):=Nat.mul_succ _ _;rw[ir eq] at hp
  rcases fX hp with z|z
  ·rw[z];show Sz ((S+1)*(i+1)) (bu P ((bT (acc P (ps.take i)) q.1).getD (0,1)) q.2);cases e:bT (acc P (ps.take i)) q.1 with
   |none=>
    show Sz _ (bu P (0,1) q.2);rw[dI oq];rwa[zq.mono ()]
   |some y=>
    have U:=dL e;have sy:Sz ((S+1)*i) y:=Z _ U;have pos:1<=i:=by
     cases i with
     |zero=>simp[acc] at U
     |succ j=>lia
    have e4:S+1<=(S+1)*i:=Nat.le_mul_of_pos_right _ pos;exact(gB O.1 O.2.1 (Y _ U) oq sy zq ()).1.mono ()
  ·exact(Z p z).mono ()
theorem uC{P:Int}(hP:Fz P){S:Nat}(hS:14<=S)(h:∀p∈ps,OkN P p.2/\Sz S p.2)(hn:ps.length<=n)(i:Nat):∀p∈acc P (ps.take i),Sz ((S+1)*n) p.2:=λp O=>by
 by_cases hi:i<=ps.length
 ·exact(pM hP hS h i hi p O).mono (Oj _ ())
 ·rw[Ob ()] at O
  exact(pM hP hS h ps.length (ge _) p (by rw[KU];rwa[O])).mono (Oj _ hn)
theorem Bz{P:Int}(hP:Fz P){S:Nat}(hS:14<=S)(h:∀p∈ps,OkN P p.2/\Sz S p.2)(hn:ps.length<=n)(h1:S<=2900)(h2:(S+1)*n<=2900):iG P ps:=#[λp O=>#[(h p O).1,(h p O).2.mono h1],λi p O=>(uC hP hS h hn i p O).mono h2]
theorem BH{P L:Int}(hP:Fz P){S:Nat}(hS:14<=S)(h:∀p∈ps,OkN P p.2/\Sz S p.2/\(p.1.length:Int)=L/\∀e∈p.1,0<=e)(hn:ps.length<=n)(hs:F3 P ps out):FL P L ((S+1)*n) out/\out.length<=n/\∀q∈out,∃r∈ps,r.1=q.1:=by
 have Y:=hP.b;have h':∀p∈ps,OkN P p.2/\Sz S p.2:=λp U=>#[(h p U).1,(h p U).2.1]
 have fr:∀q∈out,∃r∈ps,r.1=q.1:=λq O=>kR q (hs.mem q O)
 erw[#[hs.2,λq O=>#[fW Y.1 Y.2.2 (λp U=>(h p U).1) q (hs.mem q O),uC hP hS h' hn ps.length q (by rw[KU];rwa[hs.mem q O]),hs.nz q O,?_]],?_,fr]
 ·let#[r,Z,e]:=fr q O;rw[<- e];exact(h r Z).2.2
 ·have e1:=hs.1.length_eq;have e2:=Nb nz (acc P ps);have e3:=ij P ps;lia
def RowA(av:List Addr)(P:Int)(H:Hp)(v:V)(row:List (List ai)):Prop:=∃r es,v=.ref r/\r∉av/\H r=some (.lst es)/\Paired (EntA av P H) es row
theorem RowA.keep{P:Int}{row:List (List ai)}(k:FB av H H')(h:RowA av P H v row):RowA av P H' v row:=by
 let#[r,es,1,O,U,Y]:=h;rwa[23,r,es,1,O,k.2 _ _ U O,ao (λ_ _=>EntA.keep k) Y]
theorem RowA.row{P:Int}{row:List (List ai)}(h:RowA av P H v row):FS P H v row:=by
 let#[r,es,1,_,O,U]:=h;rwa[22,r,es,1,O,ao (λ_ _=>EntA.ent) U]
theorem A5{P:Int}{σ:L2.St}{a:Addr}{es:List V}{row:List (List ai)}(hσ:bG src σ=none::rest)(ha:H0 a=some (.lst es))(pr:Paired (FW P H0) es row)(hl:es.length<=60)(hd:∀acc a6 H',H0 acc=none->Fu H0 H'->H' acc=some (.lst a6)->Paired (FF H0 acc P H') a6 row->Q (.ref acc) H'):bK (Itl K a) src (bV 0) jQ (tCB (zK K) (bR (Ed 0) cI)) σ H0 Q:=by
 have le:es.length=row.length:=Paired.length pr;erw[cY (n:=es.length) (σ0:=none::rest) hσ (λacc i ws σ H'=>∃u:Option V,σ=u::rest/\Fu H0 H'/\Paired (FF H0 acc P H') ws (row.take i)) (by rw[Gr];lia) (λacc O=>#[none,1,Fu.new O,by rw[take_zero];rwa[.nil]]) ?_ ?_ ?_ ?_]
 ·rintro acc i ws σ H' O hi hz ⟨u,rfl,U,_⟩;rwa[21,es,es[i],SqL.of (U _ _ ha),by simp[hi]]
 ·rintro acc ws σ H' O hz ⟨u,rfl,U,_⟩;rwa[es,SqL.of (U _ _ ha),ge _]
 ·rintro acc i ws σ H1 x H' O hi hz a8 ⟨u,rfl,U,pw⟩ ⟨rfl,gx⟩;have hx:=gx es (SqL.of (U _ _ ha));let#[e,ee,l,ts,1,a7,pe]:=aD pr hx;erw[62,0,l,ts,1,.inl (SqL.of (U _ _ a7)),λZ n2=>?_]
  have s2:=Fu.new (o:=.lst ts) n2;have h2:(upd H' Z (.lst ts)) Z=some (.lst ts):=ae;have la:Z≠acc:=(ah hz n2).symm;generalize upd H' Z (.lst ts)=H2 at *;have Y:=s2 _ _ hz;have k:FB [acc] H' (upd H2 acc (.lst (ws++[.ref Z]))):=(FB.of s2).trans (FB.put Y (by simp))
  have k2:FB [acc] H2 (upd H2 acc (.lst (ws++[.ref Z]))):=FB.put Y (by simp)
  erw[ws,Y,by rw[Gr];lia,_,ae,by rw[y_,GV];lia,0,(U.trans s2).put O,?_]
  rw[Kw,ee];erw[aK ?_ (ao (λ_ _=>FF.keepA (av:=[acc]) (λa ha=>.inl (by simpa using ha)) k) pw)]
  rwa[24,Z,ts,1,U.free n2,la,by rw[al la];rwa[h2],(pe.mono λt xs e=>s2 _ _ (U _ _ e)).mono k2.1]
 ·rintro acc ws σ H1 O hz a8 ⟨u,rfl,U,pw⟩;rw[le,KU] at pw;rwa[hd acc ws H1 O U hz pw]
theorem l9{σ σ0:L2.St}{P:Int}(hσ:bG src σ=σ0)(Sh:L2.St->Prop)(Rel:Nat->List ai->Prop)(hn:n<=60)(h0:Sh σ0)(hgo:∀i H,i<n->Fu H0 H->J.go i H)(hst:∀H,Fu H0 H->J.stop n H)(turn:∀i σ H x H' (R:L2.St->VK),i<n->Sh σ->Fu H0 H->J.yld i H x H'->(∀σ2 l ts e H2,Sh σ2->Fu H H2->H l=none->H2 l=some (.lst ts)->FA P H2 ts e->Rel i e->R σ2 (.ref l) H2)->g x σ H' λσ2 H2=>te σ2 H2 (R σ2))(hd:∀acc es row H,H0 acc=none->Fu H0 H->H acc=some (.lst es)->Paired (FF H0 acc P H) es row->row.length=n->(∀i e,row[i]? = some e->Rel i e)->Q (.ref acc) H):
  bK J src g jQ te σ H0 Q:=by
 erw[cY (n:=n) (σ0:=σ0) hσ (λacc i zs σ H=>Sh σ/\Fu H0 H/\∃row,Paired (FF H0 acc P H) zs row/\row.length=i/\∀j e,row[j]? = some e->Rel j e) (by rw[Gr];lia) (λacc O=>#[h0,Fu.new O,[],.nil,1,λj e z=>by simp at z]) ?_ ?_ ?_ ?_]
 ·rintro acc i zs σ H O hi hz ⟨_,U,_⟩;rwa[hgo i H hi U]
 ·rintro acc zs σ H O hz ⟨_,U,_⟩;rwa[hst H U]
 ·rintro acc i zs σ H x H' O hi hz a7 ⟨sh,U,row,pr,lr,a6⟩ hy;erw[turn i σ H x H' (λσ2 y H4=>∃ys,H4 acc=some (.lst ys)/\ys.length<sizeLine/\∃zs,(upd H4 acc (.lst (ys++[y]))) acc=some (.lst zs)/\zs.length<=i+1/\Sh σ2/\Fu H0 (upd H4 acc (.lst (ys++[y])))/\∃row,Paired (FF H0 acc P (upd H4 acc (.lst (ys++[y])))) zs row/\row.length=i+1/\∀j e,row[j]? = some e->Rel j e) hi sh U hy λσ2 l ts e H2 a8 s2 nl hl pe re=>?_]
  have Z:=s2 _ _ hz;have kp:FB [acc] H (upd H2 acc (.lst (zs++[.ref l]))):=(FB.of s2).trans (FB.put Z (by simp))
  have la:l≠acc:=(ah hz nl).symm;erw[zs,Z,by rw[Gr];lia,_,ae,by rw[y_,GV];lia,a8,λc o e=>?_,row++[e],aK #[24,l,ts,1,U.free nl,la,by rw[al la];rwa[hl],pe.mono (FB.put (av:=[acc]) Z (by simp)).1] (ao (λ_ _ z=>FF.keepA (λa h=>.inl (GF.mp h)) kp z) pr),by rw[y_,lr];rfl,λj e' Y=>?_]
  ·rw[al (ah e O)];rwa[s2 _ _ (U c o e)]
  ·by_cases hj:j<row.length
   ·rw[List.getElem?_append_left hj] at Y;rwa[a6 j e' Y]
   ·rw[List.getElem?_append_right ()] at Y
    have h0:j-row.length=0:=by
     rcases Nat.eq_zero_or_pos (j-row.length) with z|z
     ·rwa[z]
     ·rw[LN (by rw[GV];lia)] at Y
      cases Y
    rw[h0] at Y;cases Y;rw[show j=i by lia]
    rwa[re]
 ·rintro acc zs σ H O hz a7 ⟨_,U,row,pr,lr,a6⟩;rwa[hd acc zs row H O U hz pr lr a6]
theorem vz{es:List V}{σ:L2.St}{P:Int}(hσ:bG src σ=none::rest)(Rel:Nat->List ai->Prop)(hr:H0 r=some (.lst es))(hn:es.length<=60)(turn:∀i v H (R:VK),es[i]? = some v->Fu H0 H->(∀l ts e H2,Fu H H2->H l=none->H2 l=some (.lst ts)->FA P H2 ts e->Rel i e->R (.ref l) H2)->te (some v::rest) H R)(hd:∀acc U row H,H0 acc=none->Fu H0 H->H acc=some (.lst U)->Paired (FF H0 acc P H) U row->row.length=es.length->(∀i e,row[i]? = some e->Rel i e)->Q (.ref acc) H):
  bK (Itl K r) src (bV 0) jQ te σ H0 Q:=
 l9 hσ (λσ=>∃u,σ=u::rest) Rel hn #[none,1] (λi H hi O=>#[21,es,_,SqL.of (O _ _ hr),e_ hi]) (λH O=>#[es,SqL.of (O _ _ hr),ge _])
  (λi σ H x H' R hi ⟨u,e⟩ O ⟨Y,Z⟩ k=>by
   subst e Y;rwa[turn i x H' (R (some x::rest)) (Z es (SqL.of (O _ _ hr))) O λl ts e H2=>k _ l ts e H2 #[0]]) hd
theorem nI{σ:L2.St}{P:Int}(hσ:bG src σ=none::rest)(Rel:Nat->List ai->Prop)(hn:n<=60)(turn:∀i H (R:VK),i<n->Fu H0 H->(∀l ts e H2,Fu H H2->H l=none->H2 l=some (.lst ts)->FA P H2 ts e->Rel i e->R (.ref l) H2)->te (some (.int (lo+i))::rest) H R)(hd:∀acc O row H,H0 acc=none->Fu H0 H->H acc=some (.lst O)->Paired (FF H0 acc P H) O row->row.length=n->(∀i e,row[i]? = some e->Rel i e)->Q (.ref acc) H):
  bK (Itr lo n) src (bV 0) jQ te σ H0 Q:=
 l9 hσ (λσ=>∃u,σ=u::rest) Rel hn #[none,1] (λi H hi U=>hi) (λH U=>ge _)
  (λi σ H x H' R hi ⟨u,e⟩ U ⟨Y,Z⟩ k=>by
   subst e Y Z;rwa[turn i H' (R (some (.int (lo+i))::rest)) hi U λl ts e H2=>k _ l ts e H2 #[0]]) hd
theorem xh{K':Frag}{r1 r2:Addr}{es1 es2:List V}{σ:L2.St}{P:Int}(hσ:bG src σ=none::none::rest)(Rel:Nat->List ai->Prop)(h1:H0 r1=some (.lst es1))(h2:H0 r2=some (.lst es2))(hl:es1.length=es2.length)(hn:es1.length<=60)(turn:∀i v1 v2 H (R:VK),es1[i]? = some v1->es2[i]? = some v2->Fu H0 H->(∀l ts e H2,Fu H H2->H l=none->H2 l=some (.lst ts)->FA P H2 ts e->Rel i e->R (.ref l) H2)->te (some v1::some v2::rest) H R)(hd:∀acc U row H,H0 acc=none->Fu H0 H->H acc=some (.lst U)->Paired (FF H0 acc P H) U row->row.length=es1.length->(∀i e,row[i]? = some e->Rel i e)->Q (.ref acc) H):
  bK (Itz false false K r1 r2) src (zS K' 2 (gJ (bV 0) (gJ (bV 1) zm))) jQ te σ H0 Q:=
 l9 hσ (λσ=>∃u v,σ=u::v::rest) Rel hn #[20,none,none,1] (λi H hi O=>#[43,es1,es2,_,_,dC (SqL.of (O _ _ h1)),dC (SqL.of (O _ _ h2)),e_ hi,e_ ()]) (λH O=>#[22,es1,es2,dC (SqL.of (O _ _ h1)),dC (SqL.of (O _ _ h2)),.inl (ge _)])
  (λi σ H x H' R hi ⟨u,v,e⟩ O ⟨p,Y,Z,ex,np,eH,gx,gy⟩ k=>by
   subst e ex eH;have s2:=Fu.new (o:=.tup [Y,Z]) np;erw[232122,p,0,SqT.of ae,1,_,0,2,?_];rwa[turn i Y Z _ (R (some Y::some Z::rest)) (gx _ (dC (SqL.of (O _ _ h1)))) (gy _ (dC (SqL.of (O _ _ h2)))) (O.trans s2) λl ts e H2 s3 nl=>k _ l ts e H2 #[20,_,0] (s2.trans s3) (s2.free nl)]) hd
def Fix(H H':Hp):Prop:=∀c o,(∀xs,o≠.lst xs)->H c=some o->H' c=some o
theorem Fix.tup(h:Fix H H')(e:H c=some (.tup xs)):H' c=some (.tup xs):=h _ _ (λ_ z=>by cases z) e
theorem cC{σ σ0:L2.St}(hσ:bG src σ=σ0)(Sh:L2.St->Prop)(Rel:Hp->V->α->Prop)(st:∀H H' v x,Fix H H'->Rel H v x->Rel H' v x)(Pd:Nat->List α->Prop)(hn:n<=1000)(h0:Sh σ0)(p0:Pd 0 [])(hgo:∀i H,i<n->Fu H0 H->J.go i H)(hst:∀H,Fu H0 H->J.stop n H)(turn:∀i σ H x H' xs (Y:L2.St->VK) (N:L2.St->Hp->Prop),i<n->Sh σ->Fu H0 H->Pd i xs->J.yld i H x H'->(∀σ2 v y H2,Sh σ2->Fu H H2->Rel H2 v y->Pd (i+1) (xs++[y])->Y σ2 v H2)->(∀σ2 H2,Sh σ2->Fu H H2->Pd (i+1) xs->N σ2 H2)->
   g x σ H' λσ2 H2=>tt σ2 H2 λb H3=>if b=true then te σ2 H3 (Y σ2) else N σ2 H3)(hd:∀acc us xs H,H0 acc=none->Fu H0 H->H acc=some (.lst us)->Paired (Rel H) us xs->xs.length<=n->Pd n xs->Q (.ref acc) H):
  bK J src g tt te σ H0 Q:=by
 erw[cY (n:=n) (σ0:=σ0) hσ (λacc i zs σ H=>Sh σ/\Fu H0 H/\∃xs,Paired (Rel H) zs xs/\xs.length<=i/\Pd i xs) (by rw[Gr];lia) (λacc O=>#[h0,Fu.new O,[],.nil,ge _,p0]) ?_ ?_ ?_ ?_]
 ·rintro acc i zs σ H O hi hz ⟨_,U,_⟩;rwa[hgo i H hi U]
 ·rintro acc zs σ H O hz ⟨_,U,_⟩;rwa[hst H U]
 ·rintro acc i zs σ H x H' O hi hz a7 ⟨sh,U,xs,pr,lr,pd⟩ hy;erw[turn i σ H x H' xs (λσ2 y H4=>∃ys,H4 acc=some (.lst ys)/\ys.length<sizeLine/\∃zs,(upd H4 acc (.lst (ys++[y]))) acc=some (.lst zs)/\zs.length<=i+1/\Sh σ2/\Fu H0 (upd H4 acc (.lst (ys++[y])))/\∃xs,Paired (Rel (upd H4 acc (.lst (ys++[y])))) zs xs/\xs.length<=i+1/\Pd (i+1) xs) (λσ2 H3=>∃zs,H3 acc=some (.lst zs)/\zs.length<=i+1/\Sh σ2/\Fu H0 H3/\∃xs,Paired (Rel H3) zs xs/\xs.length<=i+1/\Pd (i+1) xs) hi sh U pd hy (λσ2 v y H2 Z s2 rv p2=>?_) λσ2 H2 Z s2 p2=>?_]
  ·have a6:=s2 _ _ hz;have kt:Fix H2 (upd H2 acc (.lst (zs++[v]))):=λt o no e=>by rw[al (aw e a6 (no _))];rwa[e]
   erw[zs,a6,by rw[Gr];lia,_,ae,by rw[y_,GV];lia,Z,λc o e=>?_,xs++[y],aK (st _ _ _ _ kt rv) (ao (λ_ _ z=>st _ _ _ _ (λt o no e=>kt t o no (s2 _ _ e)) z) pr),by rw[y_,GV];lia,p2]
   rw[al (ah e O)];rwa[s2 _ _ (U c o e)]
  ·rwa[zs,s2 _ _ hz,(),Z,U.trans s2,xs,ao (λ_ _ z=>st _ _ _ _ (λt o _ e=>s2 t o e) z) pr,(),p2]
 ·rintro acc zs σ H O hz a7 ⟨_,U,xs,pr,lr,pd⟩;rwa[hd acc zs xs H O U hz pr lr pd]
theorem AX{A B:Hp->Prop}(h:A H):jQ σ H λb O=>if b=true then A O else B O:=(show(if true=true then A H else B H) from by rw[u_ rfl];rwa[h])
theorem Ea{tb:TS}(Pv:Nat->L2.St->Hp->Prop)(h0:Pv 0 σ H)(hgo:∀i σ H,i<n->Pv i σ H->J.go i H)(hst:∀σ H,Pv n σ H->J.stop n H)(hs:∀i σ H x H',i<n->Pv i σ H->J.yld i H x H'->∀N:L2.St->Hp->Prop,(∀σ' H',Pv (i+1) σ' H'->N σ' H')->g x σ H' λσ2 H2=>tb { nx:=N,ct:=N,bk:=D.nx,rt:=D.rt } σ2 H2)(hd:∀σ H,Pv n σ H->D.nx σ H):
  ∃W:Nat->Nat->L2.St->Hp->Prop,(∃m,W 0 m σ H)/\∀i m σ H,W i m σ H->
   (J.stop i H/\D.nx σ H)\/(J.go i H/\∃N:L2.St->Hp->Prop,(∀σ' H',N σ' H'->∃U,U<m/\W (i+1) U σ' H')/\∀x H',J.yld i H x H'->g x σ H' λσ2 H2=>tb { D with nx:=N,ct:=N,bk:=D.nx } σ2 H2):=by
 erw[λi m σ H=>m=n-i/\i<=n/\Pv i σ H,#[n,by simp,Gw _,h0],?_]
 rintro i m σ H ⟨rfl,hi,p⟩
 by_cases O:i<n
 ·rwa[.inr #[hgo i σ H O p,Pv (i+1),λσ' H' Y=>#[n-(i+1),(),1,O,Y],λx H' y=>hs i σ H x H' O p y _ λ_ _ z=>z]]
 ·have e:i=n:=()
  subst e;rwa[.inl #[hst σ H p,hd σ H p]]
def DK(m:List (Int×Int)):List (Key×V):=m.map λp=>(Sum.inl p.1,V.int p.2)
theorem jt{σ:L2.St}(hσ:bG src σ=none::rest)(f:Nat->V)(hn:n<=60)(turn:∀i H (R:VK),i<n->Fu H0 H->(∀H2,Fu H H2->R (f i) H2)->te (some (.int (lo+i))::rest) H R)(hd:∀acc H,H0 acc=none->Fu H0 H->H acc=some (.lst ((List.range n).map f))->Q (.ref acc) H):
  bK (Itr lo n) src (bV 0) jQ te σ H0 Q:=by
 erw[cY (n:=n) (σ0:=none::rest) hσ (λacc i zs σ H=>(∃u,σ=u::rest)/\Fu H0 H/\zs=(List.range i).map f) (by rw[Gr];lia) (λacc O=>#[#[none,1],Fu.new O,1]) ?_ ?_ ?_ ?_]
 ·rintro acc i zs σ H O hi U _;rwa[hi]
 ·rintro acc zs σ H O U _;rwa[ge _]
 ·rintro acc i zs σ H x H' O hi U Z ⟨⟨u,rfl⟩,Y,rfl⟩ ⟨rfl,rfl⟩;erw[turn i _ _ hi Y λH2 s2=>?_]
  erw[_,s2 _ _ U,by rw[k_,Ng,Gr];lia,_,ae,by rw[y_,k_,Ng];rwa[ge _],#[0],(Y.trans s2).put O,?_]
  rw[range_succ,KB]
  rfl
 ·rintro acc zs σ H O U Z ⟨_,Y,rfl⟩;rwa[hd acc H O Y U]
theorem nd_2:(["behind", "whole"]:List Str).Nodup:=by decide +kernel
theorem nd_3:(["letter", "often"]:List Str).Nodup:=by decide +kernel
def pkN(es:List Int):Int:=es.foldl (λw e=>w*1048576+e) 0
def Dg(es:List Int):Prop:=∀e∈es,0<=e/\e<1048576
theorem bS(es:List Int)(e:Int):pkN (es++[e])=pkN es*1048576+e:=by
 unfold pkN;rw[foldl_append]
 rfl
theorem Dg.init{e:Int}(h:Dg (es++[e])):Dg es/\0<=e/\e<1048576:=
 #[λx O=>h x (Mn _ O),h e (by simp)]
theorem gi{p:List α->Prop}(h0:p [])(h1:∀l a,p l->p (l++[a])):∀l,p l:=λl=>by
 have:∀m:List α,p m.reverse:=by
  intro m
  induction m with
  |nil=>rwa[h0]
  |cons a m ih=>rw[reverse_cons];rwa[h1 _ _ ih]
 have:=this l.reverse;rwa [reverse_reverse] at this
theorem tj:Dg es->0<=pkN es/\pkN es<(1048576:Int)^es.length:=by
 erw[gi (p:=λes=>Dg es->0<=pkN es/\pkN es<(1048576:Int)^es.length) (λ_=>#[Int.le_refl _,#[]]) (λl a O h=>?_) es]
 let#[h1,h2,h3]:=h.init;let#[i1,i2]:=O h1;rw[bS,y_,GV,Int.pow_succ];generalize (1048576:Int)^l.length=A at *;lia
theorem AL{fs:List Int}:es.length=fs.length->Dg es->Dg fs->pkN es=pkN fs->es=fs:=by
 erw[gi (p:=λes=>∀fs:List Int,es.length=fs.length->Dg es->Dg fs->pkN es=pkN fs->es=fs) ?_ ?_ es fs]
 ·intro fs h _ _ _;exact(MH h.symm).symm
 ·intro l a Y fs h d1 d2 e;have O:fs≠[]:=by
   intro z;rw[z,y_] at h;simp at h
  obtain⟨m,b,rfl⟩:∃m b,fs=m++[b]:=#[fs.dropLast,fs.getLast O,(dropLast_concat_getLast O).symm]
  let#[h1,h2,h3]:=d1.init;let#[U,Z,g3]:=d2.init;rw[bS,bS] at e;have:pkN l=pkN m/\a=b:=()
  rw[Y m (by simpa using h) h1 U this.1,this.2]
theorem xm{x y:Int}(hx:0<=x)(hy:0<=y):Builtin.bitAnd x y=((x.toNat &&& y.toNat:Nat):Int):=by
 unfold Builtin.bitAnd;rw[p_ hx,p_ hy]
theorem pX{x:Int}(hx:0<=x):Builtin.bitAnd x 1048575=x%1048576:=by
 rw[xm hx #[],show(1048575:Int).toNat=2^20-1 by decide,Nat.and_two_pow_sub_one_eq_mod]
 lia
theorem ki(a b x y:Nat)(hx:x<1048576)(hy:y<1048576):(a*1048576+x) &&& (b*1048576+y)=(a &&& b)*1048576+(x &&& y):=by
 have e:∀c z:Nat,c*1048576+z=2^20*c+z:=λc z=>by rw[Nat.mul_comm]
 rw[e,e,e];erw[Nat.eq_of_testBit_eq λi=>?_]
 have O:x &&& y<2^20:=Li Nat.and_le_left hx;rw[Nat.testBit_and,ND _ hx,ND _ hy,ND _ O]
 split
 ·rw[Nat.testBit_and]
 ·rw[Nat.testBit_and]
theorem xL{x:Nat}(hx:x<1048576):x &&& 524288=if 524288<=x then 524288 else 0:=by
 erw[Nat.eq_of_testBit_eq λi=>?_]
 rw[Nat.testBit_and,show(524288:Nat)=2^19 by decide,Nat.testBit_two_pow]
 by_cases hi:19=i
 ·subst hi;have e:x.testBit 19=decide (2^19<=x):=by
   by_cases h:2^19<=x
   ·rw[p_ h];have h2:x=2^19*1+(x-2^19):=()
    rw[h2,ND _ ()]
    simp
   ·rw[Gx h];rwa[Nat.testBit_lt_two_pow ()]
  rw[e]
  by_cases h:2^19<=x
  ·rw[u_ h];simp[h];decide
  ·rw[t_ h];simp[h]
 ·have e2:decide (19=i)=false:=Gx hi;rw[e2,Bool.and_false]
  split
  ·rw[Nat.testBit_two_pow,e2]
  ·rw[Nat.zero_testBit]
def free(n:Nat):Int:=pkN (List.replicate n 524288)
theorem vo(n:Nat):free (n+1)=free n*1048576+524288:=by
 unfold free;rw[List.replicate_succ',bS]
def bD(ls es:List Int):Bool:=(List.zipWith (λa b=>decide (a<=b)) ls es).all id
theorem sL{a b:Int}(h:ls.length=es.length):bD (ls++[a]) (es++[b])=(bD ls es&&decide (a<=b)):=by
 unfold bD;rw[List.zipWith_append h,List.all_append];simp
theorem rX:ls.length=es.length->(∀e∈ls,0<=e/\e<524288)->(∀e∈es,0<=e/\e<524288)->
  0<=pkN es+free es.length-pkN ls/\0<=free es.length/\((pkN es+free es.length-pkN ls).toNat &&& (free es.length).toNat=(free es.length).toNat↔bD ls es=true):=by
 erw[gi (p:=λes=>∀ls:List Int,ls.length=es.length->(∀e∈ls,0<=e/\e<524288)->(∀e∈es,0<=e/\e<524288)->
  0<=pkN es+free es.length-pkN ls/\0<=free es.length/\((pkN es+free es.length-pkN ls).toNat &&& (free es.length).toNat=(free es.length).toNat↔bD ls es=true)) ?_ ?_ es ls]
 ·intro ls h _ _;rw[MH h];rwa[#[],#[],#[]]
 ·intro es b ih ls h d1 d2;have U:ls≠[]:=by
   intro z;rw[z,y_] at h;simp at h
  obtain⟨m,a,rfl⟩:∃m a,ls=m++[a]:=#[ls.dropLast,ls.getLast U,(dropLast_concat_getLast U).symm]
  have Z:m.length=es.length:=by simpa using h
  let#[i1,i2,i3]:=ih m Z (λe Y=>d1 e (Mn _ Y)) (λe Y=>d2 e (Mn _ Y))
  let#[a0,a1]:=d1 a (by simp)
  let#[b0,b1]:=d2 b (by simp)
  rw[bS,bS,y_,GV,vo,sL Z];generalize free es.length=F at *;generalize hd:pkN es+F-pkN m=D at *;have e1:pkN es*1048576+b+(F*1048576+524288)-(pkN m*1048576+a)=D*1048576+(b+524288-a):=by
   rw[<- hd];lia
  rw[e1];erw[(),(),?_]
  have e2:(D*1048576+(b+524288-a)).toNat=D.toNat*1048576+(b+524288-a).toNat:=()
  have e3:(F*1048576+524288).toNat=F.toNat*1048576+524288:=()
  rw[e2,e3,ki _ _ _ _ () (),xL (),Lp,<- i3]
  have e4:D.toNat &&& F.toNat<=F.toNat:=Nat.and_le_right
  by_cases O:a<=b
  ·rw[u_ (),p_ O]
   constructor
   ·intro z;rwa[(),1]
   ·rintro⟨z,_⟩;rw[z]
  ·rw[t_ (),Gx O]
   constructor
   ·intro z
    exfalso
    lia
   ·rintro⟨_,z⟩;cases z
theorem Er(b:Nat):(2:Int)^(20+20*b)=1048576*1048576^b:=by
 rw[Int.pow_add,Int.pow_mul]
 rfl
theorem By:Dg es->∀b:Nat,b<es.length->pkN es/1048576^b%1048576=es.reverse.getD b 0:=by
 erw[gi (p:=λes=>Dg es->∀b:Nat,b<es.length->pkN es/1048576^b%1048576=es.reverse.getD b 0) (λ_ b O=>by simp at O) (λl a U h b O=>?_) es]
 let#[h1,h2,h3]:=h.init;rw[bS,List.reverse_append,List.reverse_singleton,List.singleton_append];cases b with
 |zero=>
  rw[Int.pow_zero,Int.ediv_one];show(pkN l*1048576+a)%1048576=a;lia
 |succ b=>
  rw[Int.pow_succ,MZ ((1048576:Int)^b),<- Int.ediv_ediv_of_nonneg #[]]
  have e:(pkN l*1048576+a)/1048576=pkN l:=()
  rw[e];rwa[U h1 b (by rw[y_,GV] at O;lia)]
def kyT(i:Nat)(es:List Int):Int:=pkN es*1048576+(1048575-i)
theorem DV{i:Nat}(hi:i<1000)(h:Dg es):0<=kyT i es:=by
 have:=(tj h).1;unfold kyT;lia
theorem wV{i:Nat}(hi:i<1000)(h:Dg es):Builtin.bitAnd (kyT i es) 1048575=1048575-i:=by
 rw[pX (DV hi h)];unfold kyT;lia
theorem tS{i j:Nat}{fs:List Int}(hi:i<1000)(hj:j<1000)(hl:es.length=fs.length)(h1:Dg es)(h2:Dg fs)(e:kyT i es=kyT j fs):i=j/\es=fs:=by
 unfold kyT at e;have h:i=j/\pkN es=pkN fs:=()
 rwa[h.1,AL hl h1 h2 h.2]
def dh(a b:List Int):List Int:=List.zipWith (· - ·) a b
theorem BK:es.length=ls.length->pkN es-pkN ls=pkN (dh es ls):=by
 erw[gi (p:=λes=>∀ls:List Int,es.length=ls.length->pkN es-pkN ls=pkN (dh es ls)) ?_ ?_ es ls]
 ·intro ls h;rw[MH h.symm]
  rfl
 ·intro es b Y ls h;have O:ls≠[]:=by
   intro z;rw[z,y_] at h;simp at h
  obtain⟨m,a,rfl⟩:∃m a,ls=m++[a]:=#[ls.dropLast,ls.getLast O,(dropLast_concat_getLast O).symm]
  have U:es.length=m.length:=by simpa using h
  unfold dh;rw[List.zipWith_append U,bS,bS,show List.zipWith (· - ·) [b] [a]=[b-a] from rfl,bS,<- show pkN es-pkN m=pkN (List.zipWith (· - ·) es m) from Y m U]
  lia
def SqI(K:Frag)(H:Hp)(t:Addr)(es:List Int):Prop:=SqT K H t (es.map V.int)\/SqL K H t (es.map V.int)
def oE(K:Frag):Sp:=λvs H Q _=>∃(t:Addr) (es:List Int),vs=[.ref t]/\SqI K H t es/\es.length<=4/\Dg es/\Q (.int (pkN es*1048576)) H
def Ac:Sp:=λvs H Q _=>∃(es:List Int),vs=[.int es.length,.int (pkN es*1048576)]/\es.length<=4/\Dg es/\∀(t:Addr) (H':Hp),Fu H H'->H' t=some (.tup (es.map V.int))->Q (.ref t) H'
def rP:Sp:=λvs H Q _=>∃(n:Nat) (o:Int),vs=[.int n,.int o]/\n<=4/\0<=o/\o<1048576/\∀H',Fu H H'->Q (.int (pkN (List.replicate n o)*1048576)) H'
theorem sc_packed:Fv ["product", "whole", "often"] ["product"] (am l8):=.i
theorem wy(F:Fun K "packed" "packed" l8 f fd)(cLB:mg "LETTER_BITS"=some (.int 20 t1))(cPB:mg "PLACE_BITS"=some (.int 20 t2)):
  aC P w K mg base CX0 1 f fd ["product"] (oE K):=by
 erw[F.o sc_packed λ_ _ _ _ H _ Q _ hr h=>?_]
 ·let#[t,es,1,O,hl,Y,q]:=h;erw[_,(af (aq (i:=1) sc_packed.nd rfl #[4] ak)
(af (bi GM rfl (DY K rfl (pv 0)) (aO (i:=2) sc_packed.nd rfl #[4])
(aj (aq (i:=1) sc_packed.nd rfl #[4] (ap aX (ap ue (pv 1) (bJ (v:=.int 20) rfl cLB #[0])) (pv 2)))))
(aj (ar (ap ue (pv 1) (bJ (v:=.int 20) rfl cPB #[0])))))),?_]
  have lm:(es.map V.int).length=es.length:=k_ _;have sz:∀{l:List Int},Dg l->l.length<=4->(pkN l).natAbs<2^81:=λ{l} d h=>by
   let#[h1,h2]:=tj d;have h3:(1048576:Int)^l.length<=1048576^4:=by
    have:l.length=0\/l.length=1\/l.length=2\/l.length=3\/l.length=4:=()
    rcases this with e|e|e|e|e<;>rw[e]<;>decide
   have h4:(1048576:Int)^4<2^81:=#[]
   lia
  have dt:∀i,Dg (es.take i):=λi e h=>Y e (Mp h)
  erw[O.elim (λO=>.inl #[52,0,t,1,#[_,O],A2 (xs:=es.map V.int) (λi σ H'=>∃(U:Option V),σ=[some (.ref t),some (.int (pkN (es.take i))),U]/\H'=H) ?_ ?_ ?_ ?_]) λO=>.inr #[52,0,t,1,#[_,O],eA (xs:=es.map V.int) (λi σ H'=>∃(U:Option V),σ=[some (.ref t),some (.int (pkN (es.take i))),U]/\H'=H) ?_ ?_ ?_ ?_]]
  iterate 2 (
   ·rwa[none,1,1]
   ·rintro i σ H' _ ⟨U,rfl,rfl⟩;rwa[O]
   ·rintro i v σ H1 hv ⟨U,rfl,rfl⟩;let#[e,Z,1]:=fm hv;erw[63,0,2,Ab #[] #[] (sz (dt i) (by rw[LK];lia)) #[],?_]
    erw[62,0,2,#[some (.int e),?_,1]];rw[Kw,Z];show _=[_,some (V.int (pkN (es.take i++[e]))),_];rw[bS]
    rfl
   ·rintro σ H1 ⟨U,rfl,rfl⟩;rw[lm,KU];rwa[63,0,2,Ab #[] #[] (sz Y hl) #[],q])
theorem sc_unpacked:Fv ["letters", "whole", "oftens"] ["letters", "whole"] (am gQ):=.i
theorem pQ{t3:Tok}(F:Fun K "unpacked" "unpacked" gQ f fd)(T:Blt mg)(nreversed:mg "reversed" = none)(cLB:mg "LETTER_BITS"=some (.int 20 t1))(cPB:mg "PLACE_BITS"=some (.int 20 t2))(cLM:mg "LETTER_MASK"=some (.int 1048575 t3)):
  aC P w K mg base CX0 1 f fd ["letters", "whole"] Ac:=by
 erw[F.o sc_unpacked λ_ _ _ _ H _ Q _ hr h=>?_]
 ·let#[es,1,l4,U,q]:=h;erw[_,(af (fF (i:=2) sc_unpacked.nd rfl #[4] (N:=["behind", "whole"]) (src:=[none,some 1]) rfl rfl rfl (by exact(bj rfl T.range (aa (pv 0) ag))) (λ_ _ _=>by rwa[by exact(cc (i:=0) nd_2 rfl rfl),aV,by exact(ap sX (ap DB (pv 1) (ap aX (bJ (v:=.int 20) rfl cPB #[0]) (ap bA (bJ (v:=.int 20) rfl cLB #[0]) (pv 0)))) (bJ (v:=.int 1048575) rfl cLM #[0]))]))
(aj (ar (v9 T.tuple nreversed (pv 2))))),?_]
  erw[53,0,(es.length:Int),1,(),(),jt (rest:=[some (.int (pkN es*1048576))]) rfl (λi:Nat=>.int (Builtin.bitAnd (pkN es*1048576/2^((20:Int)+20*(0+(i:Int))).toNat) 1048575)) () (λi H1 R hi s1 hR=>?_) λc H1 nc s1 hc=>?_]
  ·rwa[5123222322,0,0,2,.inl #[#[],#[]],2,2,(by show(0:Int)<=20+20*(0+(i:Int));lia),2,hR H1 (Fu.refl _)]
  ·erw[62,0,c,0,hc,λt nt=>q t _ (s1.trans (Fu.new nt)) ?_]
   rw[ae,<- map_reverse];congr 2;erw[Pq λj=>?_]
   rw[Lq,Ga,Ga]
   by_cases O:j<es.length
   ·have Y:(List.range es.length).reverse[j]? = some (es.length-1-j):=by
     rw[getElem?_reverse (by rw[Ng];rwa[O]),Ng,Ml ()]
    rw[Y,e_ O];show some (V.int (Builtin.bitAnd _ _))=some (V.int _);have hn:=(tj U).1;have e2:((20:Int)+20*(0+((es.length-1-j:Nat):Int))).toNat=20+20*(es.length-1-j):=()
    have Z:pkN es*1048576/(1048576*1048576^(es.length-1-j))=pkN es/1048576^(es.length-1-j):=by
     rw[MZ (pkN es),Int.mul_ediv_mul_of_pos _ _ #[]]
    rw[e2,Er,Z,pX (Int.ediv_nonneg hn (Int.le_of_lt (Int.pow_pos #[]))),By U _ (),Gc,getElem?_reverse (),show es.length-1-(es.length-1-j)=j by lia,e_ O]
    rfl
   ·rw[LN (by rw[K_,Ng];lia),LN ()]
    rfl
theorem kZ:Fv ["letters", "often"] ["letters", "often"] (am eO):=.i
theorem AR(F:Fun K "same_in_all" "same_in_all" eO f fd)(T:Blt mg)(Io:`FnB 1 "packed" (oE K)):
  aC P w K mg base CX0 2 f fd ["letters", "often"] rP:=by
 erw[F.o kZ λ_ _ _ _ H _ Q _ Y h=>?_]
 ·let#[n,o,1,n4,o0,o1,q]:=h;erw[_,(aj (ar (ay Io Y.m (aa (by rwa[bh (N:=["letter", "often"]) (src:=[none,some 1]) rfl rfl rfl (by exact(bj rfl T.range (aa (pv 0) ag))) (λ_ _ _=>by rwa[by exact(cc (i:=0) nd_3 rfl rfl),aV,by exact(pv 1)])]) ag)))),?_]
  erw[53,0,(n:Int),1,(),(),jt (rest:=[some (.int o)]) rfl (λ_=>.int o) () (λi H1 R hi s1 U=>#[0,U H1 (Fu.refl _)]) λc H1 nc s1 O=>?_]
  have e:(List.range (n:Int).toNat).map (λ_=>V.int o)=(List.replicate n o).map V.int:=by
   rw[Lq,List.map_const',Ng,List.map_replicate]
  rw[e] at O;rwa[24,c,0,.inr (SqL.of O),by rw[List.length_replicate];rwa[n4],λx Z=>by rw[List.eq_of_mem_replicate Z];rwa[o0,o1],q H1 s1]
theorem nd_4:(["top", "rank"]:List Str).Nodup:=by decide +kernel
theorem nd_5:(["place", "rank"]:List Str).Nodup:=by decide +kernel
theorem Df:(["place"]:List Str).Nodup:=by decide +kernel
def FH(C:Addr)(H:Hp)(f o pl:Addr)(L n:Nat):Prop:=(∃df m,H f=some (.ins C df [("width",.int L),("mask",.int m),("offsets",.ref o),("places",.ref pl)]))/\H o=some (.lst ((List.range n).map λi:Nat=>V.int (1048575-(i:Int))))/\H pl=some (.dK ((List.range n).map λi:Nat=>(Sum.inl (1048575-(i:Int)),V.int i)))
theorem FH.mono{o pl:Addr}(k:∀c x,c=f\/c=o\/c=pl->H c=some x->H' c=some x)(h:FH C H f o pl L n):FH C H' f o pl L n:=by
 let#[#[O,m,h1],h2,h3]:=h;rwa[#[20,O,m,k _ _ (.inl rfl) h1],k _ _ (.inr (.inl rfl)) h2,k _ _ (.inr (.inr rfl)) h3]
theorem FH.same{o pl:Addr}(s:Fu H H')(h:FH C H f o pl L n):FH C H' f o pl L n:=h.mono λc x _ e=>s c x e
def mz(L n i:Nat)(es:List Int):Prop:=i<n/\n<=60/\es.length=L/\L<=4/\Dg es
def Ci(K:Frag):Sp:=λvs H Q _=>∃(x:V) (t:Addr) (es:List Int),vs=[x,.ref t]/\SqI K H t es/\es.length<=4/\Dg es/\Q (.int (pkN es*1048576)) H
def Cr:Sp:=λvs H Q _=>∃(x:V) (s:Int),vs=[x,.int s]/\Q (.int s) H
def xV(C:Addr):Sp:=λvs H Q _=>∃(f o pl:Addr) (L n:Nat),vs=[.ref f]/\FH C H f o pl L n/\Q (.int n) H
def BY(K:Frag)(C:Addr):Sp:=λvs H Q _=>∃(f o pl t:Addr) (L n i:Nat) (es:List Int),vs=[.ref f,.int i,.ref t]/\FH C H f o pl L n/\SqI K H t es/\mz L n i es/\Q (.int (kyT i es)) H
def qa(C:Addr):Sp:=λvs H Q _=>∃(f o pl:Addr) (L n i:Nat) (es:List Int),vs=[.ref f,.int (kyT i es)]/\FH C H f o pl L n/\mz L n i es/\Q (.int i) H
def uc(C:Addr):Sp:=λvs H Q _=>∃(f o pl:Addr) (L n i:Nat) (es:List Int),vs=[.ref f,.int (kyT i es)]/\FH C H f o pl L n/\mz L n i es/\Q (.int (pkN es*1048576)) H
def yJ(C:Addr):Sp:=λvs H Q _=>∃(f o pl:Addr) (L n i:Nat) (es:List Int),vs=[.ref f,.int (kyT i es)]/\FH C H f o pl L n/\mz L n i es/\∀(t:Addr) (H':Hp),Fu H H'->H' t=some (.tup (es.map V.int))->Q (.ref t) H'
def xJ(C:Addr):Sp:=λvs H Q _=>∃(x dx a b:Addr) (L n:Nat),vs=[.ref x,.int L,.ref a,.ref b]/\H x=some (.ins C dx [])/\L<=4/\n<=60/\H a=some (.lst ((List.range n).map λ_=>V.int 0))/\H b=some (.lst ((List.range n).map λi:Nat=>V.int i))/\
 ∀(o pl:Addr) (H':Hp),(∀c u,c≠x->H c=some u->H' c=some u)->FH C H' x o pl L n->H o=none->H pl=none->o≠pl->Q .non H'
def yx(C:Addr):Sp:=λvs H Q _=>∃(L n:Nat),vs=[.int L,.int n]/\L<=4/\n<=60/\∀(f o pl:Addr) (H':Hp),Fu H H'->FH C H' f o pl L n->H f=none->H o=none->H pl=none->Q (.ref f) H'
theorem vP{i:Nat}(hi:i<n):bw ((List.range n).map λi:Nat=>((Sum.inl (1048575-(i:Int)):Key),V.int i)) (Sum.inl (1048575-(i:Int)))=some (.int i):=by
 unfold bw;have h:((List.range n).map λi:Nat=>((Sum.inl (1048575-(i:Int)):Key),V.int i)).find? (λkv=>decide (kv.1=Sum.inl (1048575-(i:Int))))=some (Sum.inl (1048575-(i:Int)),V.int i):=by
  rw[List.find?_map];have e:(List.range n).find? ((λkv:Key×V=>decide (kv.1=Sum.inl (1048575-(i:Int)))) ∘ λi:Nat=>((Sum.inl (1048575-(i:Int)):Key),V.int i))=some i:=by
   rw[List.find?_range_eq_some];erw[p_ rfl,ME.mpr hi,λj O=>?_]
   show(!decide _)=true;rw[Gx]
   ·rfl
   ·intro z;have:=PJ z;lia
  rw[e]
  rfl
 rw[h]
 rfl
structure Ini (H0:Hp) (x:Addr) (o:HO) (H:Hp):Prop where
 k:∀c u,c≠x->H0 c=some u->H c=some u
 at_:H x=some o
theorem Ini.of{x:Addr}{o:HO}(h:H x=some o):Ini H x o H:=#[λ_ _ _ e=>e,h]
theorem Ini.put{x:Addr}{o o':HO}(h:Ini H0 x o H):Ini H0 x o' (upd H x o'):=#[λc u O e=>by rw[al O];rwa[h.k c u O e],ae]
theorem Ini.same{x:Addr}{o:HO}(h:Ini H0 x o H)(s:Fu H H'):Ini H0 x o H':=#[λc u O e=>s _ _ (h.k c u O e),s _ _ h.at_]
theorem Ini.free{x:Addr}{o o':HO}(h:Ini H0 x o H)(h0:H0 x=some o')(c:Addr)(e:H c=none):H0 c=none:=by
 cases z:H0 c with
 |none=>rfl
 |some u=>
  by_cases O:c=x
  ·rw[O,h.at_] at e;cases e
  ·rw[h.k c u O z] at e;cases e
theorem qd:∀(kvs:List (Key×V)),(kvs.map (·.1)).Nodup->io [] kvs=kvs:=by
 have go:∀(l m:List (Key×V)),((m++l).map (·.1)).Nodup->io m l=m++l:=by
  intro l
  induction l with
  |nil=>intro m _;rw[Mg];rfl
  |cons p l ih=>
   intro m h;have e:bw m p.1=none:=by
    unfold bw;cases z:m.find? λkv=>decide (kv.1=p.1) with
    |none=>rfl
    |some y=>
     have h1:=List.mem_of_find?_eq_some z;have h2:y.1=p.1:=A_ (p:=y.1=p.1) (List.find?_some (p:=λkv:Key×V=>decide (kv.1=p.1)) z)
     rw[KB,OM] at h;rwa[absurd h2 (h.2.2 _ (L0 h1) _ KQ)]
   show io (cH m p.1 p.2) l=_;rw[zT _ e,ih _ (by rw[Mt];rwa[h]),Mt]
   rfl
 rwa[λkvs h=>go kvs [] h]
theorem kg:Fv ["self", "product"] ["self", "product"] (am eW):=.i
theorem vp(F:Fun K "shift" "Frame.shift" eW f fd)(Io:`FnB 1 "packed" (oE K)):`aC CX0 2 f fd ["self", "product"] (Ci K):=by
 erw[F.o kg λ_ _ _ _ H _ Q _ Y h=>?_]
 ·let#[x,t,es,1,Z,U,O,q]:=h;erw[_,(aj (ar (ay Io Y.m (aa (pv 1) ag)))),?_];rwa[64,0,t,es,1,Z,U,O,q]
theorem lZ:Fv ["self", "shift"] ["self", "shift"] (am eN):=.i
theorem vO(F:Fun K "plain" "Frame.plain" eN f fd):`aC CX0 1 f fd ["self", "shift"] Cr:=by
 erw[F.o lZ λ_ _ _ _ H _ Q _ O h=>?_]
 ·let#[x,t,1,q]:=h;rwa[_,(aj (ar (pv 1))),0,q]
theorem fM:Fv ["self"] ["self"] (am bY):=.i
theorem zf(F:Fun K "many_places" "Frame.many_places" bY f fd)(T:Blt mg)(cl:Cls K C)(n3:Fx K C "offsets"):`aC CX0 1 f fd ["self"] (xV C):=by
 erw[F.o fM λ_ _ _ _ H _ Q _ U h=>?_]
 ·let#[x,o,pl,L,n,1,#[#[O,m,h1],h2,h3],q]:=h;erw[_,(aj (ar (bU K T (bq (pv 0) rfl)))),?_];erw[9522,0,x,C,O,_,0,h1,cl,n3,1,o,0,.inl (SqL.of h2),?_];rw[k_,Ng];rwa[q]
theorem om:Fv ["self", "place", "product"] ["self", "place", "product"] (am fQ):=.i
theorem A3(F:Fun K "key" "Frame.key" fQ f fd)(cl:Cls K C)(n3:Fx K C "offsets")(J6:`MtB 2 C "shift" (Ci K)):`aC CX0 3 f fd ["self", "place", "product"] (BY K C):=by
 erw[F.o om λ_ _ _ _ H _ Q _ Y h=>?_]
 ·let#[x,o,pl,t,L,n,i,es,1,#[#[O,m,h1],h2,h3],Z,#[hi,n6,le,L4,U],q]:=h;erw[_,(aj (ar (ap aX (cL J6 Y.m (pv 0) (aa (pv 2) ag)) (aG (aF K rfl) (bq (pv 0) rfl) (pv 1) (λ_ _=>rfl))))),?_]
  erw[7374,0,x,O,0,h1,1,0,.ref x,t,es,1,Z,(),U,?_]
  erw[958422,0,x,C,O,_,0,h1,cl,n3,1,0,o,_,2,SqL.of h2,bt (v:=.int (1048575-(i:Int))) (by rw[Ga,Ml hi];rfl),2,q]
theorem kK:Fv ["self", "key"] ["self", "key"] (am eV):=.i
theorem vv(F:Fun K "place" "Frame.place" eV f fd)(cl:Cls K C)(n4:Fx K C "places")(cPM:mg "PLACE_MASK"=some (.int 1048575 t1)):`aC CX0 1 f fd ["self", "key"] (qa C):=by
 erw[F.o kK λ_ _ _ _ H _ Q _ Y h=>?_]
 ·let#[x,o,pl,L,n,i,es,1,#[#[U,m,h1],h2,h3],#[hi,n6,le,Z,O],q]:=h;erw[_,(aj (ar (eE (hu1 Y) (bq (pv 0) rfl) (ap sX (pv 1) (bJ (v:=.int 1048575) rfl cPM #[0])) (λ_ _=>rfl)))),?_]
  erw[956222,0,x,C,U,_,0,h1,cl,n4,1,0,2,pl,.int i,1,?_,q];show F8 H pl (V.int (Builtin.bitAnd (kyT i es) 1048575)) _;rw[wV () O]
  have z:=vP hi;rwa[z▸F8.k (k:=Sum.inl (1048575-(i:Int))) h3]
theorem fc:Fv ["self", "key"] ["self", "key"] (am bI):=.i
theorem DI(F:Fun K "packed_product" "Frame.packed_product" bI f fd)(cl:Cls K C)(n3:Fx K C "offsets")(HE:`MtB 1 C "place" (qa C))(J7:`MtB 1 C "plain" Cr):`aC CX0 2 f fd ["self", "key"] (uc C):=by
 erw[F.o fc λ_ _ _ _ H _ Q _ U h=>?_]
 ·let#[x,o,pl,L,n,i,es,1,#[#[O,m,h1],h2,h3],ky,q]:=h;erw[_,(aj (ar (cL J7 U.m (pv 0) (aa (ap bE (pv 1) (aG (aF K rfl) (bq (pv 0) rfl) (cL HE U.m (pv 0) (aa (pv 1) ag)) (λ_ _=>rfl))) ag)))),?_]
  erw[731195739023,0,x,O,0,h1,1,0,0,x,C,O,_,0,h1,cl,n3,1,0,x,O,0,h1,1,0,x,o,pl,L,n,i,es,1,#[#[20,O,m,h1],h2,h3],ky,?_];erw[442221,o,_,2,SqL.of h2,bt (v:=.int (1048575-(i:Int))) (by rw[Ga,Ml ky.1];rfl),2,.ref x,0,?_]
  rw[show kyT i es-(1048575-(i:Int))=pkN es*1048576 by unfold kyT;lia]
  rwa[q]
theorem iX:Fv ["self", "key"] ["self", "key"] (am dn):=.i
theorem Ai(F:Fun K "product" "Frame.product" dn f fd)(cl:Cls K C)(n1:Fx K C "width")(Il:`MtB 2 C "packed_product" (uc C))(IX:`FnB 1 "unpacked" Ac):`aC CX0 3 f fd ["self", "key"] (yJ C):=by
 erw[F.o iX λ_ _ _ _ H _ Q _ U h=>?_]
 ·let#[x,o,pl,L,n,i,es,1,#[#[O,m,h1],h2,h3],ky,q]:=h;erw[_,(aj (ar (ay IX U.m (aa (bq (pv 0) rfl) (aa (cL Il U.m (pv 0) (aa (pv 1) ag)) ag))))),?_];erw[9573902313,0,x,C,O,_,0,h1,cl,n1,1,0,x,O,0,h1,1,0,x,o,pl,L,n,i,es,1,#[#[20,O,m,h1],h2,h3],ky,es,by rw[ky.2.2.1];rfl,by have:=ky.2.2.2.1;have:=ky.2.2.1;lia,ky.2.2.2.2,q]
theorem iR:Fv ["self", "letters", "tops", "ranks"] ["self", "letters", "tops", "ranks"] (am cW):=.i
theorem zl(F:Fun K "__init__" "Frame.__init__" cW f fd)(T:Blt mg)(ndict:mg "dict" = none)(cl:Cls K C)(n1:Fx K C "width")(n2:Fx K C "mask")(n3:Fx K C "offsets")(n4:Fx K C "places")(Hj:`FnB 2 "same_in_all" rP)(cLM:mg "LETTER_MASK"=some (.int 1048575 t1))(cPM:mg "PLACE_MASK"=some (.int 1048575 t2)):
  aC P w K mg base CX0 3 f fd ["self", "letters", "tops", "ranks"] (xJ C):=by
 erw[F.o iR λ_ _ _ _ H _ Q _ hr h=>?_]
 ·let#[x,dx,a,b,L,n,1,hx,L4,n6,ha,hb,q]:=h;erw[_,(af (br (pv 0) (pv 1) rfl)
(af (br (pv 0) (ay Hj hr.m (aa (pv 1) (aa (bJ (v:=.int 1048575) rfl cLM #[0]) ag))) rfl)
(af (br (pv 0) (by rwa[bh (N:=["top", "rank"]) (src:=[none,none]) rfl rfl rfl (by exact(iz K false false rfl rfl T.zip (aa (pv 2) (aa (pv 3) ag)))) (λ_ _ _=>by rwa[by exact(bc K (i:=0) (j:=1) rfl rfl nd_4 rfl rfl rfl rfl),aV,by exact(ap bE (ap aX (pv 0) (bJ (v:=.int 1048575) rfl cPM #[0])) (pv 1))])]) rfl)
(aj (br (pv 0) (nq ndict (by rwa[bh (N:=["place", "rank"]) (src:=[none,none]) rfl rfl rfl (by exact(gh K rfl rfl T.enum (aa (pv 3) ag))) (λ_ _ _=>by rwa[by exact(bc K (i:=0) (j:=1) rfl rfl nd_5 rfl rfl rfl rfl),aV,by exact(aS (aa (ap bE (bJ (v:=.int 1048575) rfl cPM #[0]) (pv 1)) (aa (pv 0) ag)))])])) rfl))))),?_]
  have nx:∀{c:Addr} {xs:List V},H c=some (.lst xs)->c≠x:=λ{c xs} e=>aw e hx #[3]
  have ax:=nx ha;have bx:=nx hb;erw[5145,0,0,x,C,dx,0,hx,cl,n1,#[],?_]
  generalize g0:upd H x _=G0;have j0:Ini H x (.ins C dx [("width",.int L)]) G0:=by rw[<- g0];exact(Ini.of hx).put
  erw[64,0,L,1048575,1,L4,#[],#[],λH1 s1=>?_]
  erw[85,0,x,C,dx,0,(j0.same s1).at_,cl,n2,by show(1:Nat)<1000;decide,?_]
  generalize g1:upd H1 x _=H2;have j1:Ini H x (.ins C dx [("width",.int L),("mask",.int (pkN (List.replicate L 1048575)*1048576))]) H2:=by rw[<- g1];exact(j0.same s1).put
  clear g0 g1 s1;have k1:=j1.k;have a8:=j1.at_;have f1:=j1.free hx;have a6:=k1 _ _ ax ha;have Z:=k1 _ _ bx hb;erw[5123,0,0,a,b,1,#[_,dC (SqL.of a6)],#[_,dC (SqL.of Z)],cC (n:=n) (σ0:=[none,none]) rfl (λσ=>∃u1 u2,σ=[u1,u2]) (λ_ v (y:Int)=>v=.int y) (λ_ _ _ _ _ h=>h) (λi xs=>xs=(List.range i).map λj:Nat=>1048575-(j:Int)) () #[20,_,0] rfl (λi H3 hi O=>#[43,_,_,_,_,dC (SqL.of (O _ _ a6)),dC (SqL.of (O _ _ Z)),by rw[Ga,Ml hi];rfl,by rw[Ga,Ml hi];rfl]) (λH3 O=>#[22,_,_,dC (SqL.of (O _ _ a6)),dC (SqL.of (O _ _ Z)),.inl (by simp)]) ?_ ?_]
  ·rintro i σ H3 y H' xs Y N hi ⟨u1,u2,rfl⟩ O rfl ⟨p,x1,y1,rfl,np,rfl,gx,gy⟩ hY _;have e1:=gx _ (dC (SqL.of (O _ _ a6)));have e2:=gy _ (dC (SqL.of (O _ _ Z)));rw[Ga,Ml hi] at e1 e2;cases e1;cases e2;erw[232122,p,0,SqT.of ae,1,_,0,2,AX ?_];erw[6262,0,2,0,2,hY _ _ (1048575-(i:Int)) _ #[20,_,0] (Fu.new np) ?_ ?_]
   ·show V.int (0+1048575-(i:Int))=_;rw[Pr]
   ·rw[range_succ,KB]
    rfl
  ·rintro o us xs H3 no s3 ho pr _ rfl;have ad:us=(List.range n).map λi:Nat=>V.int (1048575-(i:Int)):=by
    have:∀{us:List V} {xs:List Int},Paired (λv (y:Int)=>v=.int y) us xs->us=xs.map V.int:=by
     intro us xs h
     induction h with
     |nil=>rfl
     |cons h _ ih=>rw[h,ih];rfl
    rw[this pr,MB]
    rfl
   subst ad;have ox:o≠x:=λz=>by rw[z,a8] at no;cases no
   erw[85,0,x,C,dx,0,s3 _ _ a8,cl,n3,by show(2:Nat)<1000;decide,?_]
   generalize g2:upd H3 x _=H4;have j2:Ini H2 x (.ins C dx [("width",.int L),("mask",.int (pkN (List.replicate L 1048575)*1048576)),("offsets",.ref o)]) H4:=by rw[<- g2];exact((Ini.of a8).same s3).put
   have a9:H4 o=some (.lst ((List.range n).map λi:Nat=>V.int (1048575-(i:Int)))):=by rw[<- g2,al ox];rwa[ho]
   clear g2;have k2:=j2.k;have a':=j2.at_;have f2:=j2.free a8;have a7:=k2 _ _ bx Z;erw[52,0,b,1,#[_,SqL.of a7],cC (n:=n) (σ0:=[none,none]) rfl (λσ=>∃u1 u2,σ=[u1,u2]) (λH v (y:Key×V)=>∃a,v=.ref a/\H a=some (.tup [kV y.1,y.2])) (λH H' v y fx ⟨a,e,h⟩=>#[a,e,fx.tup h]) (λi xs=>xs=(List.range i).map λj:Nat=>((Sum.inl (1048575-(j:Int)):Key),V.int j)) () #[20,_,0] rfl (λi H5 hi O=>#[21,_,_,SqL.of (O _ _ a7),by rw[Ga,Ml hi];rfl]) (λH5 O=>#[_,SqL.of (O _ _ a7),by simp]) ?_ ?_]
   ·rintro i σ H5 y H' xs Y N hi ⟨u1,u2,rfl⟩ O rfl ⟨p,y1,rfl,np,rfl,gy⟩ hY _;have e2:=gy _ (SqL.of (O _ _ a7));rw[Ga,Ml hi] at e2;cases e2;erw[232122,p,0,SqT.of ae,1,_,0,2,AX ?_];erw[6212,0,2,0,by show 2<=sizeLine;decide,λt nt=>hY _ _ (Sum.inl (1048575-(i:Int)),V.int i) _ #[20,_,0] ((Fu.new np).trans (Fu.new nt)) #[t,1,ae] ?_]
    rw[range_succ,KB]
    rfl
   ·rintro ac us xs H5 b3 s5 au pr _ rfl;obtain⟨as,rfl,b0⟩:∃as:List Addr,us=as.map V.ref/\Paired (λ(a:Addr) (p:Key×V)=>H5 a=some (.tup [kV p.1,p.2])) as ((List.range n).map λj:Nat=>((Sum.inl (1048575-(j:Int)):Key),V.int j)):=by
     have:∀{us:List V} {xs:List (Key×V)},Paired (λv (y:Key×V)=>∃a,v=V.ref a/\H5 a=some (.tup [kV y.1,y.2])) us xs->∃as:List Addr,us=as.map V.ref/\Paired (λ(a:Addr) (p:Key×V)=>H5 a=some (.tup [kV p.1,p.2])) as xs:=by
      intro us xs h
      induction h with
      |nil=>rwa[[],1,.nil]
      |cons h _ ih=>
       let#[a,1,h]:=h;let#[as,1,p]:=ih;rwa[a::as,1,.cons h p]
     rwa[this pr]
    erw[33,ac,as,0,au,b0,λpl U=>?_]
    have e1:io [] ((List.range n).map λj:Nat=>((Sum.inl (1048575-(j:Int)):Key),V.int j))=(List.range n).map λj:Nat=>((Sum.inl (1048575-(j:Int)):Key),V.int j):=qd _ (by rw[MB];rwa[Nr _ (λa b h e=>h (by have:=PJ e;lia)) (List.nodup_range (n:=n))])
    rw[e1];have s6:=s5.trans (Fu.new (o:=.dK ((List.range n).map λj:Nat=>((Sum.inl (1048575-(j:Int)):Key),V.int j))) U)
    have b2:pl≠x:=λz=>by rw[z,s5 _ _ a'] at U;cases U
    have b1:pl≠o:=λz=>by rw[z,s5 _ _ a9] at U;cases U
    erw[85,0,x,C,dx,0,s6 _ _ a',cl,n4,by show(3:Nat)<1000;decide,?_]
    erw[q o pl _ (λc u hc e=>?_) #[#[20,dx,_,ae],?_,?_] (f1 _ no) (f1 _ (f2 _ (s5.free U))) (Ne.symm b1)]
    ·rw[al hc];rwa[s6 _ _ (k2 _ _ hc (k1 _ _ hc e))]
    ·rw[al ox];rwa[s6 _ _ a9]
    ·rw[al b2];rwa[ae]
theorem jT:Fv ["letters", "many"] ["letters", "many"] (am eB):=.i
theorem vx(F:Fun K "column_frame" "column_frame" eB f fd)(T:Blt mg)(JQ:`MkB 3 C "Frame" (xJ C)):`aC CX0 5 f fd ["letters", "many"] (yx C):=by
 erw[F.o jT λ_ _ _ _ H _ Q _ hr h=>?_]
 ·let#[L,n,1,L4,n6,q]:=h;erw[_,(aj (ar (pc JQ hr.m (aa (pv 0) (aa (by rwa[bh (N:=["place"]) (src:=[none]) rfl rfl rfl (by exact(bj rfl T.range (aa (pv 1) ag))) (λ_ _ _=>by rwa[by exact(cc (i:=0) Df rfl rfl),aV,by rwa[ak]])]) (aa (wM T (pv 1)) ag)))))),?_]
  erw[5113,0,0,(n:Int),1,(),(),jt (rest:=[]) rfl (λ_=>.int 0) () (λi H1 R hi s1 hR=>hR H1 (Fu.refl _)) λc H1 nc s1 hc=>?_]
  erw[51,0,n,1,λr nr=>#[23,n,r,1,(),ae,λl nl=>?_]]
  have s2:=(Fu.new (o:=rF r n) nr).trans (Fu.new (o:=.lst ((List.range n).map λi:Nat=>V.int i)) nl)
  have Z:upd (upd H1 r (rF r n)) l (.lst ((List.range n).map λi:Nat=>V.int i)) l=some _:=ae
  generalize upd (upd H1 r (rF r n)) l (.lst ((List.range n).map λi:Nat=>V.int i))=H2 at s2 Z
  have O:=s1.trans s2;intro x dx nx U a6;have k0:Fu H2 (upd (upd H2 dx (.own x)) x (.ins C dx [])):=λc u e=>by
   rw[al (ah e nx),al (ah e U)];rwa[e]
  erw[4026,x,dx,c,l,L,n,1,ae,L4,n6,k0 _ _ (s2 _ _ hc),k0 _ _ Z,λo pl H' k1 fr no Y _=>#[1,?_]]
  have s4:Fu H2 H':=λc u e=>k1 c u (ah e nx) (k0 _ _ e)
  erw[q x o pl H' (O.trans s4) fr (O.free nx) (O.free (k0.free no)) (O.free (k0.free Y))]
theorem Fj:(["_law_a", "_law_b"]:List Str).Nodup:=by decide +kernel
theorem oh{g u:Int}(hg:0<g)(h:0<g*u):0<u:=by
 rcases Int.lt_or_le 0 u with z|z
 ·rwa[z]
 ·have:=Int.mul_le_mul_of_nonneg_left z (show 0<=g by lia)
  rw[Int.mul_zero] at this;lia
theorem zZ{a b:Int}(ha:0<a)(hb:0<b):a=(Int.gcd a b:Int)*a.fdiv (Int.gcd a b:Int)/\b=(Int.gcd a b:Int)*b.fdiv (Int.gcd a b:Int)/\0<(Int.gcd a b:Int)/\0<a.fdiv (Int.gcd a b:Int)/\0<b.fdiv (Int.gcd a b:Int):=by
 have hg:0<Int.gcd a b:=Int.gcd_pos_of_ne_zero_left b ()
 have O:(0:Int)<(Int.gcd a b:Int):=()
 let#[u,U]:=Int.gcd_dvd_left (a:=a) (b:=b);let#[v,Y]:=Int.gcd_dvd_right (a:=a) (b:=b);have Z:a.fdiv (Int.gcd a b:Int)=u:=by
  have:((Int.gcd a b:Int)*u).fdiv (Int.gcd a b:Int)=u:=K4 u ()
  rw[<- U] at this;rwa[this]
 have e2:b.fdiv (Int.gcd a b:Int)=v:=by
  have:((Int.gcd a b:Int)*v).fdiv (Int.gcd a b:Int)=v:=K4 v ()
  rw[<- Y] at this;rwa[this]
 rw[Z,e2];erw[U,Y,O,?_,?_]
 ·rwa[oh O (by rw[<- U];rwa[ha])]
 ·rwa[oh O (by rw[<- Y];rwa[hb])]
def bQ(a b:List Int):List Int:=List.zipWith (· + ·) a b
def js(P:Int)(a:ai)(ps:List ai):List ai:=ps.map λb=>(bQ a.1 b.1,gF P a.2 b.2)
def cg(P:Int)(ps qs:List ai):List ai:=ps.flatMap λa=>js P a qs
def qU:Sp:=λvs H Q _=>∃(l l2:Addr) (P:Int) (ts us:List V) (ps qs:List ai),vs=[.int P,.ref l,.ref l2]/\Fz P/\H l=some (.lst ts)/\FA P H ts ps/\H l2=some (.lst us)/\FA P H us qs/\ps.length*qs.length<=60/\(∀p∈ps,OkN P p.2/\Sz 2900 p.2/\p.1.length<=10)/\(∀p∈qs,OkN P p.2/\Sz 2900 p.2)/\iG P (cg P ps qs)/\
 ∀(d:Addr) (rs:List V) (out:List ai) (H':Hp),H d=none->Fu H H'->H' d=some (.lst rs)->FA P H' rs out->F3 P (cg P ps qs) out->Q (.ref d) H'
theorem jr(P:Int)(ps qs:List ai):(cg P ps qs).length=ps.length*qs.length:=by
 unfold cg js
 induction ps with
 |nil=>simp
 |cons a r ih=>
  rw[flatMap_cons,y_,ih,k_,Mf,Nat.add_mul];lia
theorem sZ(P:Int)(ps:List ai)(a:ai)(qs:List ai):cg P (ps++[a]) qs=cg P ps qs++js P a qs:=by
 unfold cg;rw[List.flatMap_append];simp
theorem F6:Fv ["_law_prime_here", "_law_one", "_law_other", "_law_parts", "_law_product_here", "_law_number_here", "_law_there", "_law_second"] ["_law_prime_here", "_law_one", "_law_other"] (am cM):=.i
set_option maxHeartbeats 1000000 in
theorem rC(F:Fun K "_law_sum_times" "_law_sum_times" cM f fd)(T:Blt mg)(IA:`FnB 2 "_law_times" (u4 gF))(Hc:`FnB 4 "_law_sum" lG):`aC CX0 5 f fd ["_law_prime_here", "_law_one", "_law_other"] qU:=by
 erw[F.o F6 λ_ _ _ _ H _ Q _ hr h=>?_]
 ·let#[l,l2,P,ts,us,ps,Y,1,hP,hl,pr,ad,b0,hn,a9,ax,b6,q]:=h;erw[_,(af (aq (i:=3) F6.nd rfl #[4] (aQ ag))
(af (bi GM rfl (aL K rfl (pv 1)) (bc K (i:=4) (j:=5) rfl rfl F6.nd rfl rfl rfl rfl)
(aj (bi GM rfl (aL K rfl (pv 2)) (bc K (i:=6) (j:=7) rfl rfl F6.nd rfl rfl rfl rfl)
(aj (aZ (bmA K rfl (pv 3) (aa (aS (aa (nX K T (by rwa[bh (N:=["_law_a", "_law_b"]) (src:=[none,none]) rfl rfl rfl (by exact(iz K true true rfl rfl T.zip (aa (pv 4) (aa (pv 6) ag)))) (λ_ _ _=>by rwa[by exact(bc K (i:=0) (j:=1) rfl rfl Fj rfl rfl rfl rfl),aV,by exact(ap aX (pv 0) (pv 1))])])) (aa (ay IA hr.m (aa (pv 0) (aa (pv 5) (aa (pv 7) ag)))) ag))) ag)))))))
(aj (ar (ay Hc hr.m (aa (pv 0) (aa (pv 3) ag))))))),?_]
  erw[Gw _,λd nd=>?_]
  have s1:=Fu.new (o:=.lst []) nd;have b5:(upd H d (.lst [])) d=some (.lst []):=ae;generalize upd H d (.lst [])=H1 at *;have lt:ts.length=ps.length:=Paired.length pr;have lu:us.length=Y.length:=Paired.length b0;erw[52,0,l,1,#[_,SqL.of (s1 _ _ hl)],cS (xs:=ts) (λi σ H'=>∃(ws:List V) (x4 x5 x6 x7:Option V),σ=[some (.int P),some (.ref l),some (.ref l2),some (.ref d),x4,x5,x6,x7]/\Fu H H'/\H' d=some (.lst ws)/\FA P H' ws (cg P (ps.take i) Y)) ?_ ?_ ?_ ?_]
  ·rwa[4013,[],none,none,none,none,1,s1,b5,by rw[take_zero];rwa[.nil]]
  ·rintro i σ H' _ ⟨ws,x4,x5,x6,x7,rfl,sm,_⟩;rwa[SqL.of (sm _ _ hl)]
  ·rintro i v σ H2 hx ⟨ws,x4,x5,x6,x7,rfl,sm,a8,pw⟩ N0 B0 b3;let#[a,ea,ta,ka,ua,1,h1,h2,h3]:=pr.at_ hx;have ma:a∈ps:=E_ ea;erw[232122,ta,0,SqT.of (sm _ _ h1),1,_,0,2,?_];erw[52,0,l2,1,#[_,SqL.of (sm _ _ ad)],cS (xs:=us) (λj σ H'=>∃(ws:List V) (x6 x7:Option V),σ=[some (.int P),some (.ref l),some (.ref l2),some (.ref d),some (.ref ka),some ua,x6,x7]/\Fu H H'/\H' d=some (.lst ws)/\FA P H' ws (cg P (ps.take i) Y++js P a (Y.take j))) ?_ ?_ ?_ ?_]
   ·rwa[33,ws,_,0,sm,a8,by rw[take_zero,show js P a []=[] from rfl,Mg];rwa[pw]]
   ·rintro j σ H' _ ⟨ws,x6,x7,rfl,sm,_⟩;rwa[SqL.of (sm _ _ ad)]
   ·rintro j v σ H3 hy ⟨a7,y6,y7,rfl,O,U,Z⟩ N1 B1 b4;let#[b,eb,tb,kb,ub,1,g1,g2,g3]:=b0.at_ hy;have mb:b∈Y:=E_ eb;erw[232122,tb,0,SqT.of (O _ _ g1),1,_,0,2,?_];erw[0,.inl #[1,_,SqL.of U],?_];have lk:(a.1.map V.int).length<=sizeLine:=by rw[k_,Gr];have:=(a9 a ma).2.2;lia
    erw[5123,0,0,ka,kb,1,#[_,ph (SqT.of (O _ _ h2))],#[_,ph (SqT.of (O _ _ g2))],qM (v2 λi j=>.int (i+j)) rfl (ph (SqT.of (O _ _ h2))) (ph (SqT.of (O _ _ g2))) lk (λi x y H4 R hx hy s4 hR=>?_) (λacc H4 b7 s4 au=>?_)]
    ·let#[z,_,1]:=fm hx;let#[z',_,1]:=fm hy;rwa[5122,0,0,2,hR]
    ·rw[sF,rR V.int] at au;erw[22,acc,0,SqL.of au,λt5 n5=>?_]
     have s5:=Fu.new (o:=.tup ((List.zipWith (· + ·) a.1 b.1).map V.int)) n5;have h5:(upd H4 t5 (.tup ((List.zipWith (· + ·) a.1 b.1).map V.int))) t5=some (.tup ((List.zipWith (· + ·) a.1 b.1).map V.int)):=ae;generalize upd H4 t5 (.tup ((List.zipWith (· + ·) a.1 b.1).map V.int))=H5 at *;have b1:=s4.trans s5;have b2:=O.trans b1;erw[5198,0,0,0,P,ua,ub,a.2,b.2,1,hP,h3.same b2,g3.same b2,(a9 a ma).1,(ax b mb).1,(a9 a ma).2.1,(ax b mb).2,λu6 H6 s6 a6=>?_]
     erw[(by show 2<=sizeLine;decide),λt7 n7=>?_]
     have s7:=Fu.new (o:=.tup [.ref t5,u6]) n7;have h7:(upd H6 t7 (.tup [.ref t5,u6])) t7=some (.tup [.ref t5,u6]):=ae;generalize upd H6 t7 (.tup [.ref t5,u6])=H7 at *;have a':=(b1.trans s6).trans s7;have ac:=a' _ _ U;have lw:a7.length<=60:=by
      have e:=Paired.length Z;have e1:=jr P (ps.take i) Y;have e2:(js P a (Y.take j)).length=(Y.take j).length:=k_ _;rw[y_,e1,e2,LK,LK] at e;have il:i<ps.length:=(q_.mp ea).1;have jl:j<Y.length:=(q_.mp eb).1;rw[Nat.min_eq_left (Pi il),Nat.min_eq_left (Pi jl)] at e;have e3:(i+1)*Y.length<=ps.length*Y.length:=Nat.mul_le_mul_right _ il;rw[Nat.add_mul] at e3;lia
     erw[34,d,2,ac,by rw[Gr];lia,?_]
     have kc:FB [d] H7 (upd H7 d (.lst (a7++[.ref t7]))):=FB.put ac (by simp)
     erw[b4 _ _ #[33,a7++[.ref t7],_,0,λc o e=>?_,ae,?_]]
     ·rw[al (ah e nd)];rwa[a' _ _ (O _ _ e)]
     ·have e8:js P a (Y.take (j+1))=js P a (Y.take j)++[(bQ a.1 b.1,gF P a.2 b.2)]:=by
       unfold js;rw[Kw,eb,KB]
       rfl
      rw[e8,<- Mt];rwa[FA.snoc #[33,t7,t5,u6,1,kc.1 _ _ h7,kc.1 _ _ (s7 _ _ (s6 _ _ h5)),(a6.same s7).mono kc.1] ((Z.mono λt xs e=>a' _ _ e).mono kc.1)]
   ·rintro σ H3 ⟨a7,y6,y7,rfl,O,U,Z⟩;erw[b3 _ _ #[4013,a7,_,_,_,0,O,U,?_]];rw[lu,KU] at Z;rw[Kw,ea];rw[show ps.take i++(some a).toList=ps.take i++[a] from rfl,sZ]
    rwa[Z]
  ·rintro σ H2 ⟨ws,x4,x5,x6,x7,rfl,sm,a8,pw⟩;rw[lt,KU] at pw;erw[5146,0,0,d,P,ws,0,hP,a8,pw,by rw[jr];rwa[hn],b6,λdd rs out H3 n3 s3 U po is=>?_]
   rwa[q dd rs out H3 (sm.free n3) (sm.trans s3) U po is]
theorem Ak{a b:List Int}(h:a.length=b.length):(bQ a b).length=b.length:=by
 unfold bQ;rw[List.length_zipWith,h,Nat.min_self]
theorem xQ{b:List Int}:∀{a O:List Int},a.length=b.length->O.length=b.length->bQ a b=bQ O b->a=O:=by
 induction b with
 |nil=>
  intro a O h1 h2 _;rw[List.length_eq_zero_iff.mp h1,List.length_eq_zero_iff.mp h2]
 |cons z b ih=>
  intro a O h1 h2 e;cases a with
  |nil=>simp at h1
  |cons x a=>
   cases O with
   |nil=>simp at h2
   |cons y O=>
    have U:(x+z)::bQ a b=(y+z)::bQ O b:=e;injection U with e1 e2
    rw[ih (by simpa using h1) (by simpa using h2) e2,show x=y by lia]
theorem jp:∀{a b:List Int},a.length=b.length->(bQ a b).sum=a.sum+b.sum
 |[],[],_=>rfl
 |[],_::_,h=>by simp at h
 |_::_,[],h=>by simp at h
 |x::a,y::b,h=>by
  show((x+y)::bQ a b).sum=_;rw[sum_cons,sum_cons,sum_cons,jp (by simpa using h)]
  lia
theorem ul:∀{a b:List Int},(∀e∈a,0<=e)->(∀e∈b,0<=e)->∀e∈bQ a b,0<=e
 |[],_,_,_,e,O=>by simp[bQ] at O
 |_::_,[],_,_,e,O=>by simp[bQ] at O
 |x::a,y::b,ha,hb,e,O=>by
  rcases GH.mp (show e∈(x+y)::bQ a b from O) with z|z
  ·have:=ha x (by simp)
   have:=hb y (by simp)
   lia
  ·rwa[ul (λe O=>ha e (by simp[O])) (λe O=>hb e (by simp[O])) e z]
def cnt(k:List Int)(ts:List ai):Nat:=ts.countP λq=>decide (q.1=k)
theorem gn(k:List Int)(a b:List ai):cnt k (a++b)=cnt k a+cnt k b:=List.countP_append
theorem rK(k:List Int)(q:ai):cnt k [q]<=1:=by unfold cnt;rw[countP_singleton];split<;>lia
theorem BE(q:ai):cnt q.1 [q]=1:=by unfold cnt;rw[countP_singleton,p_ rfl];rfl
theorem xS(k:List Int)(ts:List ai)(i:Nat):cnt k (ts.take i)<=cnt k ts:=(take_sublist i ts).countP_le
theorem og(k:List Int):∀{ts:List ai},(ts.map (·.1)).Nodup->cnt k ts<=1
 |[],_=>by simp[cnt]
 |q::r,h=>by
  let#[h1,h2]:=N5.mp (show(q.1::r.map (·.1)).Nodup from h)
  have e:cnt k (q::r)=cnt k [q]+cnt k r:=gn k [q] r;rw[e]
  by_cases z:q.1=k
  ·have:cnt k r=0:=by
    unfold cnt;rw[List.countP_eq_zero];intro p U O;rwa[h1 (GK.mpr #[p,U,(A_ O).trans z.symm])]
   have:=rK k q;lia
  ·have:cnt k [q]=0:=by unfold cnt;rw[countP_singleton,Gx z];rfl
   have:=og k h2;lia
theorem oC{P:Int}(hP:Fz P){S:Nat}(hS:14<=S)(h:∀p∈ps,OkN P p.2/\Sz S p.2):∀i,i<=ps.length->∀p∈acc P (ps.take i),1<=cnt p.1 (ps.take i)/\Sz ((S+1)*cnt p.1 (ps.take i)) p.2
 |0,_,p,hp=>by simp[acc] at hp
 |i+1,hi,p,hp=>by
  have O:=hP.b;obtain⟨q,eq⟩:∃q,ps[i]? = some q:=#[_,e_ ()]
  have Z:=oC hP hS h i ()
  have Y:∀q∈acc P (ps.take i),OkN P q.2:=fW O.1 O.2.2 λq hq=>(h q (Mp hq)).1
  let#[oq,zq]:=h q (E_ eq);have et:ps.take (i+1)=ps.take i++[q]:=by rw[Kw,eq];rfl
  rw[ir eq] at hp;rw[et,gn]
  rcases fX hp with z|z
  ·rw[z,show cnt (q.1,_).1 [q]=1 from BE q]
   show _/\Sz ((S+1)*(cnt q.1 (ps.take i)+1)) (bu P ((bT (acc P (ps.take i)) q.1).getD (0,1)) q.2);have e3:(S+1)*(cnt q.1 (ps.take i)+1)=(S+1)*cnt q.1 (ps.take i)+(S+1):=Nat.mul_succ _ _;rw[e3];erw[(),?_]
   cases e:bT (acc P (ps.take i)) q.1 with
   |none=>
    show Sz _ (bu P (0,1) q.2);rw[dI oq];rwa[zq.mono ()]
   |some y=>
    have my:=dL e;let#[U,sy]:=Z _ my;have U:1<=cnt q.1 (ps.take i):=U;have e4:S+1<=(S+1)*cnt q.1 (ps.take i):=Nat.le_mul_of_pos_right _ U;exact(gB O.1 O.2.1 (Y _ my) oq sy zq (by show 14<=(S+1)*cnt q.1 (ps.take i);lia)).1.mono (by show(S+1)*cnt q.1 (ps.take i)+S+1<=_;lia)
  ·let#[a,b]:=Z p z;rwa[(),b.mono (Oj _ ())]
theorem Cg{P:Int}(hP:Fz P){S:Nat}(hS:14<=S)(h:∀p∈ps,OkN P p.2/\Sz S p.2)(hn:∀k,cnt k ps<=n)(i:Nat):∀p∈acc P (ps.take i),Sz ((S+1)*n) p.2:=λp O=>by
 by_cases hi:i<=ps.length
 ·exact(oC hP hS h i hi p O).2.mono (Oj _ (Lg (xS _ _ _) (hn _)))
 ·rw[Ob ()] at O
  exact(oC hP hS h ps.length (ge _) p (by rw[KU];rwa[O])).2.mono (Oj _ (by rw[KU];rwa[hn _]))
theorem AQ{P:Int}(hP:Fz P){S:Nat}(hS:14<=S)(h:∀p∈ps,OkN P p.2/\Sz S p.2)(hn:∀k,cnt k ps<=n)(h1:S<=2900)(h2:(S+1)*n<=2900):iG P ps:=#[λp O=>#[(h p O).1,(h p O).2.mono h1],λi p O=>(Cg hP hS h hn i p O).mono h2]
theorem Ay{P L:Int}(hP:Fz P){S:Nat}(hS:14<=S)(h:∀p∈ps,OkN P p.2/\Sz S p.2/\(p.1.length:Int)=L/\∀e∈p.1,0<=e)(hn:∀k,cnt k ps<=n)(hs:F3 P ps out):FL P L ((S+1)*n) out/\out.length<=ps.length/\∀q∈out,∃r∈ps,r.1=q.1:=by
 have Y:=hP.b;have h':∀p∈ps,OkN P p.2/\Sz S p.2:=λp U=>#[(h p U).1,(h p U).2.1]
 have fr:∀q∈out,∃r∈ps,r.1=q.1:=λq O=>kR q (hs.mem q O)
 erw[#[hs.2,λq O=>#[fW Y.1 Y.2.2 (λp U=>(h p U).1) q (hs.mem q O),Cg hP hS h' hn ps.length q (by rw[KU];rwa[hs.mem q O]),hs.nz q O,?_]],?_,fr]
 ·let#[r,Z,e]:=fr q O;rw[<- e];exact(h r Z).2.2
 ·have e1:=hs.1.length_eq;have e2:=Nb nz (acc P ps);have e3:=ij P ps;lia
theorem nQ(k:List Int)(f:ai->ai->Int×Int):∀{ps qs:List ai},(ps.map (·.1)).Nodup->(∀p∈ps,p.1.length=L)->(∀q∈qs,q.1.length=L)->cnt k (ps.flatMap λa=>qs.map λb=>(bQ a.1 b.1,f a b))<=qs.length
 |ps,[],_,_,_=>by
  have:(ps.flatMap λa=>([]:List ai).map λb=>(bQ a.1 b.1,f a b))=[]:=by simp
  rw[this];rwa[ge _]
 |ps,b::r,hn,h1,h2=>by
  have ih:=nQ k f hn h1 λq O=>h2 q (GG _ O)
  have sp:∀ps:List ai,cnt k (ps.flatMap λa=>(b::r).map λb=>(bQ a.1 b.1,f a b))=cnt k (ps.map λa=>(bQ a.1 b.1,f a b))+cnt k (ps.flatMap λa=>r.map λb=>(bQ a.1 b.1,f a b)):=λps=>by
   induction ps with
   |nil=>rfl
   |cons a t iht=>
    rw[flatMap_cons,gn,iht,flatMap_cons,gn,K1];have Z:cnt k ((bQ a.1 b.1,f a b)::r.map λb=>(bQ a.1 b.1,f a b))=cnt k [(bQ a.1 b.1,f a b)]+cnt k (r.map λb=>(bQ a.1 b.1,f a b)):=gn k [_] _
    have e2:cnt k ((a::t).map λa=>(bQ a.1 b.1,f a b))=cnt k [(bQ a.1 b.1,f a b)]+cnt k (t.map λa=>(bQ a.1 b.1,f a b)):=gn k [_] _
    rw[Z,e2];lia
  rw[sp ps];have one:cnt k (ps.map λa=>(bQ a.1 b.1,f a b))<=1:=by
   erw[og k ?_];rw[MB,show(ps.map ((λx=>x.1) ∘ λa=>(bQ a.1 b.1,f a b)))=(ps.map (·.1)).map λx=>bQ x b.1 by rw[MB];rfl]
   erw[Oc.mpr (hn.imp_of_mem λ{x y} hx hy U z=>U ?_)]
   let#[p,hp,1]:=GK.mp hx;let#[q,O,1]:=GK.mp hy;have Y:=h2 b KQ;rwa[xQ ((h1 p hp).trans Y.symm) ((h1 q O).trans Y.symm) z]
  rw[Mf];lia
theorem vn(P:Int)(k:List Int)(hn:(ps.map (·.1)).Nodup)(h1:∀p∈ps,p.1.length=L)(h2:∀q∈qs,q.1.length=L):cnt k (cg P ps qs)<=qs.length:=nQ k (λa b=>gF P a.2 b.2) hn h1 h2
theorem uS{P:Int}(hP:Fz P){x:Int×Int}(o:OkN P x)(h:P=0->Sz 2 x):Sz 14 x:=by
 by_cases h0:P=0
 ·exact(h h0).mono #[]
 ·have O:=hP.b
  rcases o with⟨z,_⟩|⟨_,x0,x1,x2⟩
  ·rwa[absurd z h0]
  ·rwa[by show x.1.natAbs<2^14;lia,by rw[x2];decide]
def Dl(P L:Int)(h c:Int)(e:List ai):Prop:=FL P L 45 e/\e.length<=3/\∀q∈e,q.1.sum+c=h
def qZ:Sp:=λvs H Q _=>∃(p c:Addr) (P L h a b:Int) (k:Nat) (cs:List Int),vs=[.int P,.int L,.ref c,.int h,.ref p]/\Fz P/\1<=L/\L<=4/\H c=some (.lst (cs.map V.int))/\c≠p/\cs.length<=3/\H p=some (.lst [.int a,.int b])/\FI a b k/\k<=50000/\
 ∀(r:Addr) (es:List V) (row:List (List ai)) (a' b':Int) (H':Hp),H r=none->H' r=some (.lst es)->Paired (FF H r P H') es row->Paired (Dl P L h) cs row->H' p=some (.lst [.int a',.int b'])->FI a' b' (k+300)->(∀c o,H c=some o->c≠p->H' c=some o)->Q (.ref r) H'
def Bs(P L d:Int)(q:ai):Prop:=OkN P q.2/\Sz 14 q.2/\(q.1.length:Int)=L/\(∀e∈q.1,0<=e)/\q.1.sum=d
theorem r9{P L d:Int}(hP:Fz P)(hn:ps.length<=n)(ok:∀q∈ps,Bs P L d q)(is:F3 P ps out):FL P L (15*n) out/\out.length<=n/\∀q∈out,q.1.sum=d:=by
 let#[c,l,fr]:=BH hP (S:=14) (n:=n) #[] (λq O=>#[(ok q O).1,(ok q O).2.1,(ok q O).2.2.1,(ok q O).2.2.2.1]) hn is
 erw[c,l,λq O=>?_]
 let#[r,U,e]:=fr q O;rw[<- e];exact(ok r U).2.2.2.2
theorem oK{P L d:Int}(hP:Fz P)(hn:ps.length<=3)(ok:∀q∈ps,Bs P L d q):iG P ps:=Bz hP (S:=14) (n:=3) #[] (λq O=>#[(ok q O).1,(ok q O).2.1]) hn #[] #[]
theorem FV:Fv ["_law_prime_here", "_law_letters", "_law_columns_here", "_law_height", "_law_bag_here", "_law_row", "_law_column", "_law_some", "_law_k"] ["_law_prime_here", "_law_letters", "_law_columns_here", "_law_height", "_law_bag_here"] (am cy):=.i
set_option maxHeartbeats 4000000 in
theorem wD(F:Fun K "_law_spread_row" "_law_spread_row" cy f fd)(T:Blt mg)(GY:`FnB 1 "_law_take" eM)(Hk:`FnB 4 "_law_number" jh)(Hg:`FnB 2 "_law_product" sD)(Hc:`FnB 4 "_law_sum" lG):
  aC P w K mg base CX0 5 f fd ["_law_prime_here", "_law_letters", "_law_columns_here", "_law_height", "_law_bag_here"] qZ:=by
 erw[F.o FV λ_ _ _ _ H _ Q _ hr h=>?_]
 ·let#[p,c,P,L,h,a,b,k,cs,1,hP,L1,L4,O,cp,c3,hp,hb,hk,q]:=h;have hB:=hP.b;erw[_,(af (aq (i:=5) FV.nd rfl #[4] (aQ ag))
(af (bi GM rfl (aL K rfl (pv 2)) (aO (i:=6) FV.nd rfl #[4])
(af (aq (i:=7) FV.nd rfl #[4] (aQ ag))
(af (aT (zE nY nY ak (ap bE (pv 3) (pv 6)) ak)
(aj (bi GM rfl (bj rfl T.range (aa (ay GY hr.m (aa (pv 4) (aa ak ag))) ag)) (aO (i:=8) FV.nd rfl #[4])
(aj (aZ (bmA K rfl (pv 7) (aa (aS (aa (ay Hg hr.m (aa (pv 1) (aa (ap bE (pv 3) (pv 6)) (aa (pv 4) ag)))) (aa (ay Hk hr.m (aa (pv 0) (aa (pv 4) (aa gK ag)))) ag))) ag))))))
aE)
(aj (aZ (bmA K rfl (pv 5) (aa (ay Hc hr.m (aa (pv 0) (aa (pv 7) ag))) ag)))))))
(aj (ar (pv 5))))),?_]
  erw[Gw _,λr nr=>?_]
  have rp:r≠p:=(ah hp nr).symm;have e6:(upd H r (.lst [])) r=some (.lst []):=ae;have s3:=Fu.new (o:=.lst []) nr;have e5:=s3 _ _ hp;generalize upd H r (.lst [])=H3 at *;erw[52,0,c,1,#[_,SqL.of (s3 _ _ O)],cS (xs:=cs.map V.int) (λj σ H'=>∃(es:List V) (row:List (List ai)) (a b:Int) (x6 x7 x8:Option V),σ=[some (.int P),some (.int L),some (.ref c),some (.int h),some (.ref p),some (.ref r),x6,x7,x8]/\
    H' r=some (.lst es)/\Paired (FF H r P H') es row/\Paired (Dl P L h) (cs.take j) row/\H' p=some (.lst [.int a,.int b])/\FI a b (k+60*j)/\∀c o,H c=some o->c≠p->H' c=some o) ?_ ?_ ?_ ?_]
  ·rwa[4036,[],[],a,b,none,none,none,1,e6,.nil,by rw[take_zero];rwa[.nil],e5,hb,λc o e _=>s3 c o e]
  ·rintro j σ H' _ ⟨es,row,a,b,x6,x7,x8,rfl,_,_,_,_,_,kp⟩;rwa[SqL.of (kp _ _ O cp)]
  ·rintro j v σ H4 hx ⟨es,row,a4,b4,x6,x7,x8,rfl,b0,b5,Z,a',Y,b2⟩ N0 B0 e1;let#[cj,c',1]:=fm hx;have jl:j<cs.length:=(q_.mp c').1;have dk:row.length=j:=by rw[<- Paired.length Z,LK];lia
   have ea:es.length=row.length:=Paired.length b5;erw[Gw _,λU ns=>?_]
   have sp:U≠p:=(ah a' ns).symm;have sr:U≠r:=(ah b0 ns).symm;have s5:=Fu.new (o:=.lst []) ns;have c4:(upd H4 U (.lst [])) U=some (.lst []):=ae;have c0:=s5 _ _ a';generalize upd H4 U (.lst [])=H5 at *;dsimp only;erw[ut (t:=DO _ _ _) (λσ' H'=>∃(ts:List V) (ps:List ai) (a b:Int) (x8:Option V),σ'=[some (.int P),some (.int L),some (.ref c),some (.int h),some (.ref p),some (.ref r),some (.int cj),some (.ref U),x8]/\H' U=some (.lst ts)/\FA P H' ts ps/\ps.length<=3/\(∀q∈ps,Bs P L (h-cj) q)/\H' p=some (.lst [.int a,.int b])/\FI a b (k+60*j+50)/\∀c o,H4 c=some o->c≠p->H' c=some o) (λR hR=>?_) ?_]
   ·erw[51222211,0,0,2,2,0,?_];have ac:∀c o,H4 c=some o->c≠p->H5 c=some o:=λc o e _=>s5 c o e
    by_cases h1:0<=h-cj
    ·rw[p_ h1];erw[cZ #[2211,2,0,?_]]
     by_cases h2:h-cj<=6
     ·rw[p_ h2];erw[cZ #[96,0,p,a4,b4,_,0,c0,Y,(),(),aM () (),λn6 a6 b6 ee ef bx=>?_]]
      have k6:∀c o,H5 c=some o->c≠p->upd H5 p (.lst [.int a6,.int b6]) c=some o:=λc o e O=>by rw[al O];rwa[e]
      have au:(upd H5 p (.lst [.int a6,.int b6])) p=some (.lst [.int a6,.int b6]):=ae;have c5:=k6 _ _ c4 sp;generalize upd H5 p (.lst [.int a6,.int b6])=H6 at *;erw[n6,1,(),(),dX (n:=n6.toNat) (λm σ H'=>∃(ts:List V) (ps:List ai) (a b:Int) (x8:Option V),σ=[some (.int P),some (.int L),some (.ref c),some (.int h),some (.ref p),some (.ref r),some (.int cj),some (.ref U),x8]/\H' U=some (.lst ts)/\FA P H' ts ps/\ps.length=m/\(∀q∈ps,Bs P L (h-cj) q)/\H' p=some (.lst [.int a,.int b])/\FI a b (k+60*j+1+12*m)/\∀c o,H6 c=some o->c≠p->c≠U->H' c=some o) ?_ ?_ ?_]
      ·rwa[4017,[],[],a6,b6,0,c5,.nil,1,λq hq=>absurd hq (by simp),au,bx,λc o e _ _=>e]
      ·rintro m σ H7 hm ⟨ts,ps,a7,b7,y8,rfl,b1,b8,c7,c8,ax,bz,c6⟩ N1 B1 e3;erw[0,.inl #[1,_,SqL.of b1],?_];erw[51629018,0,0,0,2,0,p,L,_,a7,b7,0,L1,L4,h1,(),ax,bz,(),λt cb a9 b9 H9 e' ec eg e8 cz e4 de=>?_]
       erw[1195,0,0,p,P,a9,b9,0,hP,cz,e4,(),λv x dy dz c9 av ox sx cr ck be=>?_]
       have dm:=uS hP ox sx;erw[(by show 2<=sizeLine;decide),λa8 eb=>?_]
       have b':=Fu.new (o:=.tup [.ref t,v]) eb;have e0:(upd c9 a8 (.tup [.ref t,v])) a8=some (.tup [.ref t,v]):=ae;generalize upd c9 a8 (.tup [.ref t,v])=ad at *;have ka:FB [p] H9 ad:=(FB.bag cz be (by simp)).trans (.of b')
       have kb:FB [p] H7 ad:=(FB.bag ax de (by simp)).trans ka
       have bd:=kb.2 _ _ b1 (by simp[sp])
       erw[34,U,2,bd,by rw[Paired.length b8,c7,Gr];lia,?_]
       have kc:FB [U] ad (upd ad U (.lst (ts++[.ref a8]))):=FB.put bd (by simp)
       erw[e3 _ _ #[4017,ts++[.ref a8],ps++[(cb,x)],dy,dz,0,ae,FA.snoc #[33,a8,t,v,1,kc.1 _ _ e0,kc.1 _ _ (ka.1 _ _ e8),((av.mono λt xs e=>b' _ _ e).mono kc.1)] ((b8.mono kb.1).mono kc.1),by rw[y_,c7];rfl,λq hq=>?_,by rw[al sp.symm];rwa[b' _ _ cr],ck.mono (),λc o e O cm=>?_]]
       ·rcases KI.mp hq with z|z
        ·rwa[c8 q z]
        ·rw[GF.mp z];rwa[ox,dm,e',ec,by show cb.sum=h-cj;lia]
       ·rw[al cm];rwa[b' _ _ (be c o (de c o (c6 c o e O cm) O) O)]
      ·rintro σ H7 ⟨ts,ps,a7,b7,y8,rfl,b1,b8,c7,c8,ax,bz,c6⟩;rwa[hR _ _ #[4017,ts,ps,a7,b7,0,b1,b8,(),c8,ax,bz.mono (),λc o e O=>c6 c o (k6 c o (s5 c o e) O) O (ah e ns)]]
     ·rw[Gx h2];rwa[cG (hR _ _ #[4017,[],[],a4,b4,0,c4,.nil,#[],λq hq=>absurd hq (by simp),c0,Y.mono (),ac])]
    ·rw[Gx h1];rwa[cG #[0,cG (hR _ _ #[4017,[],[],a4,b4,0,c4,.nil,#[],λq hq=>absurd hq (by simp),c0,Y.mono (),ac])]]
   rintro σ' H6 ⟨ts,ps,a6,b6,ei,rfl,c5,ed,df,dl,au,bx,b3⟩;have c1:=b3 _ _ b0 rp;erw[0,.inl #[1,_,SqL.of c1],?_];erw[5146,0,0,U,P,ts,ps,1,hP,c5,ed,(),oK hP df dl,λd rs out H7 nd s7 hd po is=>?_]
   have c2:=s7 _ _ c1;have dr:d≠r:=(ah c1 nd).symm;erw[34,r,2,c2,by rw[ea,dk,Gr];lia,?_]
   have ka:FB [p,r] H4 (upd H7 r (.lst (es++[.ref d]))):=((FB.bag a' b3 (by simp)).trans (.of s7)).trans (FB.put c2 (by simp))
   have kb:FB [p,r] H7 (upd H7 r (.lst (es++[.ref d]))):=FB.put c2 (by simp)
   erw[e1 _ _ #[4036,es++[.ref d],row++[out],a6,b6,_,_,0,ae,aK ?_ (ao (λ_ _=>FF.keep hp ka) b5),?_,by rw[al rp.symm];rwa[s7 _ _ au],bx.mono (),λc o e O=>?_]]
   ·rwa[24,d,rs,1,tu (λc o e O=>b3 c o (b2 c o e O) O) au nd,dr,by rw[al dr];rwa[hd],po.mono kb.1]
   ·rw[Kw,c'];let#[z1,z2,z3]:=r9 hP df dl is;rwa[aK #[z1,z2,λq hq=>by rw[z3 q hq];lia] Z]
   ·rw[al (ah e nr)];rwa[s7 _ _ (b3 c o (b2 c o e O) O)]
  rintro σ H4 ⟨es,row,a4,b4,x6,x7,x8,rfl,b0,b5,Z,a',Y,b2⟩;rw[k_] at Z Y;rw[KU] at Z;rwa[0,q r es row a4 b4 H4 nr b0 b5 Z a' (Y.mono ()) b2]
def jv(i:Nat):List ai->List (Nat×ai)
 |[]=>[]
 |q::_=>[(i,q)]
def cF:Nat->List (List ai)->List (Nat×ai)
 |_,[]=>[]
 |i,e::r=>jv i e++cF (i+1) r
def aN:Nat->List (List ai)->List (Nat×ai)
 |_,[]=>[]
 |i,e::r=>e.map (λq=>(i,q))++aN (i+1) r
def ky(x:Nat×ai):List Int×Int:=(x.2.1,-(x.1:Int))
def Top(fs:List (Nat×ai))(x:Nat×ai):Prop:=x∈fs/\∀y∈fs,tgt (ky y) (ky x)=false
theorem nF(e:List ai):∀(a:List (List ai)) (k:Nat),cF k (a++[e])=cF k a++jv (k+a.length) e
 |[],k=>by show jv k e++[]=[]++jv (k+0) e;rw[Mg];rfl
 |x::a,k=>by
  show jv k x++cF (k+1) (a++[e])=jv k x++cF (k+1) a++jv (k+(a.length+1)) e;rw[nF e a (k+1),Mt,show k+1+a.length=k+(a.length+1) by lia]
theorem qO:∀(a:List (List ai)) (k:Nat),(cF k a).length<=a.length
 |[],_=>ge _
 |x::a,k=>by
  show(jv k x++cF (k+1) a).length<=a.length+1;have:=qO a (k+1);rw[y_];cases x with
  |nil=>show 0+_<=_;lia
  |cons q t=>show 1+_<=_;lia
theorem iI:∀{row:List (List ai)} {k:Nat},x∈aN k row->∃i e,x.1=k+i/\row[i]? = some e/\x.2∈e
 |[],_,h=>by cases h
 |e::r,k,h=>by
  rcases KI.mp (show x∈e.map (λq=>(k,q))++aN (k+1) r from h) with z|z
  ·let#[q,U,1]:=GK.mp z;rwa[22,(0),e,1,1,U]
  ·let#[i,t,Y,e2,O]:=iI z;rwa[22,i+1,t,(),e2,O]
theorem i0(e:List ai):∀(a:List (List ai)) (k:Nat),aN k (a++[e])=aN k a++e.map λq=>(k+a.length,q)
 |[],k=>by show e.map _++[]=[]++_;rw[Mg];rfl
 |x::a,k=>by
  show x.map _++aN (k+1) (a++[e])=x.map _++aN (k+1) a++e.map λq=>(k+(a.length+1),q)
  rw[i0 e a (k+1),Mt,show k+1+a.length=k+(a.length+1) by lia]
theorem nd_8:(["key", "top", "under", "bottom"]:List Str).Nodup:=by decide +kernel
def NmIs(P a b:Int)(m:Int×Int):Prop:=(P=0/\m=nrm a b)\/(P≠0/\0<=m.1/\m.1<P/\m.2=1/\(m.1*b)%P=a%P)
theorem DM{CR x:Addr}{P a b:Int}{dvs:List V}{t:TA}(hP:Fz P)(hN:FQ CF CR H x P)(hv:vs++dvs=[.int a,.int b])(h0:P=0->b≠0/\b.natAbs<2^6000)(h1:P≠0->b%P≠0)(ha:∀Z:VK,Z (.ref x) H->ta σ H Z)(ht:∀Z:List V->Hp->Prop,Z vs H->t σ H Z)(hR:∀r m H',Fu H H'->At P H' r m->NmIs P a b m->R r H'):
  Dz (iD CF "of" (oU GZ) dvs E0 ta t) (iD CR "of" (oJ CR GZ) dvs E0 ta t) σ H R:=by
 rcases hN with⟨z,dx,e⟩|⟨z,dx,e⟩
 ·let#[O,bs]:=h0 z;erw[.inl (ha _ #[33,x,dx,[],1,e,1,ht _ #[32,.ref x,a,b,by rw[hv],λy=>absurd y O,λ_=>#[bs,λr nr=>?_]]])]
  rwa[hR _ _ _ (Fu.new nr) (.inl #[z,r,1,ae]) (.inl #[z,1])]
 ·rcases hP with y|⟨h2,U,Y⟩
  ·rwa[absurd y z]
  erw[.inr (ha _ #[33,x,dx,0,e,tD (by decide +kernel) _,ht _ #[4016,x,dx,P,a,b,by rw[hv],e,h2,U,Y,(λy=>absurd y (h1 z)),λ_ r r0 r1 hr=>?_]])]
  rwa[hR _ (r,1) _ (Fu.refl H) (.inr #[z,1,1]) (.inr #[z,r0,r1,1,hr])]
theorem NmIs.ok{P a b:Int}{m:Int×Int}(h:NmIs P a b m)(hb:P=0->b≠0):OkN P m:=by
 rcases h with⟨z,rfl⟩|⟨z,h1,h2,h3,_⟩
 ·subst z;rwa[pK (hb rfl)]
 ·rwa[.inr #[z,h1,h2,h3]]
def t9:Sp:=λvs H Q _=>∃x:V,vs=[x]/\Q (.int 0) H
def uR(CR:Addr):Sp:=λvs H Q _=>∃(x dx:Addr) (p:Int),vs=[.ref x]/\H x=some (.ins CR dx [("modulus",.int p)])/\Q (.int p) H
def Fr(H:Hp)(t:Addr)(x:Int×Int):Prop:=H t=some (.tup [.int x.1,.int x.2])
def CM(CF CR:Addr):Sp:=λvs H Q _=>∃(x:Addr) (P:Int) (u:V) (a:Int×Int),vs=[.ref x,u]/\FQ CF CR H x P/\At P H u a/\∀t H',Fu H H'->Fr H' t a->Q (.ref t) H'
section
theorem gP:Fv ["self"] ["self"] (am cx):=.i
theorem D1(F:Fun K "prime" "Fractions.prime" cx f fd):`aC CX0 1 f fd ["self"] t9:=by
 erw[F.o gP λ_ _ _ _ H _ Q _ O h=>?_]
 ·let#[x,1,q]:=h;rwa[_,(aj (ar ak)),q]
theorem lB:Fv ["self"] ["self"] (am eU):=.i
theorem Ec{CR:Addr}(F:Fun K "prime" "Rests.prime" eU f fd)(cl:Cls K CR)(nM:Fx K CR "modulus"):`aC CX0 1 f fd ["self"] (uR CR):=by
 erw[F.o lB λ_ _ _ _ H _ Q _ U h=>?_]
 ·let#[x,dx,p,1,O,q]:=h;rwa[_,(aj (ar (bq (pv 0) rfl))),#[95,0,x,CR,dx,_,0,O,cl,nM,1,q]]
theorem iB:Fv ["numbers", "number"] ["numbers", "number"] (am cU):=.i
theorem E3{CR:Addr}(F:Fun K "top_and_bottom" "top_and_bottom" cU f fd)(Jx:`MtB 1 CF "prime" t9)(Jy:`MtB 1 CR "prime" (uR CR)):`aC CX0 2 f fd ["numbers", "number"] (CM CF CR):=by
 erw[F.o iB λ_ _ _ _ H _ Q _ O h=>?_]
 ·let#[x,P,u,a,1,Y,U,q]:=h;erw[_,(af (aT (az dJ (rW (cu Jx O.m (pv 0)) (cu Jy O.m (pv 0))) ak (aA _))
(aj (ar (pv 1)))
aE)
(aj (ar (aS (aa (pv 1) (aa ak ag)))))),?_]
  rcases Y with⟨h0,dx,e⟩|⟨h0,dx,e⟩
  ·rcases U with⟨_,t,rfl,ht⟩|⟨z,_⟩
   ·rwa[.inl #[731211,0,x,dx,0,e,1,.ref x,1,1,0,cZ #[0,q t H (Fu.refl _) ht]]]
   ·rwa[absurd h0 z]
  ·rcases U with⟨z,_⟩|⟨_,rfl,h1⟩
   ·rwa[absurd z h0]
   ·erw[.inr #[733311,0,x,dx,0,e,tD (by decide +kernel) _,x,dx,P,1,e,1,0,?_]]
    rw[Gx (show ¬V.int P=V.int 0 from λz=>h0 (by injection z))]
    erw[cG #[0,(by show 2<=sizeLine;decide),λt Z=>q t _ (Fu.new Z) ?_]]
    show upd H t (.tup [.int a.1,.int 1]) t=some (.tup [.int a.1,.int a.2]);rw[h1,ae]
end
def EZ:Sp:=λvs H Q _=>∃a b:Nat,vs=[.int a,.int b]/\0<a/\0<b/\a<2^2900/\b<2^2900/\Q (.int (Nat.lcm a b)) H
theorem Cv{a b:Nat}(ha:0<a):(a:Int).fdiv (Int.gcd a b:Int)*b=(Nat.lcm a b:Int):=by
 have Z:0<Nat.gcd a b:=Nat.gcd_pos_of_pos_left b ha;let#[c,O]:=Nat.gcd_dvd_left a b;have U:(Int.gcd (a:Int) (b:Int))=Nat.gcd a b:=rfl;have e2:(a:Int).fdiv (Nat.gcd a b:Int)=c:=by
  conv=>lhs;rw[O]
  rw[N6];have Y:Nat.gcd (Nat.gcd a b*c) b=Nat.gcd a b:=by rw[<- O]
  rw[Y];rwa[K4 _ ()]
 rw[U,e2,<- N6];congr 1;unfold Nat.lcm;refine(Nat.div_eq_of_eq_mul_right Z ?_).symm
 conv=>lhs;rw[O]
 rw[Nat.mul_assoc]
theorem iH:Fv ["one", "other"] ["one", "other"] (am cV):=.i
theorem EW(F:Fun K "least_multiple" "least_multiple" cV f fd)(Ha:`FnB 1 "greatest_divisor" vf):`aC CX0 2 f fd ["one", "other"] EZ:=by
 erw[F.o iH λ_ _ _ _ H _ Q _ Y h=>?_]
 ·let#[a,b,1,O,hb,sa,sb,q]:=h;erw[_,(aj (ar (ap dE (ap bM (pv 0) (ay Ha Y.m (aa (pv 0) (aa (pv 1) ag)))) (pv 1)))),?_];have U:0<Nat.gcd a b:=Nat.gcd_pos_of_pos_left b O;have gl:Nat.gcd a b<=a:=Nat.le_of_dvd O (Nat.gcd_dvd_left a b);have Z:(2:Nat)^2900<2^6000:=K8 #[] #[]
  have cd:CDivA (a:Int) (Int.gcd (a:Int) (b:Int):Int):=#[by show((Nat.gcd a b:Nat):Int)≠0;lia,by show(((Nat.gcd a b:Nat):Int)).natAbs<_;rw[K5];lia]
  have dl:((a:Int).fdiv (Int.gcd (a:Int) (b:Int):Int)).natAbs<=a:=by
   have e:=(zZ (a:=(a:Int)) (b:=(b:Int)) () ()).1
   have h1:=Ls Int.natAbs e;rw[Nj,K5,K5] at h1;have:1<=Int.gcd (a:Int) (b:Int):=U;have:=Nz ((a:Int).fdiv (Int.gcd (a:Int) (b:Int):Int)).natAbs this;lia
  erw[51612363,0,0,0,_,0,2,cd,0,2,qw () (by rw[K5];lia),?_]
  show Q (.int ((a:Int).fdiv (Int.gcd (a:Int) (b:Int):Int)*(b:Int))) H;rw[Cv O];rwa[q]
abbrev Tm:=Int×(Int×Int)
def TmR(H:Hp)(v:V)(p:Tm):Prop:=∃a,v=.ref a/\H a=some (.tup [.int p.1,.int p.2.1,.int p.2.2])
def Ej(p:Tm):Prop:=0<p.2.2/\p.2.2.natAbs<2^60/\p.2.1.natAbs<2^60
def gD(b:Nat)(ts:List Tm):List (Int×Int):=ts.map λp=>(p.1,p.2.1*(b:Int).fdiv p.2.2)
structure Bt (ts:List Tm) (b:Nat):Prop where
 pos:0<b
 lt:b<2^1850
 one:(∀p∈ts,p.2.2=1)->b=1
 dvd:∀p∈ts,p.2.2.natAbs ∣ b
def Ch:Sp:=λvs H Q _=>∃(l:Addr) (us:List V) (ts:List Tm),vs=[.ref l]/\H l=some (.lst us)/\Paired (TmR H) us ts/\ts.length<=30/\(∀p∈ts,Ej p)/\(ts.map (·.1)).Nodup/\
 ∀(r d:Addr) (o:Obj) (b:Nat) (H':Hp),Fu H H'->H' r=some (.tup [.ref d,.int b])->H' d=some (.frz o (.dK (DK (gD b ts))))->Bt ts b->Q (.ref r) H'
theorem CJ{a b i:Nat}(a0:0<a)(b0:0<b)(ha:a<2^(60*i+1))(hb:b<2^60):Nat.lcm a b<2^(60*(i+1)+1):=by
 have h1:Nat.lcm a b<=a*b:=Nat.lcm_le_mul a0 b0;erw[Li h1 ?_];rw[show 60*(i+1)+1=(60*i+1)+60 by lia,Nat.pow_add]
 rwa[NJ ha hb]
theorem n0:∀{us:List V} {m:List (Int×Int)},Paired (λv (p:Int×Int)=>∃a,v=V.ref a/\H a=some (.tup [.int p.1,.int p.2])) us m->∃as:List Addr,us=as.map V.ref/\Paired (λ(a:Addr) (p:Key×V)=>H a=some (.tup [kV p.1,p.2])) as (DK m)
 |_,_,.nil=>#[[],1,.nil]
 |_,_,.cons h t=>by
  let#[as,e,O]:=n0 t;let#[a,1,h1]:=h;rwa[a::as,by rw[e];rfl,.cons h1 O]
theorem tW(m:List (Int×Int)):(DK m).map (·.1)=(m.map (·.1)).map Sum.inl:=by
 unfold DK;rw[MB,MB]
 rfl
theorem xP{m:List (Int×Int)}(h:(m.map (·.1)).Nodup):((DK m).map (·.1)).Nodup:=by
 rw[tW];rwa[Nr _ (λa b h e=>h (PJ e)) h]
theorem FP:Fv ["terms", "bottom", "key", "top", "under"] ["terms"] (am cw):=.i
theorem wC(F:Fun K "over_one_bottom" "over_one_bottom" cw f fd)(ndict:mg "dict" = none)(HK:`FnB 2 "least_multiple" EZ):`aC CX0 3 f fd ["terms"] Ch:=by
 erw[F.o FP λ_ _ _ _ H _ Q _ hr h=>?_]
 ·let#[l,us,ts,1,Z,pu,ac,a8,nd,q]:=h;erw[_,(af (aq (i:=1) FP.nd rfl (Or.inr rfl) ak)
(af (bi GM rfl (aL K rfl (pv 0)) (jd rfl (by rwa[ba (by exact(aO (i:=2) FP.nd rfl #[4])) (by rwa[ba (by exact(aO (i:=3) FP.nd rfl #[4])) (by rwa[ba (by exact(aO (i:=4) FP.nd rfl #[4])) gw])])]))
(aj (aq (i:=1) FP.nd rfl (Or.inr rfl) (ay HK hr.m (aa (pv 1) (aa (pv 4) ag))))))
(aj (ar (aS (aa (DU (nq ndict (by rwa[bh (N:=["key", "top", "under", "bottom"]) (src:=[none,none,none,some 1]) rfl rfl rfl (by exact(aL K rfl (pv 0))) (λ_ _ _=>by rwa[by exact(AV K (i:=0) (j:=1) (k:=2) rfl rfl nd_8 rfl rfl rfl rfl rfl rfl),aV,by exact(aS (aa (pv 0) (aa (ap dE (pv 1) (ap bM (pv 3) (pv 2))) ag)))])]))) (aa (pv 1) ag))))))),?_]
  have lu:us.length=ts.length:=Paired.length pu;have b5:(2:Nat)^60<2^2900:=K8 #[] #[]
  have b3:(2:Nat)^1850<2^2900:=K8 #[] #[]
  have b4:(2:Nat)^2900<2^6000:=K8 #[] #[]
  have pw:∀i,i<=30->(2:Nat)^(60*i+1)<=2^1850:=λi hi=>Nat.pow_le_pow_right #[] ()
  erw[52,0,l,1,#[_,SqL.of Z],cS (xs:=us) (λi σ H'=>∃(x2 x3 x4:Option V) (b:Nat),σ=[some (.ref l),some (.int b),x2,x3,x4]/\H'=H/\0<b/\b<2^(60*i+1)/\((∀p∈ts,p.2.2=1)->b=1)/\∀y∈ts.take i,y.2.2.natAbs ∣ b) ?_ ?_ ?_ ?_]
  ·rwa[45,none,none,none,(1),1,1,#[],#[],λ_=>rfl,λy hy=>by simp at hy]
  ·rintro i σ H' _ ⟨x2,x3,x4,b,rfl,rfl,_⟩;rwa[SqL.of Z]
  ·rintro i v σ H2 hv ⟨x2,x3,x4,b,rfl,rfl,b0,bB,b1,bd⟩ N0 C0 a9;let#[y,O,t,1,ht]:=aD pu hv;have hi:i<ts.length:=(q_.mp O).1;let#[d0,a6,_]:=a8 y (E_ O);have:=pw i ()
   erw[232121225125,t,0,SqT.of ht,1,_,0,_,0,2,0,0,b,y.2.2.natAbs,by rw[Nk ()];rfl,b0,(),(),(),?_]
   erw[a9 _ _ #[45,_,_,_,Nat.lcm b y.2.2.natAbs,1,1,Nat.lcm_pos b0 (),CJ b0 () bB a6,λh1=>?_,λy' a7=>?_]]
   ·rw[b1 h1,h1 y (E_ O)]
    rfl
   ·rw[Kw,O] at a7
    rcases KI.mp a7 with z|z
    ·rwa[Nat.dvd_trans (bd y' z) (Nat.dvd_lcm_left _ _)]
    ·rw[GF.mp z];rwa[Nat.dvd_lcm_right _ _]
  ·rintro σ H2 ⟨x2,x3,x4,b,rfl,rfl,b0,bB,b1,bd⟩;rw[lu] at bB;rw[lu,KU] at bd;have bl:b<2^1850:=GS bB (pw _ ac);erw[52,0,l,1,#[_,SqL.of Z],cC (n:=us.length) (σ0:=[none,none,none,some (.int b)]) rfl (λσ=>∃u1 u2 u3,σ=[u1,u2,u3,some (.int b)]) (λH v (p:Int×Int)=>∃a,v=.ref a/\H a=some (.tup [.int p.1,.int p.2])) (λH H' v x fx ⟨a,e,h1⟩=>#[a,e,fx.tup h1]) (λi xs=>xs=gD b (ts.take i)) () #[30,_,_,0] rfl (λi H hi U=>#[21,us,_,SqL.of (U _ _ Z),e_ hi]) (λH U=>#[us,SqL.of (U _ _ Z),ge _]) ?_ ?_]
   ·rintro i σ H3 x H' xs Y N hi ⟨u1,u2,u3,rfl⟩ U rfl ⟨rfl,hx⟩ hY hN;have hx:=hx us (SqL.of (U _ _ Z));let#[y,O,t,1,ht]:=aD pu hx;let#[d0,a6,b2]:=a8 y (E_ O);let#[c,hc]:=bd y (E_ O);have ef:(b:Int).fdiv y.2.2=c:=by
     rw[hc,N6,Nk ()]
     rwa[K4 _ ()]
    have cb:c<=b:=by rw[hc];rwa[Nz _ ()]
    erw[23212122,t,0,SqT.of (U _ _ ht),1,_,0,_,0,2,AX ?_];erw[51512324,0,0,0,0,2,#[(),()],2,qw () (by rw[ef,K5];lia),by show 2<=sizeLine;decide,λp np=>?_]
    erw[hY _ _ (y.1,y.2.1*(b:Int).fdiv y.2.2) _ #[30,_,_,0] (Fu.new np) #[p,1,ae] ?_];unfold gD;rw[Kw,O,KB]
    rfl
   ·rintro acc vs m H3 ax U a' pr _ rfl;rw[lu,KU] at pr;let#[as,1,au]:=n0 pr;erw[33,acc,as,DK (gD b ts),1,a',au,λd ad=>#[22,d,0,ae,λo=>?_]]
    have kk:(gD b ts).map (·.1)=ts.map (·.1):=by
     unfold gD;rw[MB]
     rfl
    have e1:io [] (DK (gD b ts))=DK (gD b ts):=qd _ (xP (by rw[kk];rwa[nd]))
    rw[e1,fA];erw[0,by show 2<=sizeLine;decide,λr nr=>?_]
    have rd:r≠d:=λz=>by rw[z,ae] at nr;cases nr
    rwa[q r d o b _ ((U.trans (Fu.new ad)).trans (Fu.new nr)) ae (by rw[al rd.symm];rwa[ae]) #[b0,bl,b1,bd]]
def tmk(x:Nat×ai):Tm:=(kyT x.1 x.2.1,x.2.2)
def RwOk(P:Int)(L:Nat)(row:List (List ai)):Prop:=∀e∈row,(e.map (·.1)).Nodup/\∀q∈e,OkN P q.2/\Sz 60 q.2/\q.1.length=L/\∀x∈q.1,0<=x/\x<1000
theorem mW(h:∀x∈es,0<=x/\x<1000):Dg es:=λx O=>by have:=h x O;lia
def yw(L n:Nat)(x:Nat×ai):Prop:=x.1<n/\x.2.1.length=L/\∀e∈x.2.1,0<=e/\e<1000
theorem iu:∀(a b:List (List ai)) (k:Nat),aN k (a++b)=aN k a++aN (k+a.length) b
 |[],b,k=>rfl
 |x::a,b,k=>by
  show x.map _++aN (k+1) (a++b)=(x.map _++aN (k+1) a)++aN (k+(a.length+1)) b;rw[iu a b (k+1),Mt,show k+1+a.length=k+(a.length+1) by lia]
theorem oO:∀(row:List (List ai)) (k:Nat),(∀e∈row,(e.map (·.1)).Nodup)->((aN k row).map λx=>(x.1,x.2.1)).Nodup/\∀x∈aN k row,k<=x.1
 |[],k,_=>#[PU,λx h=>by cases h]
 |e::r,k,h=>by
  let#[h1,h2]:=oO r (k+1) λe Z=>h e (GG _ Z)
  have h0:=h e KQ
  constructor
  ·show((e.map (λq=>(k,q))++aN (k+1) r).map λx=>(x.1,x.2.1)).Nodup
   rw[KB,MB,OM];erw[?_,h1,λa U b Y z=>?_]
   ·have:e.map ((λx:Nat×ai=>(x.1,x.2.1)) ∘ λq=>(k,q))=(e.map (·.1)).map λp=>(k,p):=by rw[MB];rfl
    rw[this];rwa[Nr _ (λa b h z=>h (Ls Prod.snd z)) h0]
   ·let#[q,_,1]:=GK.mp U;let#[y,hy,1]:=GK.mp Y;have:=h2 y hy;have z:k=y.1:=Ls Prod.fst z;lia
  ·intro x O
   rcases KI.mp O with O|O
   ·let#[q,_,1]:=GK.mp O;rwa[ge _]
   ·have:=h2 x O;lia
theorem zn(hn:n<=60){xs:List (Nat×ai)}(h:∀x∈xs,yw L n x)(nd:(xs.map λx=>(x.1,x.2.1)).Nodup):(xs.map λx=>kyT x.1 x.2.1).Nodup:=by
 induction xs with
 |nil=>rwa[PU]
 |cons a r ih=>
  rw[K1,nodup_cons] at nd ⊢;erw[λz=>nd.1 ?_,ih (λx Z=>h x (GG _ Z)) nd.2]
  let#[b,O,e]:=GK.mp z;let#[a1,a2,a3]:=h a KQ;let#[b1,b2,U]:=h b (GG _ O);let#[Y,e2]:=tS () () () (mW U) (mW a3) e
  rwa[GK.mpr #[b,O,by rw[Y,e2]]]
theorem RwOk.pl{P:Int}{row:List (List ai)}(h:RwOk P L row):∀x∈aN 0 row,yw L row.length x/\OkN P x.2.2/\Sz 60 x.2.2:=λx O=>by
 let#[i,e,h1,h2,h3]:=iI O;let#[o,z,l,d]:=(h e (E_ h2)).2 x.2 h3;rwa[#[by have:=(q_.mp h2).1;lia,l,d],o,z]
theorem Fo{P:Int}(o:OkN P x.2.2)(z:Sz 60 x.2.2):Ej (tmk x):=#[o.den,z.2,z.1]
def zH(K:Frag)(CF CR CG C:Addr):Sp:=λvs H Q _=>∃(g xn f o pl r:Addr) (P:Int) (L:Nat) (es:List V) (row:List (List ai)),vs=[.ref g,.ref f,.ref r]/\fE CG H g xn L/\FQ CF CR H xn P/\FH C H f o pl L row.length/\H r=some (.lst es)/\Paired (FW P H) es row/\row.length<=60/\L<=4/\RwOk P L row/\(aN 0 row).length<=30/\
 ∀(t d:Addr) (ob:Obj) (b:Nat) (H':Hp),Fu H H'->H' t=some (.tup [.ref d,.int b])->H' d=some (.frz ob (.dK (DK (gD b ((aN 0 row).map tmk)))))->Bt ((aN 0 row).map tmk) b->Q (.ref t) H'
theorem Gd:Fv ["ring", "frame", "row", "terms", "place", "entry", "product", "number", "fraction"] ["ring", "frame", "row"] (am gm):=.i
set_option maxHeartbeats 1000000 in
theorem yL{CR:Addr}(F:Fun K "vector_of" "vector_of" gm f fd)(T:Blt mg)(Ib:`MtB 1 CG "numbers" (kD CG))(J8:`MtB 3 C "key" (BY K C))(Hd:`FnB 2 "top_and_bottom" (CM CF CR))(HI:`FnB 3 "over_one_bottom" Ch):
  aC P w K mg base CX0 4 f fd ["ring", "frame", "row"] (zH K CF CR CG C):=by
 erw[F.o Gd λ_ _ _ _ H _ Q _ hr h=>?_]
 ·let#[g,xn,f,o,pl,r,P,L,es,row,1,hg,hN,hf,a',pr,n6,L4,ok,ad,q]:=h;let#[dg,hg]:=hg;have b0:=hf;let#[#[df,mf,b1],_,_]:=b0;have le:es.length=row.length:=Paired.length pr;erw[_,(af (aq (i:=3) Gd.nd rfl #[4] (aQ ag))
(af (bi GM rfl (gh K rfl rfl T.enum (aa (pv 2) ag)) (bc K (i:=4) (j:=5) rfl rfl Gd.nd rfl rfl rfl rfl)
(aj (bi GM rfl (aL K rfl (pv 5)) (bc K (i:=6) (j:=7) rfl rfl Gd.nd rfl rfl rfl rfl)
(af (aq (i:=8) Gd.nd rfl #[4] (ay Hd hr.m (aa (cu Ib hr.m (pv 0)) (aa (pv 7) ag))))
(aj (aZ (bmA K rfl (pv 3) (aa (aS (aa (cL J8 hr.m (pv 1) (aa (pv 4) (aa (pv 6) ag))) (aa (aG (aI K rfl) (pv 8) ak (λ_ _=>rfl)) (aa (aG (aI K rfl) (pv 8) ak (λ_ _=>rfl)) ag)))) ag))))))))
(aj (ar (ay HI hr.m (aa (pv 3) ag)))))),?_]
  erw[Gw _,λtm a8=>?_]
  erw[52,0,r,1,#[_,SqL.of (Fu.new a8 _ _ a')],lU (xs:=es) (λi σ H'=>∃(x4 x5 x6 x7 x8:Option V) (ws:List V),σ=[some (.ref g),some (.ref f),some (.ref r),some (.ref tm),x4,x5,x6,x7,x8]/\Fu H H'/\H' tm=some (.lst ws)/\Paired (TmR H') ws ((aN 0 (row.take i)).map tmk)) ?_ ?_ ?_ ?_]
  ·rwa[4023,none,none,none,none,none,[],1,Fu.new a8,ae,.nil]
  ·rintro i σ H' _ ⟨x4,x5,x6,x7,x8,ws,rfl,sm,_⟩;rwa[SqL.of (sm _ _ a')]
  ·rintro i v σ H1 p hv ⟨x4,x5,x6,x7,x8,ws,rfl,sm,a7,pt⟩ np;let#[e,ee,l,ts,1,hl,pe]:=aD pr hv;have hi:i<row.length:=(q_.mp ee).1;have s2:=Fu.new (o:=.tup [.int i,.ref l]) np;have h2:(upd H1 p (.tup [.int i,.ref l])) p=some (.tup [.int i,.ref l]):=ae;generalize upd H1 p (.tup [.int i,.ref l])=H2 at s2 h2;have ax:=sm.trans s2;have lt:ts.length=e.length:=Paired.length pe;have b2:=(ok e (E_ ee)).2;erw[232122,p,0,SqT.of h2,1,_,0,2,?_];erw[52,0,l,1,#[_,SqL.of (ax _ _ hl)],eA (xs:=ts) (λj σ H'=>∃(x6 x7 x8:Option V) (ws:List V),σ=[some (.ref g),some (.ref f),some (.ref r),some (.ref tm),some (.int i),some (.ref l),x6,x7,x8]/\Fu H H'/\H' tm=some (.lst ws)/\Paired (TmR H') ws ((aN 0 (row.take i)++(e.take j).map λq=>(i,q)).map tmk)) ?_ ?_ ?_ ?_]
   ·rwa[43,x6,x7,x8,ws,1,ax,s2 _ _ a7,by rw[take_zero,map_nil,Mg];rwa[ao (λ_ _ ⟨a,e,h⟩=>#[a,e,s2 _ _ h]) pt]]
   ·rintro j σ H' _ ⟨x6,x7,x8,ws,rfl,sm,_⟩;rwa[SqL.of (sm _ _ hl)]
   ·rintro j v σ H3 hv ⟨x6,x7,x8,ws,rfl,U,O,Z⟩;let#[y,ey,t,k,u,1,ht,hk,hu]:=pe.at_ hv;have au:=b2 y (E_ ey);have b3:ws.length<=30:=by
     rw[Paired.length Z,k_];erw[Lg ?_ ad];have e1:aN 0 row=aN 0 (row.take i)++aN (0+(row.take i).length) (row.drop i):=by
      conv=>lhs;rw[<- List.take_append_drop i row]
      rwa[iu _ _ _]
     have e2:row.drop i=e::row.drop (i+1):=by
      rw[List.drop_eq_getElem_cons hi];congr 1;rwa[G_ ((e_ hi).symm.trans ee)]
     rw[e1,e2,y_,y_];show _<=_+(e.map _++aN _ _).length;rw[y_,k_,k_,LK];lia
    erw[232122,t,0,SqT.of (U _ _ ht),1,_,0,2,?_];erw[733283,0,g,dg,0,U _ _ hg,1,g,xn,L,1,#[dg,U _ _ hg],0,xn,P,u,y.2,1,hN.mono λo e=>U _ _ e,hu.same U,λt4 H4 s4 ac=>?_]
    have a6:=U.trans s4;erw[0,.inl #[1,_,SqL.of (s4 _ _ O)],#[73514044,0,f,df,0,a6 _ _ b1,1,0,0,f,o,pl,k,L,row.length,i,y.1,1,hf.same a6,.inl (SqT.of (a6 _ _ hk)),#[hi,n6,au.2.2.1,L4,mW au.2.2.2],?_]];erw[8485,0,t4,_,2,SqT.of ac,1,0,t4,_,2,SqT.of ac,1,by show 3<=sizeLine;decide,λtt Y=>?_]
    erw[34,tm,ws,0,1,Fu.new Y _ _ (s4 _ _ O),by rw[Gr];lia,?_]
    have tn:tt≠tm:=λz=>by rw[z,s4 _ _ O] at Y;cases Y
    erw[43,_,_,_,ws++[.ref tt],1,λc o e=>?_,ae,?_]
    ·rw[al (ah e a8)];rwa[Fu.new Y _ _ (a6 _ _ e)]
    ·have ex:(aN 0 (row.take i)++(e.take (j+1)).map λq=>(i,q)).map tmk=(aN 0 (row.take i)++(e.take j).map λq=>(i,q)).map tmk++[tmk (i,y)]:=by
      rw[Kw,ey];simp
     rw[ex];erw[aK #[tt,1,?_] (ao (λ_ _ ⟨a,e,h⟩=>#[a,e,?_]) Z)]
     ·rw[al tn,ae]
      rfl
     ·have h:=s4 _ _ h;rw[al (aw h (s4 _ _ O) #[3])]
      rwa[Fu.new Y _ _ h]
   ·rintro σ H3 ⟨x6,x7,x8,ws,rfl,U,O,Z⟩;rw[lt,KU] at Z;erw[4023,_,_,_,_,_,ws,1,U,O,?_];rw[Kw,ee];show Paired _ _ ((aN 0 (row.take i++[e])).map tmk);rw[i0,LK,show 0+min i row.length=i by lia]
    rwa[Z]
  ·rintro σ H1 ⟨x4,x5,x6,x7,x8,ws,rfl,sm,a7,pt⟩;rw[le,KU] at pt;have a9:=ok.pl;erw[76,0,tm,ws,0,a7,pt,by rw[k_];rwa[ad],λp hp=>?_,?_,λt d ob b H' s' h1 h2 h3=>q t d ob b H' (sm.trans s') h1 h2 h3]
   ·let#[x,hx,1]:=GK.mp hp;rwa[Fo (a9 x hx).2.1 (a9 x hx).2.2]
   ·rw[MB];rwa[zn n6 (λx hx=>(a9 x hx).1) (oO row 0 λe he=>(ok e he).1).1]
theorem nd_9:(["entry"]:List Str).Nodup:=by decide +kernel
theorem p8{σ:L2.St}(hσ:bG src σ=none::rest)(hn:n<=60)(hd:∀(acc:Addr) (as:List Addr) H,H0 acc=none->Fu H0 H->H acc=some (.lst (as.map V.ref))->as.length=n->as.Nodup->(∀a∈as,H a=some (.lst [])/\H0 a=none/\a≠acc)->Q (.ref acc) H):
  bK (Itr lo n) src (bV 0) jQ (Fa cI) σ H0 Q:=by
 erw[cY (n:=n) (σ0:=none::rest) hσ (λacc i zs σ H=>(∃u,σ=u::rest)/\Fu H0 H/\∃as:List Addr,zs=as.map V.ref/\as.length=i/\as.Nodup/\∀a∈as,H a=some (.lst [])/\H0 a=none/\a≠acc) (by rw[Gr];lia) (λacc O=>#[#[none,1],Fu.new O,[],1,1,PU,λa Z=>nomatch Z]) ?_ ?_ ?_ ?_]
 ·rintro acc i zs σ H O hi hz _;rwa[hi]
 ·rintro acc zs σ H O hz _;rwa[ge _]
 ·rintro acc i zs σ H x H' O hi hz a6 ⟨⟨u,rfl⟩,sm,as,rfl,la,U,Z⟩ ⟨rfl,rfl⟩;erw[Gw _,λp Y=>?_]
  have pa:p≠acc:=λz=>by rw[z,hz] at Y;cases Y
  erw[_,Fu.new Y _ _ hz,by rw[k_,Gr];lia,_,ae,by rw[y_,k_];show _+1<=_;lia,#[0],(sm.trans (Fu.new Y)).put O,as++[p],by rw[KB];rfl,by rw[y_,la];rfl,?_,λa h=>?_]
  ·erw[List.nodup_append.mpr #[U,by simp,λb hb c hc=>?_]]
   rw[GF.mp hc];intro z;rw[z] at hb;have:=(Z p hb).1;rw[Y] at this;cases this
  ·rcases KI.mp h with z|z
   ·let#[h1,h2,h3]:=Z a z;erw[?_,h2,h3];rw[al h3];rwa[Fu.new Y _ _ h1]
   ·rw[GF.mp z];rwa[by rw[al pa,ae],sm.free Y,pa]
 ·rintro acc zs σ H O hz a6 ⟨_,sm,as,rfl,la,U,Z⟩;rwa[hd acc as H O sm hz la U Z]
def atP(i:Nat)(ys:List (Nat×ai)):List ai:=(ys.filter λy=>decide (y.1=i)).map (·.2)
theorem xG(i:Nat)(ys:List (Nat×ai))(y:Nat×ai):atP i (ys++[y])=atP i ys++(if y.1=i then[y.2] else[]):=by
 unfold atP;rw[NH,KB]
 by_cases h:y.1=i<;>simp[h]
theorem BU{i:Nat}(h:p∈atP i ys):(i,p)∈ys:=by
 let#[y,O,1]:=GK.mp h;let#[h1,h2]:=LM.mp O;have h2:=A_ h2;rw[<- h2];rwa[h1]
theorem CH{i:Nat}(h:(ys.map λy=>(y.1,y.2.1)).Nodup):((atP i ys).map (·.1)).Nodup:=by
 unfold atP
 induction ys with
 |nil=>rwa[PU]
 |cons y r ih=>
  rw[K1,nodup_cons] at h
  by_cases O:y.1=i
  ·rw[Mm (by simpa using O),K1,K1,nodup_cons]
   erw[λz=>h.1 ?_,ih h.2]
   let#[q,U,e]:=GK.mp z;have:=BU (i:=i) (ys:=r) (p:=q) U;rwa[GK.mpr #[_,this,by rw[O];rwa[Ls (Prod.mk i) e]]]
  ·rw[LX (by simpa using O)]
   rwa[ih h.2]
def lE(a b:ai):Prop:=HT.lexLt b.1 a.1=true
def sP(H:Hp)(v:V):Int×List Int:=(0,(tL H v).2)
theorem Gb.prk{P:Int}(h:Gb P H v p):PrK false K H v (sP H v)/\sP H v=(0,p.1):=by
 have e:sP H v=(0,p.1):=by unfold sP;rw[h.key];rfl
 let#[t,k,u,1,h1,h2,h3]:=h;erw[?_,e];rw[e];erw[34,t,k,u,1,h1,SqT.of h2,1,?_]
 rcases h3 with⟨_,c,rfl,_⟩|⟨_,rfl,_⟩
 ·rwa[.inr #[0]]
 ·rwa[.inl #[0]]
theorem sJ{P:Int}{l:Addr}(hl:H l=some (.lst vs))(pr:FA P H vs ps)(h6:ps.length<64)(nd:(ps.map (·.1)).Nodup)(q:∀D H2 zs O,H D=none->Fu H H2->H2 D=some (.lst zs)->FA P H2 zs O->O.Perm ps->O.Pairwise lE->Q (.ref D) H2):wI false true K [.ref l] H Q:=by
 have lv:vs.length=ps.length:=Paired.length pr;have ks:vs.map (sP H)=(ps.map (·.1)).map λp=>((0:Int),p):=by
  have:∀{vs:List V} {ps:List ai},FA P H vs ps->vs.map (sP H)=(ps.map (·.1)).map λp=>((0:Int),p):=by
   intro vs ps h
   induction h with
   |nil=>rfl
   |cons h _ ih=>rw[K1,ih,(Gb.prk (K:=K) h).2];rfl
  rwa[this pr]
 erw[2312,l,vs,1,SqL.of hl,(),sP H,?_,λy hy=>?_,λD H2 zs nD Y Z pm pw=>?_]
 ·rw[ks];rwa[Nr _ (λa b h z=>h (Ls Prod.snd z)) nd]
 ·let#[p,_,hp]:=pr.mem hy;rwa[hp.prk.1]
 ·let#[O,q1,U]:=pr.perm pm;erw[q D H2 zs O nD Y Z (U.mono λt xs e=>Y _ _ e) q1 ?_]
  have:=FA.fall (lt:=λu v=>klt (0,u.2) (0,v.2)) U pw
  erw[this.imp λ{a b} h=>?_]
  have h:klt (0,b.1) (0,a.1)=true:=h;rw[gc,u_ rfl] at h;rwa[h]
theorem zD{as:List Addr}(h:as.Nodup){i j:Nat}{a:Addr}(h1:as[i]? = some a)(h2:as[j]? = some a):i=j:=by
 let#[hi,O]:=q_.mp h1;let#[U,e2]:=q_.mp h2;exact(getElem_inj h).mp (O.trans e2.symm)
def ku(P:Int)(x y:Nat×ai):Prop:=y.1=x.1/\y.2.1=x.2.1/\NmIs P x.2.2.1 x.2.2.2 y.2.2
theorem tT{P:Int}:∀{xs ys:List (Nat×ai)},Paired (ku P) xs ys->ys.map (λy=>(y.1,y.2.1))=xs.map λx=>(x.1,x.2.1)
 |_,_,.nil=>rfl
 |_,_,.cons h t=>by rw[K1,K1,tT t,h.1,h.2.1]
def Ee(P:Int)(x:Nat×ai):Prop:=(P=0->x.2.2.2≠0/\x.2.2.2.natAbs<2^6000)/\(P≠0->x.2.2.2%P≠0)
def oX(CF CR CG C:Addr):Sp:=λvs H Q _=>∃(g xn f o pl l:Addr) (P:Int) (L n:Nat) (us:List V) (xs:List (Nat×ai)),vs=[.ref g,.ref f,.ref l]/\fE CG H g xn L/\FQ CF CR H xn P/\Fz P/\FH C H f o pl L n/\H l=some (.lst us)/\Paired (TmR H) us (xs.map tmk)/\xs.length<=30/\n<=60/\L<=4/\(∀x∈xs,yw L n x/\Ee P x)/\(xs.map λx=>(x.1,x.2.1)).Nodup/\
 ∀(d:Addr) (es:List V) (out:List (List ai)) (ys:List (Nat×ai)) (H':Hp),H d=none->Fu H H'->H' d=some (.lst es)->Paired (FF H d P H') es out->out.length=n->Paired (ku P) xs ys->(∀(i:Nat) (e:List ai),out[i]? = some e->e.Perm (atP i ys)/\e.Pairwise lE)->Q (.ref d) H'
theorem Gm:Fv ["ring", "frame", "terms", "numbers", "row", "key", "top", "bottom"] ["ring", "frame", "terms"] (am lX):=.i
set_option maxHeartbeats 1000000 in
theorem zg{CR:Addr}(F:Fun K "row_of" "row_of" lX f fd)(T:Blt mg)(Ib:`MtB 1 CG "numbers" (kD CG))(Jd:`MtB 1 C "many_places" (xV C))(HE:`MtB 1 C "place" (qa C))(J9:`MtB 3 C "product" (yJ C))(Ko:`Aa 2 CF "of" [] (oU GZ))(Kp:`Aa 2 CR "of" [] (oJ CR GZ)):
  aC P w K mg base CX0 4 f fd ["ring", "frame", "terms"] (oX CF CR CG C):=by
 erw[F.o Gm λ_ _ _ _ H _ Q _ hr h=>?_]
 ·let#[g,xn,f,o,pl,l,P,L,n,us,xs,1,hg,hN,hP,hf,hl,pu,c2,n6,L4,b',nd,q]:=h;let#[dg,hg]:=hg;have b3:=hf;let#[#[df,mf,ad],_,_]:=b3;have lu:us.length=xs.length:=by rw[Paired.length pu,k_]
  erw[_,(af (aq (i:=3) Gm.nd rfl #[4] (cu Ib hr.m (pv 0)))
(af (fF (i:=4) Gm.nd rfl #[4] (N:=["place"]) (src:=[none]) rfl rfl rfl (by exact(bj rfl T.range (aa (by exact(cu Jd hr.m (pv 1))) ag))) (λ_ _ _=>by rwa[by exact(cc (i:=0) Df rfl rfl),aV,by exact(aQ ag)]))
(af (bi GM rfl (aL K rfl (pv 2)) (jd rfl (by rwa[ba (by exact(aO (i:=5) Gm.nd rfl #[4])) (by rwa[ba (by exact(aO (i:=6) Gm.nd rfl #[4])) (by rwa[ba (by exact(aO (i:=7) Gm.nd rfl #[4])) gw])])]))
(aj (aZ (bmA K rfl (aG (aF K rfl) (pv 4) (cL HE hr.m (pv 1) (aa (pv 5) ag)) (λ_ _=>rfl)) (aa (by exact(aS (aa (by exact(cL J9 hr.m (pv 1) (aa (pv 5) ag))) (aa (by exact(rW (yt Ko hr.m pA (pv 3) (aa (pv 6) (aa (pv 7) ag))) (yt Kp hr.m pA (pv 3) (aa (pv 6) (aa (pv 7) ag))))) ag)))) ag)))))
(aj (ar (by rwa[bh (N:=["entry"]) (src:=[none]) rfl rfl rfl (by exact(aL K rfl (pv 4))) (λ_ _ _=>by rwa[by exact(cc (i:=0) nd_9 rfl rfl),aV,by exact(vA T hr.m (pv 0))])])))))),?_]
  erw[7332,0,g,dg,0,hg,1,g,xn,L,1,#[dg,hg],?_];erw[73401213,0,f,df,0,ad,1,f,o,pl,L,n,1,hf,(n:Int),1,(),(),p8 (rest:=[]) rfl () λrw as H1 c4 s1 b4 la b9 has=>?_]
  rw[Lq] at la;erw[52,0,l,1,#[_,SqL.of (s1 _ _ hl)],cS (xs:=us) (λj σ H'=>∃(x5 x6 x7:Option V) (ys:List (Nat×ai)),σ=[some (.ref g),some (.ref f),some (.ref l),some (.ref xn),some (.ref rw),x5,x6,x7]/\Fu H H'/\H' rw=some (.lst (as.map V.ref))/\Paired (ku P) (xs.take j) ys/\∀i a,as[i]? = some a->∃vs,H' a=some (.lst vs)/\FA P H' vs (atP i ys)/\vs.length<=j) ?_ ?_ ?_ ?_]
  ·erw[44,none,none,none,[],1,s1,b4,.nil,λi a ha=>#[[],(has a (E_ ha)).1,.nil,Gw _]]
  ·rintro j σ H' _ ⟨x5,x6,x7,ys,rfl,Y,_⟩;rwa[SqL.of (Y _ _ hl)]
  ·rintro j v σ H2 hv ⟨x5,x6,x7,ys,rfl,Y,O,py,U⟩ N0 B0 b1;let#[ym,a6,t,1,ht]:=aD pu hv;rw[Ga] at a6;obtain⟨x,ex⟩:∃x,xs[j]? = some x:=by
    cases z:xs[j]? with
    |none=>rw[z] at a6;cases a6
    |some x=>rwa[x,1]
   rw[ex] at a6;cases a6;let#[#[xi,xl,xd],c0,c1]:=b' x (E_ ex);have ko:mz L n x.1 x.2.1:=#[xi,n6,xl,L4,mW xd];have jx:j<xs.length:=(q_.mp ex).1;obtain⟨a,ea⟩:∃a,as[x.1]? = some a:=#[_,e_ ()]
   let#[vs,a8,au,b7]:=U x.1 a ea;erw[23212122,t,0,SqT.of (Y _ _ ht),1,_,0,_,0,2,?_];erw[5133902344,0,0,f,df,0,Y _ _ ad,1,0,f,o,pl,L,n,x.1,x.2.1,1,hf.same Y,ko,rw,_,2,SqL.of O,bt (v:=.ref a) (by rw[Ga,ea];rfl),?_]
   erw[.inl #[1,_,SqL.of a8],?_];erw[739023,0,f,df,0,Y _ _ ad,1,0,f,o,pl,L,n,x.1,x.2.1,1,hf.same Y,ko,λtp H3 s3 b5=>?_]
   erw[DM (a:=x.2.2.1) (b:=x.2.2.2) hP (hN.mono λo' e=>s3 _ _ (Y _ _ e)) rfl c0 c1 (λZ z=>#[0,z]) (λZ z=>#[51,0,0,z]) λr4 m H4 s4 a4 im=>?_]
   erw[by show 2<=sizeLine;decide,λp np=>?_]
   have s5:=(s3.trans s4).trans (Fu.new (o:=.tup [.ref tp,r4]) np);have ax:(upd H4 p (.tup [.ref tp,r4])) p=some (.tup [.ref tp,r4]):=ae;have a9:=Fu.new (o:=.tup [.ref tp,r4]) np _ _ (s4 _ _ b5);have a5:At P (upd H4 p (.tup [.ref tp,r4])) r4 m:=a4.same (Fu.new np);generalize upd H4 p (.tup [.ref tp,r4])=H5 at s5 ax a9 a5;have ac:=s5 _ _ a8;erw[34,a,vs,0,1,ac,by rw[Gr];lia,b1 _ _ #[44,_,_,_,ys++[(x.1,(x.2.1,m))],1,λc o' e=>?_,?_,?_,λi a' a7=>?_]]
   ·rw[al (ah e (has a (E_ ea)).2.1)];rwa[s5 _ _ (Y _ _ e)]
   ·rw[al (has a (E_ ea)).2.2.symm];rwa[s5 _ _ O]
   ·rw[Kw,ex];rwa[aK #[1,1,im] py]
   ·have kt:∀c zs,H5 c=some (.tup zs)->upd H5 a (.lst (vs++[.ref p])) c=some (.tup zs):=λc zs e=>by
     rw[al (aw e ac #[3])]
     rwa[e]
    rw[xG]
    by_cases hi:x.1=i
    ·subst hi;obtain rfl:a=a':=G_ (ea.symm.trans a7);rw[u_ rfl];rwa[_,ae,FA.snoc (p:=(x.2.1,m)) #[33,p,tp,r4,1,kt _ _ ax,kt _ _ a9,a5.mono λt zs e=>kt _ _ e] (au.mono λt zs e=>kt _ _ (s5 _ _ e)),by rw[y_,GV];lia]
    ·rw[t_ hi,Mg];let#[bz,b6,bd,c3]:=U i a' a7;have na:a'≠a:=λz=>by
      rw[z] at a7;rwa[hi (zD b9 ea a7)]
     rwa[bz,by rw[al na];rwa[s5 _ _ b6],bd.mono λt zs e=>kt _ _ (s5 _ _ e),()]
  ·rintro σ H2 ⟨x5,x6,x7,ys,rfl,Y,O,py,U⟩;rw[lu,KU] at py;have ly:ys.length=xs.length:=(Paired.length py).symm;have b0:=nd;rw[<- tT py] at b0;erw[52,0,rw,1,#[_,SqL.of O],vz (P:=P) (rest:=[]) rfl (λi e=>e.Perm (atP i ys)/\e.Pairwise lE) O (by rw[k_];lia) (λi v H3 R hv s3 hR=>?_) λd es out H3 b8 s3 b2 pe lo be=>?_]
   ·rw[Ga] at hv;obtain⟨a,ea⟩:∃a,as[i]? = some a:=by
     cases z:as[i]? with
     |none=>rw[z] at hv;cases hv
     |some a=>rwa[a,1]
    rw[ea] at hv;cases hv;let#[vs,a8,au,b7]:=U i a ea;erw[0,sJ (P:=P) (s3 _ _ a8) (au.mono λt zs e=>s3 _ _ e) ?_ (CH b0) λD H4 zs qs nD s4 hD pq pm pw=>hR D zs qs H4 s4 nD hD pq #[pm,pw]]
    have:(atP i ys).length<=ys.length:=by
     unfold atP;rw[k_];rwa[Nb _ _]
    lia
   ·rw[k_,la] at lo;erw[q d es out ys H3 (Y.free b8) (Y.trans s3) b2 (ao (λv e ⟨l',bx,h1,h2,h3,h4,h5⟩=>#[l',bx,h1,Y.free h2,h3,h4,h5]) pe) lo py be]
def std(i:Nat)(ld:List (Nat×List Int)):List (Int×Int):=(ld.zipIdx.filter λx=>decide (x.1.1=i)).map λx=>(pkN x.1.2*1048576,(x.2:Int))
theorem qF(i:Nat)(ld:List (Nat×List Int))(x:Nat×List Int):std i (ld++[x])=std i ld++(if x.1=i then[(pkN x.2*1048576,(ld.length:Int))] else[]):=by
 unfold std;rw[List.zipIdx_append,NH,KB]
 by_cases h:x.1=i<;>simp[h]
theorem uZ{i:Nat}{p:Int×Int}(h:p∈std i ld):∃(r:Nat) (es:List Int),ld[r]? = some (i,es)/\p=(pkN es*1048576,(r:Int)):=by
 let#[x,O,1]:=GK.mp h;let#[h1,h2]:=LM.mp O;have h2:x.1.1=i:=A_ h2;have h3:=List.mem_zipIdx_iff_getElem?.mp h1;rwa[21,x.2,x.1.2,by rw[h3,<- h2],1]
theorem C6{i r:Nat}(h:ld[r]? = some (i,es)):(pkN es*1048576,(r:Int))∈std i ld:=
 GK.mpr #[((i,es),r),LM.mpr #[List.mem_zipIdx_iff_getElem?.mpr h,p_ rfl],1]
theorem Bw(i:Nat)(ld:List (Nat×List Int)):(std i ld).length<=ld.length:=by
 unfold std;rw[k_];erw[Lg (Nb _ _) ?_];rw[length_zipIdx];rwa[ge _]
theorem C5(i:Nat)(ld:List (Nat×List Int)):((std i ld).map (·.2)).Nodup:=by
 unfold std;rw[MB];have:(ld.zipIdx.filter λx=>decide (x.1.1=i)).map ((λp:Int×Int=>p.2) ∘ λx:(Nat×List Int)×Nat=>(pkN x.1.2*1048576,(x.2:Int)))=((ld.zipIdx.filter λx=>decide (x.1.1=i)).map (·.2)).map λn:Nat=>(n:Int):=by
  rw[MB]
  rfl
 rw[this];have z:((ld.zipIdx.filter λx=>decide (x.1.1=i)).map (·.2)).Nodup:=by
  erw[List.Nodup.sublist (List.Sublist.map _ filter_sublist) ?_];rw[List.zipIdx_map_snd];rwa[List.nodup_range']
 rwa[Nr _ (λa b h e=>h ()) z]
def PrR(H:Hp)(v:V)(p:Int×Int):Prop:=∃a,v=.ref a/\H a=some (.tup [.int p.1,.int p.2])
def Red(ld:List (Nat×List Int))(i:Nat)(es:List Int)(v:V):Prop:=(∃(r:Nat) (ls:List Int),v=.int r/\ld[r]? = some (i,ls)/\bD ls es=true)\/(v=.non/\∀ls,(i,ls)∈ld->bD ls es=false)
abbrev bsF(f:Addr)(P:Int)(L:Nat)(a1 a2 a3 a4 a5:Addr):List (Str×V):=[("frame",.ref f),("modulus",.int P),("free",.int (free L*1048576)),("leads",.ref a1),("firsts",.ref a2),("tails",.ref a3),("standing",.ref a4),("known",.ref a5)]
structure BsAt (CB CFr:Addr) (H:Hp) (b f o pl a1 a2 a3 a4 a5:Addr) (P:Int) (L n:Nat) (ld:List (Nat×List Int)):Prop where
 ob:∃db,H b=some (.ins CB db (bsF f P L a1 a2 a3 a4 a5))
 fr:FH CFr H f o pl L n
 h1:H a1=some (.lst (ld.map λx=>V.int (kyT x.1 x.2)))
 h2:H a2=some (.lst (ld.map λ_=>V.int 1))
 h3:∃ts:List Addr,H a3=some (.lst (ts.map V.ref))/\ts.length=ld.length/\∀t∈ts,H t=some (.lst [])/\t∉[a1,a2,a3,a4]
 h4:∃ss:List Addr,H a4=some (.lst (ss.map V.ref))/\ss.length=n/\∀(i:Nat) (s:Addr),ss[i]? = some s->s∉[a1,a2,a3,a4]/\∃vs ps,H s=some (.lst vs)/\Paired (PrR H) vs ps/\ps.Perm (std i ld)
 nd:[a1,a2,a3,a4].Nodup
 no:o∉[a1,a2,a3,a4]
 n5:a5≠pl
 ok:∀x∈ld,x.1<n/\x.2.length=L/\∀e∈x.2,0<=e/\e<1000
 bn:n<=60
 bL:L<=4
 bl:ld.length<=30
def xF(L n:Nat)(ld:List (Nat×List Int))(kn:List (Key×V)):Prop:=∀(i:Nat) (es:List Int) (v:V),mz L n i es->(∀e∈es,e<524288)->bw kn (.inl (kyT i es))=some v->Red ld i es v
theorem PrR.keep{p:Int×Int}(k:∀t xs,H t=some (.tup xs)->H' t=some (.tup xs))(h:PrR H v p):PrR H' v p:=by
 let#[a,e,h]:=h;rwa[a,e,k _ _ h]
theorem BsAt.mono{b o pl a1 a2 a3 a4:Addr}{P:Int}(h5:H a5=some (.dK kn))(k:∀c u,c≠a5->H c=some u->H' c=some u)(h:BsAt CB CFr H b f o pl a1 a2 a3 a4 a5 P L n ld):BsAt CB CFr H' b f o pl a1 a2 a3 a4 a5 P L n ld:=by
 have O:∀{c xs},H c=some (.lst xs)->H' c=some (.lst xs):=λ{c xs} e=>k _ _ (aw e h5 #[3]) e
 have kt:∀t xs,H t=some (.tup xs)->H' t=some (.tup xs):=λt xs e=>k _ _ (aw e h5 #[3]) e
 let#[db,Y]:=h.ob;let#[#[df,m,U],f2,f3]:=h.fr;let#[ts,t1,t2,t3]:=h.h3;let#[ss,s1,s2,s3]:=h.h4;erw[#[db,k _ _ (aw Y h5 #[3]) Y],#[#[20,df,m,k _ _ (aw U h5 #[3]) U],O f2,k _ _ (Ne.symm h.n5) f3],O h.h1,O h.h2,#[ts,O t1,t2,λt Z=>#[O (t3 t Z).1,(t3 t Z).2]],#[ss,O s1,s2,λi s hs=>?_],h.nd,h.no,h.n5,h.ok,h.bn,h.bL,h.bl]
 let#[e1,vs,ps,e2,e3,e4]:=s3 i s hs;rwa[0122,e1,vs,ps,O e2,ao (λ_ _=>PrR.keep kt) e3,e4]
theorem BsAt.same{b o pl a1 a2 a3 a4:Addr}{P:Int}(h5:H a5=some (.dK kn))(s:Fu H H')(h:BsAt CB CFr H b f o pl a1 a2 a3 a4 a5 P L n ld):BsAt CB CFr H' b f o pl a1 a2 a3 a4 a5 P L n ld:=h.mono h5 λc u _ e=>s c u e
def Ce:Sp:=λvs H Q _=>∃(d:Addr) (ob:Obj) (k m:Int),vs=[.ref d,.int m.natAbs]/\H d=some (.frz ob (.dK (DK [(k,m)])))/\m≠0/\∀H',Fu H H'->Q (.int m.natAbs) H'
def zB(CB CFr:Addr):Sp:=λvs H Q _=>∃(x dx f o pl:Addr) (P:Int) (L n:Nat),vs=[.ref x,.ref f,.int P]/\H x=some (.ins CB dx [])/\FH CFr H f o pl L n/\n<=60/\L<=4/\
 ∀(a1 a2 a3 a4 a5:Addr) (H':Hp),(∀c u,c≠x->H c=some u->H' c=some u)->BsAt CB CFr H' x f o pl a1 a2 a3 a4 a5 P L n []->H' a5=some (.dK [])->(∀a∈[a1,a2,a3,a4,a5],H a=none)->Q .non H'
def BZ(CB CFr:Addr):Sp:=λvs H Q _=>∃(b f o pl a1 a2 a3 a4 a5:Addr) (P:Int) (L n i:Nat) (ld:List (Nat×List Int)) (es:List Int),vs=[.ref b,.int (kyT i es)]/\BsAt CB CFr H b f o pl a1 a2 a3 a4 a5 P L n ld/\mz L n i es/\(∀e∈es,e<524288)/\∀v,Red ld i es v->Q v H
theorem F5:Fv ["tops", "bottom", "common", "top"] ["tops", "bottom"] (am cQ):=.i
theorem BO(F:Fun K "common_divisor" "common_divisor" cQ f fd)(Ha:`FnB 1 "greatest_divisor" vf):`aC CX0 2 f fd ["tops", "bottom"] Ce:=by
 erw[F.o F5 λ_ _ _ _ H _ Q _ hr h=>?_]
 ·let#[d,ob,k,m,1,hd,m0,q]:=h;erw[_,(af (aq (i:=2) F5.nd rfl #[4] (pv 1))
(af (bi GM rfl (AY K rfl (pv 0)) (aO (i:=3) F5.nd rfl #[4])
(af (aT (az dJ (pv 2) ak (aA _))
(aj (ar ak))
aE)
(aj (aq (i:=2) F5.nd rfl #[4] (ay Ha hr.m (aa (pv 3) (aa (pv 2) ag)))))))
(aj (ar (pv 2))))),?_]
  erw[5133,0,0,d,ob,0,1,hd,λv Y=>#[43,v,d,ob,0,ae,Fu.new Y _ _ hd,?_]]
  have s1:=Fu.new (o:=pZ v d) Y;have O:=s1 _ _ hd;generalize upd H v (pZ v d)=H1 at s1 O;erw[Ea (n:=1) (λi σ H'=>∃U,σ=[some (.ref d),some (.int m.natAbs),some (.int m.natAbs),U]/\H'=H1) #[none,1,1] (λi σ H' hi ⟨_,_,e⟩=>#[e▸O,hi]) (λσ H' ⟨_,_,e⟩=>#[e▸O,ge _]) ?_ ?_]
  ·rintro i σ H2 x H3 hi ⟨U,rfl,rfl⟩ ⟨rfl,ex⟩ N Z;obtain rfl:i=0:=()
   cases ex;erw[0,1,0,cT (λe=>?_) λe=>?_]
   ·have e:m.natAbs=1:=by
     have e:=A_ e;injection e with e
     lia
    rw[e] at q;rwa[q _ s1]
   ·erw[5121,0,0,m,m.natAbs,1,Z _ _ #[some (.int m),?_,1]];rw[show Int.gcd m (m.natAbs:Int)=m.natAbs by show Nat.gcd m.natAbs (m.natAbs:Int).natAbs=_;rw[K5,Nat.gcd_self]]
    rfl
  ·rintro σ H2 ⟨U,rfl,rfl⟩;rwa[0,q _ s1]
theorem oV{a b x:Addr}(h:x∉[a,b,c,d]):x≠a/\x≠b/\x≠c/\x≠d:=by
 simp only[Mv,Lm,MG,P7] at h;rwa[h]
theorem in4{a b x:Addr}(h:x≠a/\x≠b/\x≠c/\x≠d):x∉[a,b,c,d]:=by
 simp only[Mv,Lm,MG,P7];rwa[h]
theorem nd4{a b:Addr}(h:[a,b,c,d].Nodup):a≠b/\a≠c/\a≠d/\b≠c/\b≠d/\c≠d:=by
 simp only[nodup_cons,Mv,Lm,MG,P7,PU,and_true] at h;rwa[h.1.1,h.1.2.1,h.1.2.2,h.2.1.1,h.2.1.2,h.2.2.1]
theorem D0{a b:Addr}(h:a≠b/\a≠c/\a≠d/\b≠c/\b≠d/\c≠d):[a,b,c,d].Nodup:=by
 simp only[nodup_cons,Mv,Lm,MG,P7,PU,and_true,not_false_iff];rwa[#[h.1,h.2.1,h.2.2.1],#[h.2.2.2.1,h.2.2.2.2.1],h.2.2.2.2.2]
theorem iw:Fv ["self", "frame", "modulus"] ["self", "frame", "modulus"] (am cO):=.i
set_option maxHeartbeats 1000000 in
theorem zj(F:Fun K "__init__" "Basis.__init__" cO f fd)(T:Blt mg)(cl:Cls K CB)(clF:Cls K CFr)(nw:Fx K CFr "width")(n1:Fx K CB "frame")(n2:Fx K CB "modulus")(n3:Fx K CB "free")(n4:Fx K CB "leads")(n5:Fx K CB "firsts")(n6:Fx K CB "tails")(n7:Fx K CB "standing")(n8:Fx K CB "known")(Hj:`FnB 2 "same_in_all" rP)(cFB:mg "FREE_BIT"=some (.int 524288 t1))(Jd:`MtB 1 CFr "many_places" (xV CFr)):
  aC P w K mg base CX0 3 f fd ["self", "frame", "modulus"] (zB CB CFr):=by
 erw[F.o iw λ_ _ _ _ H _ Q _ hr h=>?_]
 ·let#[x,dx,f,o,pl,P,L,n,1,hx,hf,b6,L4,q]:=h;erw[_,(af (br (pv 0) (pv 1) rfl)
(af (br (pv 0) (pv 2) rfl)
(af (br (pv 0) (ay Hj hr.m (aa (bq (pv 1) rfl) (aa (bJ (v:=.int 524288) rfl cFB #[0]) ag))) rfl)
(af (br (pv 0) (aQ ag) rfl)
(af (br (pv 0) (aQ ag) rfl)
(af (br (pv 0) (aQ ag) rfl)
(af (br (pv 0) (by rwa[bh (N:=["place"]) (src:=[none]) rfl rfl rfl (by exact(bj rfl T.range (aa (cu Jd hr.m (pv 1)) ag))) (λ_ _ _=>by rwa[by exact(cc (i:=0) Df rfl rfl),aV,by exact(aQ ag)])]) rfl)
(aj (br (pv 0) qJ rfl))))))))),?_]
  have fx:f≠x:=by
   let#[#[df,m,f1],_,_]:=hf;rwa[aw f1 hx #[3]]
  have kf:∀{H':Hp},(∀c u,c≠x->H c=some u->H' c=some u)->FH CFr H' f o pl L n:=λ{H'} k=>hf.mono λc u hc e=>k c u (by
   rcases hc with rfl|rfl|rfl
   ·rwa[fx]
   ·rwa[aw e hx (by let#[_,h2,_]:=hf;rw[h2] at e;cases e;intro z;cases z)]
   ·rwa[aw e hx (by let#[_,_,h3]:=hf;rw[h3] at e;cases e;intro z;cases z)]) e
  erw[5145,0,0,x,CB,dx,0,hx,cl,n1,#[],?_]
  generalize g0:upd H x _=G1;have j1:Ini H x (.ins CB dx [("frame",.ref f)]) G1:=by rw[<- g0];exact(Ini.of hx).put
  erw[5145,0,0,x,CB,dx,0,j1.at_,cl,n2,by show(1:Nat)<1000;decide,?_]
  generalize g1:upd G1 x _=G2;have j2:Ini H x (.ins CB dx [("frame",.ref f),("modulus",.int P)]) G2:=by rw[<- g1];rwa[j1.put]
  clear g0 g1 j1;let#[df,m,f1]:=(kf j2.k).1;erw[9524,0,f,CFr,df,_,0,f1,clF,nw,1,L,524288,1,L4,#[],#[],λG3 s3=>?_]
  erw[85,0,x,CB,dx,0,(j2.same s3).at_,cl,n3,by show(2:Nat)<1000;decide,?_]
  generalize g3:upd G3 x _=G4;have j4:Ini H x (.ins CB dx [("frame",.ref f),("modulus",.int P),("free",.int (free L*1048576))]) G4:=by rw[<- g3];exact(j2.same s3).put
  clear g3 s3 j2 f1;erw[Gw _,λa1 a6=>#[85,0,x,CB,dx,0,(j4.same (Fu.new a6)).at_,cl,n4,by show(3:Nat)<1000;decide,?_]]
  generalize g4:upd (upd G4 a1 (.lst [])) x _=G5;have j5:Ini H x (.ins CB dx [("frame",.ref f),("modulus",.int P),("free",.int (free L*1048576)),("leads",.ref a1)]) G5:=by rw[<- g4];exact(j4.same (Fu.new a6)).put
  have x1:a1≠x:=λz=>by rw[z,j4.at_] at a6;cases a6
  have ac:G5 a1=some (.lst []):=by rw[<- g4,al x1];rwa[ae]
  have m1:=j4.free hx _ a6;clear g4 j4 a6;erw[Gw _,λa2 U=>#[85,0,x,CB,dx,0,(j5.same (Fu.new U)).at_,cl,n5,by show(4:Nat)<1000;decide,?_]]
  generalize g5:upd (upd G5 a2 (.lst [])) x _=G6;have j6:Ini H x (.ins CB dx [("frame",.ref f),("modulus",.int P),("free",.int (free L*1048576)),("leads",.ref a1),("firsts",.ref a2)]) G6:=by rw[<- g5];exact(j5.same (Fu.new U)).put
  have i6:∀c u,c≠x->G5 c=some u->G6 c=some u:=λc u hc e=>by rw[<- g5,al hc];rwa[Fu.new U _ _ e]
  have x2:a2≠x:=λz=>by rw[z,j5.at_] at U;cases U
  have b7:a1≠a2:=ah ac U;have au:G6 a2=some (.lst []):=by rw[<- g5,al x2];rwa[ae]
  have ad:=i6 _ _ x1 ac;have m2:=j5.free hx _ U;clear g5 i6 j5 U ac;erw[Gw _,λa3 O=>#[85,0,x,CB,dx,0,(j6.same (Fu.new O)).at_,cl,n6,by show(5:Nat)<1000;decide,?_]]
  generalize g6:upd (upd G6 a3 (.lst [])) x _=G7;have j7:Ini H x (.ins CB dx [("frame",.ref f),("modulus",.int P),("free",.int (free L*1048576)),("leads",.ref a1),("firsts",.ref a2),("tails",.ref a3)]) G7:=by rw[<- g6];exact(j6.same (Fu.new O)).put
  have i7:∀c u,c≠x->G6 c=some u->G7 c=some u:=λc u hc e=>by rw[<- g6,al hc];rwa[Fu.new O _ _ e]
  have x3:a3≠x:=λz=>by rw[z,j6.at_] at O;cases O
  have b8:a1≠a3:=ah ad O;have b':a2≠a3:=ah au O;have a':G7 a3=some (.lst []):=by rw[<- g6,al x3];rwa[ae]
  have a8:=i7 _ _ x1 ad;have a9:=i7 _ _ x2 au;have m3:=j6.free hx _ O;clear g6 i7 j6 O ad au;let#[df,m,f1]:=(kf j7.k).1;erw[73401213,0,f,df,0,f1,1,f,o,pl,L,n,1,kf j7.k,(n:Int),1,(),(),p8 (rest:=[]) rfl () λa4 ss G8 Y s8 b0 ls bx b1=>?_]
  rw[Lq] at ls;erw[85,0,x,CB,dx,0,(j7.same s8).at_,cl,n7,by show(6:Nat)<1000;decide,?_]
  generalize g8:upd G8 x _=G9;have j9:Ini H x (.ins CB dx [("frame",.ref f),("modulus",.int P),("free",.int (free L*1048576)),("leads",.ref a1),("firsts",.ref a2),("tails",.ref a3),("standing",.ref a4)]) G9:=by rw[<- g8];exact(j7.same s8).put
  have i9:∀c u,c≠x->G8 c=some u->G9 c=some u:=λc u hc e=>by rw[<- g8,al hc];rwa[e]
  have x4:a4≠x:=λz=>by rw[z,j7.at_] at Y;cases Y
  have b9:a1≠a4:=ah a8 Y;have bd:a2≠a4:=ah a9 Y;have be:a3≠a4:=ah a' Y;have sx:∀s∈ss,G9 s=some (.lst [])/\s∉[a1,a2,a3,a4]:=λs hs=>by
   let#[z1,z2,z3]:=b1 s hs;erw[i9 _ _ (λz=>by rw[z,j7.at_] at z2;cases z2) z1,in4 #[(ah a8 z2).symm,(ah a9 z2).symm,(ah a' z2).symm,z3]]
  have b2:=i9 _ _ x1 (s8 _ _ a8);have b3:=i9 _ _ x2 (s8 _ _ a9);have b4:=i9 _ _ x3 (s8 _ _ a');have b5:=i9 _ _ x4 b0;have m4:=j7.free hx _ Y;clear g8 i9 j7 Y a8 a9 a' s8 b0 b1 f1;intro a5 Z;erw[85,0,x,CB,dx,0,(j9.same (Fu.new Z)).at_,cl,n8,by show(7:Nat)<1000;decide,?_]
  generalize g9:upd (upd G9 a5 (.dK [])) x _=G10;have ax:Ini H x (.ins CB dx (bsF f P L a1 a2 a3 a4 a5)) G10:=by rw[<- g9];exact(j9.same (Fu.new Z)).put
  have a7:∀c u,c≠x->G9 c=some u->G10 c=some u:=λc u hc e=>by rw[<- g9,al hc];rwa[Fu.new Z _ _ e]
  have x5:a5≠x:=λz=>by rw[z,j9.at_] at Z;cases Z
  have e5:G10 a5=some (.dK []):=by rw[<- g9,al x5];rwa[ae]
  have m5:=j9.free hx _ Z;let#[_,f2,f3]:=kf j9.k;have o2:H o=some (.lst _):=hf.2.1;erw[q a1 a2 a3 a4 a5 G10 ax.k #[#[dx,ax.at_],kf ax.k,a7 _ _ x1 b2,a7 _ _ x2 b3,#[[],a7 _ _ x3 b4,1,λt ht=>nomatch ht],#[ss,a7 _ _ x4 b5,ls,λi s hs=>?_],D0 #[b7,b8,b9,b',bd,be],in4 #[ah o2 m1,ah o2 m2,ah o2 m3,ah o2 m4],(ah f3 Z).symm,(λx hx=>nomatch hx),b6,L4,Gw _] e5 λa ha=>?_]
  ·let#[z1,z2]:=sx s (E_ hs);rwa[0122,z2,[],[],a7 _ _ (λz=>by rw[z,j9.at_] at z1;cases z1) z1,.nil,.refl _]
  ·simp only[Mv,Lm,MG] at ha
   rcases ha with rfl|rfl|rfl|rfl|rfl
   ·rwa[m1]
   ·rwa[m2]
   ·rwa[m3]
   ·rwa[m4]
   ·rwa[m5]
theorem Gn:Fv ["self", "key", "product", "lead", "row"] ["self", "key"] (am dZ):=.i
theorem wz(F:Fun K "sought" "Basis.sought" dZ f fd)(cl:Cls K CB)(n1:Fx K CB "frame")(n3:Fx K CB "free")(n7:Fx K CB "standing")(HE:`MtB 1 CFr "place" (qa CFr))(Il:`MtB 2 CFr "packed_product" (uc CFr)):
  aC P w K mg base CX0 3 f fd ["self", "key"] (BZ CB CFr):=by
 erw[F.o Gn λ_ _ _ _ H _ Q _ hr h=>?_]
 ·let#[b,f,o,pl,a1,a2,a3,a4,a5,P,L,n,i,ld,es,1,Y,ky,e5,q]:=h;erw[_,(af (aq (i:=2) Gn.nd rfl #[4] (ap aX (cL Il hr.m (bq (pv 0) rfl) (aa (pv 1) ag)) (bq (pv 0) rfl)))
(af (bi GM rfl (aL K rfl (aG (aF K rfl) (bq (pv 0) rfl) (cL HE hr.m (bq (pv 0) rfl) (aa (pv 1) ag)) (λ_ _=>rfl))) (bc K (i:=3) (j:=4) rfl rfl Gn.nd rfl rfl rfl rfl)
(aj (aT (az dJ (ap sX (ap bE (pv 2) (pv 3)) (bq (pv 0) rfl)) (bq (pv 0) rfl) (aA _))
(aj (ar (pv 4)))
aE)))
(aj (ar jg)))),?_]
  let#[db,O]:=Y.ob;let#[#[df,mf,f1],_,_]:=Y.fr;let#[ss,s1,s2,s3]:=Y.h4;obtain⟨si,Z⟩:∃si,ss[i]? = some si:=#[_,e_ (by rw[s2];rwa[ky.1])]
  let#[_,vs,ps,h1,h2,h3]:=s3 i si Z;have lv:vs.length=ps.length:=Paired.length h2;erw[953390239522,0,b,CB,db,_,0,O,cl,n1,1,f,df,0,f1,1,0,f,o,pl,L,n,i,es,1,Y.fr,ky,0,b,CB,db,_,0,O,cl,n3,1,2,?_];erw[95953390234412,0,b,CB,db,_,0,O,cl,n7,1,0,b,CB,db,_,0,O,cl,n1,1,f,df,0,f1,1,0,f,o,pl,L,n,i,es,1,Y.fr,ky,a4,_,2,SqL.of s1,bt (v:=.ref si) (by rw[Ga,Z];rfl),si,1,#[_,SqL.of h1],?_]
  erw[eA (xs:=vs) (λj σ H'=>∃(x3 x4:Option V),σ=[some (.ref b),some (.int (kyT i es)),some (.int (pkN es*1048576+free L*1048576)),x3,x4]/\H'=H/\∀p∈ps.take j,∀(r:Nat) (ls:List Int),ld[r]? = some (i,ls)->p=(pkN ls*1048576,(r:Int))->bD ls es=false) ?_ ?_ ?_ ?_]
  ·rwa[22,none,none,1,1,λp hp=>by simp at hp]
  ·rintro j σ H' _ ⟨x3,x4,rfl,rfl,_⟩;rwa[SqL.of h1]
  ·rintro j v σ H1 hv ⟨x3,x4,rfl,rfl,no⟩;let#[p,ep,t,1,ht]:=aD h2 hv;let#[r,ls,hl,1]:=uZ (h3.mem_iff.mp (E_ ep));let#[_,ll,dl]:=Y.ok _ (E_ hl);have fu:=rX (ls:=ls) (es:=es) (ll.trans ky.2.2.1.symm) (λe he=>by have:=dl e he;lia) λe he=>#[(ky.2.2.2.2 e he).1,e5 e he]
   rw[ky.2.2.1] at fu;let#[u1,u2,u3]:=fu;have e1:Builtin.bitAnd (pkN es*1048576+free L*1048576-pkN ls*1048576) (free L*1048576)=(((pkN es+free L-pkN ls).toNat &&& (free L).toNat:Nat):Int)*1048576:=by
    have a1:(pkN es*1048576+free L*1048576-pkN ls*1048576).toNat=(pkN es+free L-pkN ls).toNat*1048576+0:=()
    have a2:(free L*1048576).toNat=(free L).toNat*1048576+0:=()
    rw[xm () (),a1,a2,ki _ _ _ _ #[] #[],show(0 &&& 0:Nat)=0 from rfl]
    lia
   erw[232122,t,0,SqT.of ht,1,_,0,2,?_];erw[512295229611,0,0,2,0,b,CB,db,_,0,O,cl,n3,1,2,0,b,CB,db,_,0,O,cl,n3,1,1,0,?_];have e2:(V.int (Builtin.bitAnd (pkN es*1048576+free L*1048576-pkN ls*1048576) (free L*1048576))=V.int (free L*1048576))↔bD ls es=true:=by
    rw[<- u3,e1]
    constructor
    ·intro z;injection z with z
     lia
    ·intro z;rw[z];congr 1;lia
   by_cases U:bD ls es=true
   ·rw[show decide _=true from p_ (e2.mpr U)]
    rwa[cZ #[0,q _ (.inl #[22,r,ls,1,hl,U])]]
   ·rw[show decide _=false from Gx λz=>U (e2.mp z)]
    erw[cG #[22,2,λp hp=>?_]]
    rw[Kw,ep] at hp
    rcases KI.mp hp with z|z
    ·rwa[no p z]
    ·rw[GF.mp z];intro r' a8 a6 e';have:(r:Int)=r':=Ls Prod.snd e';have:r=r':=()
     subst this;rw[hl] at a6;cases a6;simpa using U
  ·rintro σ H1 ⟨x3,x4,rfl,rfl,no⟩;rw[lv,KU] at no;erw[q _ (.inr #[1,λls hl=>?_])]
   let#[r,a7]:=getElem?_of_mem hl;rwa[no _ (h3.mem_iff.mpr (C6 a7)) r ls a7 rfl]
theorem E2:(["key", "top", "lead"]:List Str).Nodup:=by decide +kernel
theorem EF:(["key", "top", "factor", "self"]:List Str).Nodup:=by decide +kernel
theorem EA:(["key", "top", "common"]:List Str).Nodup:=by decide +kernel
def zJ(CB CFr:Addr):Sp:=λvs H Q _=>∃(b db f a1 a2 a3 a4 a5 d:Addr) (ob:Obj) (P:Int) (L r:Nat) (k m:Int) (ks fs ts:List V),vs=[.ref b,.int r,.ref d]/\H b=some (.ins CB db (bsF f P L a1 a2 a3 a4 a5))/\H a1=some (.lst ks)/\ks[r]? = some (.int k)/\H a2=some (.lst fs)/\fs[r]? = some (.int 1)/\H a3=some (.lst ts)/\r<ts.length/\H d=some (.frz ob (.dK (DK [(k,m)])))/\Fz P/\m≠0/\(P≠0->m%P≠0)/\m.natAbs<2^2900/\a2≠a3/\ts.length<=60/\
 ∀(t:Addr) (H':Hp),(∀c u,c≠a3->H c=some u->H' c=some u)->H' a3=some (.lst (ts.set r (.ref t)))->H' t=some (.lst [])->H t=none->Q .non H'
theorem qS{l:List α}{i:Nat}{a:α}(h:l[i]? = some a):l.set i a=l:=by
 erw[Pq λj=>?_]
 rw[List.getElem?_set]
 by_cases O:i=j
 ·subst O;rw[u_ rfl,u_ (q_.mp h).1,h]
 ·rw[t_ O]
theorem Ae{m:Int}(h:m≠0):m.fdiv (if m<0 then -(m.natAbs:Int) else(m.natAbs:Int))=1:=by
 by_cases O:m<0
 ·rw[u_ O,show -(m.natAbs:Int)=m by lia]
  rwa[Int.fdiv_self h]
 ·rw[t_ O,show(m.natAbs:Int)=m by lia]
  rwa[Int.fdiv_self h]
theorem gO(hst:∀H,Fu H0 H->J.stop 0 H)(q:∀acc H,H0 acc=none->Fu H0 H->H acc=some (.lst [])->Q (.ref acc) H):bK J src g tt te σ H0 Q:=by
 erw[cC (α:=Unit) (n:=0) rfl (λ_=>True) (λ_ _ _=>True) (λ_ _ _ _ _ h=>h) (λ_ _=>True) #[] trivial trivial (λi H hi=>absurd hi ()) hst (λi _ _ _ _ _ _ _ hi=>absurd hi ()) λacc us xs H O Y h U l _=>?_]
 have:us.length=xs.length:=Paired.length U;rw[MH (show us.length=0 by lia)] at h
 rwa[q acc H O Y h]
theorem BV(k m:Int):bw (DK [(k,m)]) (Sum.inl k)=some (.int m):=by
 unfold bw DK;simp
theorem fC{i:Nat}(h:i<n):ixN n (i:Int)=some i:=by
 unfold ixN;rw[u_ ()]
 simp;lia
theorem FU:Fv ["self", "row", "tops", "lead", "behind", "factor", "common"] ["self", "row", "tops"] (am du):=.i
set_option maxHeartbeats 1000000 in
theorem wT(F:Fun K "set_row" "Basis.set_row" du f fd)(T:Blt mg)(cl:Cls K CB)(n2:Fx K CB "modulus")(n4:Fx K CB "leads")(n5:Fx K CB "firsts")(n6:Fx K CB "tails")(Ia:`FnB 1 "inverse" yr)(HL:`FnB 2 "common_divisor" Ce):
  aC P w K mg base CX0 3 f fd ["self", "row", "tops"] (zJ CB CFr):=by
 erw[F.o FU λ_ _ _ _ H _ Q _ hr h=>?_]
 ·let#[b,db,f,a1,a2,a3,a4,a5,d,ob,P,L,r,k,m,ks,fs,ts,1,hb,h1,kr,h2,fr,h3,rt,hd,hP,m0,mP,ms,b7,b6,q]:=h;erw[_,(af (aq (i:=3) FU.nd rfl (Or.inr rfl) (aG (aF K rfl) (aB K rfl (by exact(pv 0)) rfl) (pv 1) (λ_ _=>rfl)))
(af (fF (i:=4) FU.nd rfl #[4] (N:=["key", "top", "lead"]) (src:=[none,none,some 3]) rfl rfl rfl (by exact(BD K rfl (pv 2))) (λ_ _ _=>by rwa[by exact(bc K (i:=0) (j:=1) rfl rfl E2 rfl rfl rfl rfl),(gr (az mL (pv 0) (pv 2) (aA _))),by exact(aS (aa (pv 0) (aa (pv 1) ag)))]))
(af (aT (az mL (aB K rfl (by exact(pv 0)) rfl) ak (aA _))
(af (aq (i:=5) FU.nd rfl (Or.inr rfl) (ay Ia hr.m (aa (eE (hu1 hr) (pv 2) (pv 3) (λ_ _=>rfl)) (aa (aB K rfl (by exact(pv 0)) rfl) ag))))
(af (fz (by rwa[bh (N:=["key", "top", "factor", "self"]) (src:=[none,none,some 5,some 0]) rfl rfl rfl (by exact(aL K rfl (pv 4))) (λ_ _ _=>by rwa[by exact(bc K (i:=0) (j:=1) rfl rfl EF rfl rfl rfl rfl),aV,by exact(aS (aa (pv 0) (aa (by exact(ap bC (ap bA (pv 1) (pv 2)) (aB K rfl (by exact(pv 3)) rfl))) ag)))])]) (f6 (aB K rfl (by exact(pv 0)) rfl) (pv 1) da))
(aj o5)))
aE)
(af (aq (i:=6) FU.nd rfl (Or.inr rfl) (ay HL hr.m (aa (pv 2) (aa (by exact(kJ T (eE (hu1 hr) (pv 2) (pv 3) (λ_ _=>rfl)))) ag))))
(af (aT (az jA (eE (hu1 hr) (pv 2) (pv 3) (λ_ _=>rfl)) ak (aA _))
(aj (aq (i:=6) FU.nd rfl (Or.inr rfl) (uO pF (pv 6))))
aE)
(af (fz (ap bM (eE (hu1 hr) (pv 2) (pv 3) (λ_ _=>rfl)) (pv 6)) (f6 (aB K rfl (by exact(pv 0)) rfl) (pv 1) da))
(aj (fz (by rwa[bh (N:=["key", "top", "common"]) (src:=[none,none,some 6]) rfl rfl rfl (by exact(aL K rfl (pv 4))) (λ_ _ _=>by rwa[by exact(bc K (i:=0) (j:=1) rfl rfl EA rfl rfl rfl rfl),aV,by exact(aS (aa (pv 0) (aa (by exact(ap bM (pv 1) (pv 2))) ag)))])]) (f6 (aB K rfl (by exact(pv 0)) rfl) (pv 1) da))))))))),?_]
  erw[9584,0,b,CB,db,_,0,hb,cl,n4,1,0,a1,ks,2,SqL.of h1,bt kr,?_];have U:∀{H':Hp},H' d=some (.frz ob (.dK (DK [(k,m)])))->F8 H' d (.int k) (some (.int m)):=λ{H'} e=>.inl #[22,_,Sum.inl k,.inr #[_,e],1,(BV k m).symm]
  erw[73,0,d,ob,0,1,hd,λvw b2=>#[43,vw,d,ob,0,ae,Fu.new b2 _ _ hd,?_]]
  have s1:=Fu.new (o:=qc vw d) b2;have ad:=s1 _ _ hd;generalize upd H vw (qc vw d)=H1 at s1 ad;erw[cC (α:=Unit) (n:=1) (σ0:=[none,none,some (.int k)]) rfl (λσ=>∃u1 u2,σ=[u1,u2,some (.int k)]) (λ_ _ _=>True) (λ_ _ _ _ _ h=>h) (λ_ xs=>xs=[]) #[] #[20,_,0] rfl (λi H2 hi sm=>#[sm _ _ ad,hi]) (λH2 sm=>#[sm _ _ ad,ge _]) ?_ ?_]
  ·rintro i σ H2 y H3 xs Y N hi ⟨u1,u2,rfl⟩ sm rfl ⟨p,ky,vy,rfl,np,rfl,e⟩ _ hN;obtain rfl:i=0:=()
   cases e;erw[232122,p,0,SqT.of ae,1,_,0,2,?_];rwa[5211,0,0,1,0,uy rfl (hN _ _ #[20,_,0] (Fu.new np) rfl)]
  rintro be us xs H2 b4 s2 a6 pr _ rfl;cases pr;have a7:=s1.trans s2;have ac:=a7 _ _ hb;have au:=a7 _ _ hd
  by_cases h0:P=0
  ·subst h0;erw[9611,0,b,CB,db,_,0,ac,cl,n2,1,1,0,uy rfl ?_];erw[516283,0,0,0,d,0,U au,m,1,d,ob,k,m,by rw[show(if m<0 then -m else m)=(m.natAbs:Int) by split<;>lia];rfl,au,m0,λH3 s3=>?_]
   have a8:=a7.trans s3;have b0:=a8 _ _ hb;have ax:=a8 _ _ hd;erw[51222211,0,0,d,0,U ax,2,0,?_];have a':=a8 _ _ h2;have b3:=a8 _ _ h3;have lf:r<fs.length:=(q_.mp fr).1;have fa:=Ae m0;have b1:∀c:Int,c.natAbs=m.natAbs->CDivA m c:=λc hc=>#[(),by have b5:(2:Nat)^2900<2^6000:=K8 #[] #[];lia]
   erw[cT (λe=>?_) λe=>?_]
   ·have e:m<0:=A_ e;erw[51,0,0,?_];erw[512263,0,0,d,0,U ax,0,2,b1 _ (),?_]
    erw[9584,0,b,CB,db,_,0,b0,cl,n5,1,0,a2,fs,_,r,1,1,a',fC lf,?_];have e1:fs.set r (V.int (m.fdiv (-(m.natAbs:Int))))=fs:=qS (by rw[u_ e] at fa;rw[fa];rwa[fr])
    rw[e1];have k4:Fu H3 (upd H3 a2 (.lst fs)):=λc u e=>by
     by_cases hc:c=a2
     ·rw[hc,ae,<- a',<- e,hc]
     ·rw[al hc];rwa[e]
    generalize upd H3 a2 (.lst fs)=H4 at k4;have Z:=a8.trans k4;erw[52,0,be,1,#[_,SqL.of ((s3.trans k4) _ _ a6)],gO (λH5 sm=>#[_,SqL.of (sm _ _ ((s3.trans k4) _ _ a6)),ge _]) λt H5 nt s5 ht=>?_]
    have O:=Z.trans s5;have a9:=O _ _ h3;erw[9584,0,b,CB,db,_,0,O _ _ hb,cl,n6,1,0,a3,ts,_,r,1,1,a9,fC rt,?_];have t3:t≠a3:=(ah (Z _ _ h3) nt).symm;rwa[q t _ (λc u hc e=>by rw[al hc];rwa[O _ _ e]) ae (by rw[al t3];rwa[ht]) (Z.free nt)]
   ·have e:¬m<0:=λz=>e (p_ z)
    erw[512263,0,0,d,0,U ax,0,2,b1 _ (),?_]
    erw[9584,0,b,CB,db,_,0,b0,cl,n5,1,0,a2,fs,_,r,1,1,a',fC lf,?_];have e1:fs.set r (V.int (m.fdiv (m.natAbs:Int)))=fs:=qS (by rw[t_ e] at fa;rw[fa];rwa[fr])
    rw[e1];have k4:Fu H3 (upd H3 a2 (.lst fs)):=λc u e=>by
     by_cases hc:c=a2
     ·rw[hc,ae,<- a',<- e,hc]
     ·rw[al hc];rwa[e]
    generalize upd H3 a2 (.lst fs)=H4 at k4;have Z:=a8.trans k4;erw[52,0,be,1,#[_,SqL.of ((s3.trans k4) _ _ a6)],gO (λH5 sm=>#[_,SqL.of (sm _ _ ((s3.trans k4) _ _ a6)),ge _]) λt H5 nt s5 ht=>?_]
    have O:=Z.trans s5;have a9:=O _ _ h3;erw[9584,0,b,CB,db,_,0,O _ _ hb,cl,n6,1,0,a3,ts,_,r,1,1,a9,fC rt,?_];have t3:t≠a3:=(ah (Z _ _ h3) nt).symm;rwa[q t _ (λc u hc e=>by rw[al hc];rwa[O _ _ e]) ae (by rw[al t3];rwa[ht]) (Z.free nt)]
  ·erw[9611,0,b,CB,db,_,0,ac,cl,n2,1,1,0,?_];rw[show decide (V.int P=V.int 0)=false from Gx λz=>h0 (by injection z)]
   erw[cZ ?_]
   rcases hP with z|⟨p2,p9,pp⟩
   ·rwa[absurd z h0]
   erw[51229525,0,0,d,0,U au,0,b,CB,db,_,0,ac,cl,n2,1,m,P,1,p2,p9,pp,mP h0,λfa _ _ _=>?_]
   erw[52,0,be,1,#[_,SqL.of a6],gO (λH5 sm=>#[_,SqL.of (sm _ _ a6),ge _]) λt H5 nt s5 ht=>?_]
   have O:=a7.trans s5;have a9:=O _ _ h3;erw[9584,0,b,CB,db,_,0,O _ _ hb,cl,n6,1,0,a3,ts,_,r,1,1,a9,fC rt,?_];have t3:t≠a3:=(ah (a7 _ _ h3) nt).symm;rwa[q t _ (λc u hc e=>by rw[al hc];rwa[O _ _ e]) ae (by rw[al t3];rwa[ht]) (a7.free nt)]
def yi(H:Hp):V->Int×List Int
 |.ref a=>match H a with
  |some (.tup [.int x,.int y])=>(x,[y])
  |_=>(0,[])
 |_=>(0,[])
theorem PrR.prk{p:Int×Int}(h:PrR H v p):PrK true K H v (yi H v)/\yi H v=(p.1,[p.2]):=by
 let#[a,1,h]:=h;have e:yi H (.ref a)=(p.1,[p.2]):=by
  show(match H a with|some (.tup [.int x,.int y])=>(x,[y])|_=>(0,[]))=_
  rw[h]
 erw[?_,e];rw[e];rwa[22,a,p.2,1,h,1]
theorem xX{l:Addr}{ps:List (Int×Int)}(hl:H l=some (.lst vs))(pr:Paired (PrR H) vs ps)(h6:ps.length<64)(nd:(ps.map (·.2)).Nodup)(q:∀D H2 zs O,H D=none->Fu H H2->H2 D=some (.lst zs)->Paired (PrR H2) zs O->O.Perm ps->Q (.ref D) H2):wI true false K [.ref l] H Q:=by
 have lv:vs.length=ps.length:=Paired.length pr;have ks:∀{vs:List V} {ps:List (Int×Int)},Paired (PrR H) vs ps->vs.map (yi H)=ps.map λp=>(p.1,[p.2]):=by
  intro vs ps h
  induction h with
  |nil=>rfl
  |cons h _ ih=>rw[K1,ih,(PrR.prk (K:=K) h).2];rfl
 erw[2312,l,vs,1,SqL.of hl,(),yi H,?_,λy hy=>?_,λD H2 zs nD Y Z pm pw=>?_]
 ·rw[ks pr];have U:=Oc.mp nd;rwa[Nr _ (λa b h z=>h (by injection Ls Prod.snd z)) U]
 ·let#[p,_,hp]:=hU pr hy;rwa[hp.prk.1]
 ·let#[O,q1,q2]:=jB pm ps pr;rwa[q D H2 zs O nD Y Z (ao (λ_ _=>PrR.keep λt xs e=>Y _ _ e) q2) q1]
def Cj(CB CFr:Addr):Sp:=λvs H Q _=>∃(b f o pl a1 a2 a3 a4 a5 d:Addr) (ob:Obj) (P:Int) (L n i:Nat) (ld:List (Nat×List Int)) (es:List Int) (m:Int),vs=[.ref b,.ref d]/\BsAt CB CFr H b f o pl a1 a2 a3 a4 a5 P L n ld/\H d=some (.frz ob (.dK (DK [(kyT i es,m)])))/\i<n/\es.length=L/\(∀e∈es,0<=e/\e<1000)/\Fz P/\m≠0/\(P≠0->m%P≠0)/\m.natAbs<2^2900/\ld.length<30/\
 ∀(a5':Addr) (H':Hp),(∀c u,c∉[a1,a2,a3,a4]->c≠b->H c=some u->H' c=some u)->BsAt CB CFr H' b f o pl a1 a2 a3 a4 a5' P L n (ld++[(i,es)])->H' a5'=some (.dK [])->H a5'=none->Q (.int ld.length) H'
theorem F7:Fv ["self", "tops", "row", "lead", "place"] ["self", "tops"] (am dA):=.i
set_option maxHeartbeats 2000000 in
theorem wu(F:Fun K "add_row" "Basis.add_row" dA f fd)(T:Blt mg)(cl:Cls K CB)(n1:Fx K CB "frame")(n4:Fx K CB "leads")(n5:Fx K CB "firsts")(n6:Fx K CB "tails")(n7:Fx K CB "standing")(n8:Fx K CB "known")(Ka:`MtB 3 CB "set_row" (zJ CB CFr))(HE:`MtB 1 CFr "place" (qa CFr))(Il:`MtB 2 CFr "packed_product" (uc CFr)):
  aC P w K mg base CX0 4 f fd ["self", "tops"] (Cj CB CFr):=by
 erw[F.o F7 λ_ _ _ _ H _ Q _ hr h=>?_]
 ·let#[b,f,o,pl,a1,a2,a3,a4,a5,d,ob,P,L,n,i,ld,es,m,1,O,hd,hi,le,de,hP,m0,mP,ms,eu,q]:=h;erw[_,(af (aq (i:=2) F7.nd rfl #[4] (bU K T (aB K rfl (by exact(pv 0)) rfl)))
(af (aq (i:=3) F7.nd rfl #[4] (zX T (pv 1)))
(af (aZ (bmA K rfl (aB K rfl (by exact(pv 0)) rfl) (aa (pv 3) ag)))
(af (aZ (bmA K rfl (aB K rfl (by exact(pv 0)) rfl) (aa ak ag)))
(af (aZ (bmA K rfl (aB K rfl (by exact(pv 0)) rfl) (aa (by exact(aQ ag)) ag)))
(af (aZ (cL Ka hr.m (pv 0) (aa (pv 2) (aa (pv 1) ag))))
(af (aq (i:=4) F7.nd rfl #[4] (cL HE hr.m (aB K rfl (by exact(pv 0)) rfl) (aa (pv 3) ag)))
(af (fz (wK T hr.m (ap pJ (aG (aF K rfl) (aB K rfl (by exact(pv 0)) rfl) (pv 4) (λ_ _=>rfl)) (aQ (aa (by exact(aS (aa (by exact(cL Il hr.m (aB K rfl (by exact(pv 0)) rfl) (aa (pv 3) ag))) (aa (pv 2) ag)))) ag)))) (f6 (aB K rfl (by exact(pv 0)) rfl) (pv 4) da))
(af (br (pv 0) qJ rfl)
(aj (ar (pv 2)))))))))))),?_]
  let#[db,a6]:=O.ob;let#[#[df,mf,f1],f2,f3]:=O.fr;let#[ts,t1,t2,t3]:=O.h3;let#[ss,s1,s2,s3]:=O.h4;let#[e0,be,e1,b0,e3,bx]:=nd4 O.nd;let#[o1,o2,o3,o4]:=oV O.no;have ky:mz L n i es:=#[hi,O.bn,le,O.bL,mW de];have nb:∀{c:Addr} {xs:List V},H c=some (.lst xs)->b≠c:=λ{c xs} e=>(aw e a6 #[3]).symm
  have b1:=nb O.h1;have b2:=nb O.h2;have b3:=nb t1;have b4:=nb s1;erw[9522,0,b,CB,db,_,0,a6,cl,n4,1,a1,0,.inl (SqL.of O.h1),?_];rw[k_];erw[74,0,d,[kyT i es],0,.inr #[_,hd],1,by simp,λmx ec _=>?_]
  obtain rfl:=GF.mp ec;erw[9674,0,b,CB,db,_,0,a6,cl,n4,1,.inl #[1,_,SqL.of O.h1],0,a1,2,O.h1,by rw[k_,Gr];lia,?_]
  generalize g1:upd H a1 _=H1;have k1:∀c u,c≠a1->H c=some u->H1 c=some u:=λc u U e=>by rw[<- g1,al U];rwa[e]
  have e4:H1 a1=some (.lst ((ld++[(i,es)]).map λx=>V.int (kyT x.1 x.2))):=by rw[<- g1,ae,KB];rfl
  clear g1;have cs:=k1 _ _ b1 a6;have c6:=k1 _ _ (Ne.symm e0) O.h2;erw[9634,0,b,CB,db,_,0,cs,cl,n5,1,.inl #[1,_,SqL.of c6],a2,2,c6,by rw[k_,Gr];lia,?_]
  generalize g2:upd H1 a2 _=H2;have k2:∀c u,c≠a2->H1 c=some u->H2 c=some u:=λc u U e=>by rw[<- g2,al U];rwa[e]
  have e6:H2 a2=some (.lst ((ld++[(i,es)]).map λ_=>V.int 1)):=by rw[<- g2,ae,KB];rfl
  clear g2;have cz:=k2 _ _ b2 cs;have e5:=k2 _ _ e0 e4;have c9:=k2 _ _ (Ne.symm b0) (k1 _ _ (Ne.symm be) t1);erw[97,0,b,CB,db,_,0,cz,cl,n6,1,.inl #[1,_,SqL.of c9],Gw _,λe ne=>?_]
  erw[34,a3,2,Fu.new ne _ _ c9,by rw[k_,Gr];lia,?_]
  generalize g3:upd (upd H2 e _) a3 _=H3;have k3:∀c u,c≠a3->H2 c=some u->H3 c=some u:=λc u U e=>by rw[<- g3,al U];rwa[Fu.new ne _ _ e]
  have c':H3 a3=some (.lst (ts.map V.ref++[.ref e])):=by rw[<- g3,ae]
  clear g3;have dz:∀c u,c∉[a1,a2,a3,a4]->H c=some u->H3 c=some u:=λc u U e=>by
   let#[c1,c2,c3,c4]:=oV U;rwa[k3 _ _ c3 (k2 _ _ c2 (k1 _ _ c1 e))]
  have au:=k3 _ _ b3 cz;have b5:=k3 _ _ be e5;have b6:=k3 _ _ b0 e6;have b7:=k3 _ _ (Ne.symm bx) (k2 _ _ (Ne.symm e3) (k1 _ _ (Ne.symm e1) s1));have kd:∀{H':Hp} {c:Addr} {o:Obj} {u:HO},(∀c u,c∉[a1,a2,a3,a4]->H c=some u->H' c=some u)->H c=some (.frz o u)->H' c=some (.frz o u):=λk e=>k _ _ (in4 #[aw e O.h1 #[3],aw e O.h2 #[3],aw e t1 #[3],aw e s1 #[3]]) e
  erw[7311904040401906,0,b,db,0,au,1,0,0,b,db,f,a1,a2,a3,a4,a5,d,ob,P,L,ld.length,kyT i es,m,_,_,0,au,b5,by simp,b6,by simp,c',by rw[y_,k_,t2];show _<_+1;lia,kd dz hd,hP,m0,mP,ms,b0,by rw[y_,k_,t2];show _+1<=60;lia,λt H4 k4 ac et nt=>?_]
  have ac:H4 a3=some (.lst ((ts++[t]).map V.ref)):=by
   rw[ac,List.set_append_right _ _ (by rw[k_,t2];rwa[ge _]),k_,t2,Nat.sub_self,KB]
   rfl
  have ax:∀c u,c∉[a1,a2,a3,a4]->H c=some u->H4 c=some u:=λc u U e=>k4 _ _ (oV U).2.2.1 (dz c u U e)
  have a8:=k4 _ _ b3 au;have c0:=k4 _ _ be b5;have c7:=k4 _ _ b0 b6;have ad:=k4 _ _ (Ne.symm bx) b7;have fi:∀{H':Hp},(∀c u,c∉[a1,a2,a3,a4]->H c=some u->H' c=some u)->FH CFr H' f o pl L n:=λ{H'} k=>O.fr.mono λc u U e=>k c u (by
   rcases U with rfl|rfl|rfl
   ·rwa[in4 #[aw f1 O.h1 #[3],aw f1 O.h2 #[3],aw f1 t1 #[3],aw f1 s1 #[3]]]
   ·rwa[O.no]
   ·rwa[in4 #[aw f3 O.h1 #[3],aw f3 O.h2 #[3],aw f3 t1 #[3],aw f3 s1 #[3]]]) e
  have b8:=fi ax;let#[#[bz,ez,cr],_,_]:=id b8;erw[95339023,0,b,CB,db,_,0,a8,cl,n1,1,f,bz,0,cr,1,0,f,o,pl,L,n,i,es,1,b8,ky,?_];obtain⟨si,cp⟩:∃si,ss[i]? = some si:=#[_,e_ (by rw[s2];rwa[hi])]
  let#[sn,vs,ps,v1,v2,v3]:=s3 i si cp;have en:=ax _ _ sn v1;have ef:∀t xs,H t=some (.tup xs)->H4 t=some (.tup xs):=λt xs e=>ax _ _ (in4 #[aw e O.h1 #[3],aw e O.h2 #[3],aw e t1 #[3],aw e s1 #[3]]) e
  have ew:ps.length<=ld.length:=by rw[v3.length_eq];rwa[Bw i ld]
  have ey:vs.length=ps.length:=Paired.length v2;erw[9584,0,b,CB,db,_,0,a8,cl,n7,1,0,a4,_,2,SqL.of ad,bt (v:=.ref si) (by rw[Ga,cp];rfl),?_]
  erw[9533902312,0,b,CB,db,_,0,a8,cl,n1,1,f,bz,0,cr,1,0,f,o,pl,L,n,i,es,1,b8,ky,0,by show 2<=sizeLine;decide,λtp el=>?_]
  have s5:=Fu.new (o:=.tup [.int (pkN es*1048576),.int (ld.length:Int)]) el;have dy:upd H4 tp (.tup [.int (pkN es*1048576),.int (ld.length:Int)]) tp=some _:=ae;generalize upd H4 tp (.tup [.int (pkN es*1048576),.int (ld.length:Int)])=H5 at s5 dy;erw[by show 1<=sizeLine;decide,λl1 ei=>?_]
  have s6:=Fu.new (o:=.lst [.ref tp]) ei;have dl:upd H5 l1 (.lst [.ref tp]) l1=some _:=ae;generalize upd H5 l1 (.lst [.ref tp])=H6 at s6 dl;erw[45,si,l1,vs,0,1,s6 _ _ (s5 _ _ en),dl,by rw[Gr];show _+1<=_;lia,λl2 ej=>?_]
  have s7:=Fu.new (o:=.lst (vs++[.ref tp])) ej;have dm:upd H6 l2 (.lst (vs++[.ref tp])) l2=some _:=ae;generalize upd H6 l2 (.lst (vs++[.ref tp]))=H7 at s7 dm;have bd:=(s5.trans s6).trans s7;erw[xX (ps:=ps++[(pkN es*1048576,(ld.length:Int))]) dm (aK #[tp,1,(s6.trans s7) _ _ dy] (ao (λ_ _=>PrR.keep λt xs e=>bd _ _ (ef t xs e)) v2)) (by rw[y_,GV];lia) ?_ λD H8 zs qs nD s8 hD pz pm=>?_]
  ·rw[KB,OM];erw[(v3.map (·.2)).nodup_iff.mpr (C5 i ld),by simp,λx hx y hy z=>?_]
   let#[p,hp,1]:=GK.mp hx;let#[r,er,ed,1]:=uZ (v3.mem_iff.mp hp);have:=(q_.mp ed).1;have hy:y=(ld.length:Int):=by simpa using hy
   have z:(r:Int)=y:=z;lia
  have a7:=bd.trans s8;have cj:=a7 _ _ ad;have b9:=a7 _ _ a8;erw[9584,0,b,CB,db,_,0,b9,cl,n7,1,0,a4,_,_,i,1,1,cj,fC (by rw[k_,s2];rwa[hi]),?_]
  generalize g9:upd H8 a4 _=H9;have k9:∀c u,c≠a4->H8 c=some u->H9 c=some u:=λc u U e=>by rw[<- g9,al U];rwa[e]
  have ck:H9 a4=some (.lst ((ss.set i D).map V.ref)):=by rw[<- g9,ae,List.map_set]
  clear g9;have b':∀c u,c∉[a1,a2,a3,a4]->H c=some u->H9 c=some u:=λc u U e=>k9 _ _ (oV U).2.2.2 (a7 _ _ (ax c u U e))
  have dk:=k9 _ _ b4 b9;have c5:=k9 _ _ e1 (a7 _ _ c0);have c8:=k9 _ _ e3 (a7 _ _ c7);have cb:=k9 _ _ bx (a7 _ _ ac);have Dn:∀{c:Addr} {u:HO},H4 c=some u->D≠c:=λ{c u} e=>(ah (bd _ _ e) nD).symm
  have e':=k9 _ _ (Dn ad) hD;have tn:∀{c:Addr} {u:HO},H3 c=some u->t≠c:=λ{c u} e=>(ah e nt).symm
  intro Z Y;have cm:∀{c:Addr} {u:HO},H9 c=some u->c≠Z:=λ{c u} e=>ah e Y
  erw[8511,0,b,CB,db,0,Fu.new Y _ _ dk,cl,n8,by show(8:Nat)<1000;decide,0,?_]
  generalize g10:upd (upd H9 Z _) b _=HA;have kA:∀c u,c≠b->H9 c=some u->HA c=some u:=λc u U e=>by rw[<- g10,al U];rwa[Fu.new Y _ _ e]
  have ea:HA b=some (.ins CB db (bsF f P L a1 a2 a3 a4 Z)):=by rw[<- g10];rwa[ae]
  have e8:HA Z=some (.dK []):=by rw[<- g10,al (Ne.symm (cm dk))];rwa[ae]
  clear g10;have a':∀c u,c∉[a1,a2,a3,a4]->c≠b->H c=some u->HA c=some u:=λc u U eb e=>kA _ _ eb (b' c u U e)
  have eg:H Z=none:=by
   cases z:H Z with
   |none=>rfl
   |some u=>
    by_cases U:Z∈[a1,a2,a3,a4]
    ·simp only[Mv,Lm,MG] at U
     rcases U with rfl|rfl|rfl|rfl
     ·rw[c5] at Y;cases Y
     ·rw[c8] at Y;cases Y
     ·rw[cb] at Y;cases Y
     ·rw[ck] at Y;cases Y
    ·rw[b' _ _ U z] at Y;cases Y
  have fb:f≠b:=aw f1 a6 #[3]
  erw[q Z HA a' #[#[db,ea],?_,kA _ _ (Ne.symm b1) c5,kA _ _ (Ne.symm b2) c8,#[ts++[t],kA _ _ (Ne.symm b3) cb,by rw[y_,y_,t2];rfl,λt' ee=>?_],#[ss.set i D,kA _ _ (Ne.symm b4) ck,by rw[length_set];rwa[s2],λj s' a9=>?_],O.nd,O.no,?_,λx hx=>?_,O.bn,O.bL,by rw[y_,GV];lia] e8 eg]
  ·rwa[O.fr.mono λc u U e=>a' c u (by
    rcases U with rfl|rfl|rfl
    ·rwa[in4 #[aw f1 O.h1 #[3],aw f1 O.h2 #[3],aw f1 t1 #[3],aw f1 s1 #[3]]]
    ·rwa[O.no]
    ·rwa[in4 #[aw f3 O.h1 #[3],aw f3 O.h2 #[3],aw f3 t1 #[3],aw f3 s1 #[3]]]) (by
    rcases U with rfl|rfl|rfl
    ·rwa[fb]
    ·rwa[Ne.symm (nb f2)]
    ·rwa[aw f3 a6 #[3]]) e]
  ·rcases KI.mp ee with z|z
   ·let#[z1,z2]:=t3 t' z;rwa[a' _ _ z2 (Ne.symm (nb z1)) z1,z2]
   ·rw[GF.mp z];have tb:t≠b:=tn au;rwa[kA _ _ tb (k9 _ _ (tn b7) (a7 _ _ et)),in4 #[tn b5,tn b6,tn c',tn b7]]
  ·rw[List.getElem?_set] at a9
   by_cases hj:i=j
   ·subst hj;rw[u_ rfl,u_ (by rw[s2];rwa[hi])] at a9
    cases a9;have Db:D≠b:=Dn a8;erw[0122,in4 #[Dn c0,Dn c7,Dn ac,Dn ad],zs,qs,kA _ _ Db e',ao (λ_ _=>PrR.keep λt xs e=>kA _ _ (aw e b9 #[3]) (k9 _ _ (aw e cj #[3]) e)) pz,?_]
    rw[qF,u_ rfl];rwa[pm.trans (v3.append_right _)]
   ·rw[t_ hj] at a9;let#[z1,eo,em,z2,z3,z4]:=s3 j s' a9;erw[0122,z1,eo,em,a' _ _ z1 (Ne.symm (nb z2)) z2,ao (λ_ _=>PrR.keep λt xs e=>?_) z3,?_]
    ·rwa[a' _ _ (in4 #[aw e O.h1 #[3],aw e O.h2 #[3],aw e t1 #[3],aw e s1 #[3]]) (aw e a6 #[3]) e]
    ·rw[qF,t_ hj,Mg];rwa[z4]
  ·rwa[Ne.symm (cm (b' _ _ (in4 #[aw f3 O.h1 #[3],aw f3 O.h2 #[3],aw f3 t1 #[3],aw f3 s1 #[3]]) f3))]
  ·rcases KI.mp hx with z|z
   ·rwa[O.ok x z]
   ·rw[GF.mp z];rwa[hi,le,de]
abbrev dvF(b t:Addr)(B:Nat)(w st rs:Addr):List (Str×V):=[("basis",.ref b),("tops",.ref t),("bottom",.int B),("waiting",.ref w),("most_bits",.int (2*(Builtin.Int.intBits (B:Int):Int)+256)),("steps",.ref st),("rest",.ref rs)]
def Cn(CB CFr:Addr):Sp:=λvs H Q _=>∃(b f o pl a1 a2 a3 a4 a5:Addr) (P:Int) (L n i:Nat) (ld:List (Nat×List Int)) (es:List Int) (kn:List (Key×V)),vs=[.ref b,.int (kyT i es)]/\BsAt CB CFr H b f o pl a1 a2 a3 a4 a5 P L n ld/\H a5=some (.dK kn)/\xF L n ld kn/\kn.length<1000/\mz L n i es/\(∀e∈es,e<524288)/\
 ∀(v:V) (kn':List (Key×V)) (H':Hp),Red ld i es v->(∀c u,c≠a5->H c=some u->H' c=some u)->H' a5=some (.dK kn')->xF L n ld kn'->kn'.length<=kn.length+1->Q v H'
def B2:Sp:=λvs H Q _=>∃(x:V) (t:Int),vs=[x,.int t,.int 1]/\Q (.int t) H
def Cp(CD:Addr):Sp:=λvs H Q _=>∃(x dx b t w st rs tl:Addr) (B:Nat) (sh tp:Int),vs=[.ref x,.int sh,.int tp,.ref tl]/\H x=some (.ins CD dx (dvF b t B w st rs))/\H tl=some (.lst [])/\∀H',Fu H H'->Q .non H'
def B9(CD:Addr):Sp:=λvs H Q _=>∃(x dx b t w st rs:Addr) (B:Nat),vs=[.ref x]/\H x=some (.ins CD dx (dvF b t B w st rs))/\Q .non H
theorem iZ:Fv ["self", "key"] ["self", "key"] (am di):=.i
theorem sE(F:Fun K "reducer" "Basis.reducer" di f fd)(cl:Cls K CB)(n8:Fx K CB "known")(Kb:`MtB 3 CB "sought" (BZ CB CFr)):`aC CX0 4 f fd ["self", "key"] (Cn CB CFr):=by
 erw[F.o iZ λ_ _ _ _ H _ Q _ hr h=>?_]
 ·let#[b,f,o,pl,a1,a2,a3,a4,a5,P,L,n,i,ld,es,U,1,hb,Y,ok,lk,ky,e5,q]:=h;erw[_,(af (aT (DL (vW (hu1 hr) (pv 1) (bq (pv 0) rfl)))
(aj (tR (hu1 hr) (bq (pv 0) rfl) (pv 1) (cL Kb hr.m (pv 0) (aa (pv 1) ag)) rfl))
aE)
(aj (ar (eE (hu1 hr) (bq (pv 0) rfl) (pv 1) (λ_ _=>rfl))))),?_]
  let#[db,O]:=hb.ob;erw[11952211,0,0,b,CB,db,_,0,O,cl,n8,1,a5,0,F8.k (k:=Sum.inl (kyT i es)) Y,0,?_];cases z:bw U (Sum.inl (kyT i es)) with
  |some v=>
   erw[cG #[9562,0,b,CB,db,_,0,O,cl,n8,1,0,a5,v,1,z▸F8.k (k:=Sum.inl (kyT i es)) Y,?_]];rwa[q v U H (ok i es v ky e5 z) (λ_ _ _ e=>e) Y ok (Nat.le_succ _)]
  |none=>
   erw[cZ #[7390404024,0,b,db,0,O,1,0,b,f,o,pl,a1,a2,a3,a4,a5,P,L,n,i,ld,es,1,hb,ky,e5,λv rv=>?_]]
   erw[9562,0,b,CB,db,_,0,O,cl,n8,1,0,a5,0,DPut.k (k:=Sum.inl (kyT i es)) Y (by rw[Gr];lia),?_]
   have k1:∀c u,c≠a5->H c=some u->upd H a5 (.dK (cH U (Sum.inl (kyT i es)) v)) c=some u:=λc u hc e=>by rw[al hc];rwa[e]
   have a6:=k1 _ _ (aw O Y #[3]) O
   have Z:upd H a5 (.dK (cH U (Sum.inl (kyT i es)) v)) a5=some (.dK (cH U (Sum.inl (kyT i es)) v)):=ae;have zv:bw (cH U (Sum.inl (kyT i es)) v) (Sum.inl (kyT i es))=some v:=by rw[qp,u_ rfl]
   erw[9562,0,b,CB,db,_,0,a6,cl,n8,1,0,a5,v,1,zv▸F8.k (k:=Sum.inl (kyT i es)) Z,?_];erw[q v _ _ rv k1 Z (λj fs u kj f5 e=>?_) (eG ..)]
   rw[qp] at e
   by_cases hk:(Sum.inl (kyT j fs):Key)=Sum.inl (kyT i es)
   ·rw[u_ hk] at e;cases e;have hk:=PJ hk;let#[e1,e2]:=tS (by have:=kj.1;have:=kj.2.1;lia) (by have:=ky.1;have:=ky.2.1;lia) (kj.2.2.1.trans ky.2.2.1.symm) kj.2.2.2.2 ky.2.2.2.2 hk
    rw[e1,e2];rwa[rv]
   ·rw[t_ hk] at e;rwa[ok j fs u kj f5 e]
theorem fD:Fv ["self", "top", "first", "common", "factor"] ["self", "top", "first"] (am bO):=.i
theorem o7(F:Fun K "scaled_top" "Division.scaled_top" bO f fd):`aC CX0 1 f fd ["self", "top", "first"] B2:=by
 erw[F.o fD λ_ _ _ _ H _ Q _ O h=>?_]
 ·let#[x,t,1,q]:=h;erw[_,(af (aT (az dJ (pv 2) ak (aA _))
(aj (ar (pv 1)))
aE)
gu),?_]
  rwa[0,1,0,cZ #[0,q]]
theorem F1:Fv ["self", "shift", "top", "tail", "tops", "new", "key", "own", "moved"] ["self", "shift", "top", "tail"] (am bX):=.i
theorem sR(F:Fun K "take_off" "Division.take_off" bX f fd)(cl:Cls K CD)(n2:Fx K CD "tops"):`aC CX0 1 f fd ["self", "shift", "top", "tail"] (Cp CD):=by
 erw[F.o F1 λ_ _ _ _ H _ Q _ hr h=>?_]
 ·let#[x,dx,b,t,w',st,rs,tl,B,sh,tp,1,hx,U,q]:=h;erw[_,(af (aq (i:=4) F1.nd rfl #[4] (bq (pv 0) rfl))
(af (aq (i:=5) F1.nd rfl #[4] (aQ ag))
(af (bi GM rfl (aL K rfl (pv 3)) (bc K (i:=6) (j:=7) rfl rfl F1.nd rfl rfl rfl rfl)
gu)
(aj (aT (az (wA K rfl hr.units) (pv 5) (aQ ag) (aA _))
gu
aE))))),?_]
  erw[96,0,x,CD,dx,_,0,hx,cl,n2,1,Gw _,λY Z=>?_]
  have s1:=Fu.new (o:=.lst []) Z;have O:upd H Y (.lst []) Y=some (.lst []):=ae;generalize upd H Y (.lst [])=H1 at s1 O;erw[52,0,tl,1,#[_,SqL.of (s1 _ _ U)],eA (xs:=[]) (λi σ H'=>σ=[some (.ref x),some (.int sh),some (.int tp),some (.ref tl),some (.ref t),some (.ref Y),none,none,none]/\H'=H1) #[1,1] ?_ ?_ ?_]
  ·rintro i σ H' _ ⟨rfl,rfl⟩;rwa[SqL.of (s1 _ _ U)]
  ·rintro i v σ H' hv _;simp at hv
  ·rintro σ H' ⟨rfl,rfl⟩;erw[0,Gw _,λl nl=>?_]
   have s2:=Fu.new (o:=.lst []) nl;erw[2411,.list [],.list [],DR.lst (SqL.of (s2 _ _ O)) .nil,DR.lst (SqL.of ae) .nil,1,1,0,?_];rwa[cG (q _ (s1.trans s2))]
theorem gZ:Fv ["self", "lowest"] ["self"] (am cE):=.i
theorem wf(F:Fun K "cancel" "Division.cancel" cE f fd)(cl:Cls K CD)(n3:Fx K CD "bottom")(n5:Fx K CD "most_bits"):`aC CX0 1 f fd ["self"] (B9 CD):=by
 erw[F.o gZ λ_ _ _ _ H _ Q _ U h=>?_]
 ·let#[x,dx,b,t,Z,st,Y,B,1,O,q]:=h;erw[_,(aj (aT (az gL (rE PySem.F.plainAttrs_int PySem.F.slot_int_bit_length PySem.F.type_int_bit_length uu (aB K rfl (by exact(pv 0)) rfl)) (aB K rfl (by exact(pv 0)) rfl) (aA _))
gu
aE)),?_]
  erw[9612952211,0,x,CD,dx,_,0,O,cl,n3,1,1,(B:Int),1,1,0,x,CD,dx,_,0,O,cl,n5,1,2,0,?_];rw[show decide ((Builtin.Int.intBits (B:Int):Int)>2*(Builtin.Int.intBits (B:Int):Int)+256)=false from Gx ()]
  rwa[cG q]
def aY(B:Nat)(x:Nat×ai):Int:=x.2.2.1*(B:Int).fdiv x.2.2.2
def kY(r:Nat)(sh:List Int)(tp:Int)(B:Nat):HO:=.tup [.int r,.int (pkN sh*1048576),.int tp,.int B]
def Cb(CB CFr CD:Addr):Sp:=λvs H Q _=>∃(x dx b f o pl a1 a2 a3 a4 a5 t w' st rs:Addr) (P:Int) (L n i B:Nat) (ld:List (Nat×List Int)) (es:List Int) (tp:Int) (kn kn0 kvs:List (Key×V)) (us1 us2:List V) (HB:Hp),vs=[.ref x,.int (kyT i es)]/\H x=some (.ins CD dx (dvF b t B w' st rs))/\
 BsAt CB CFr HB b f o pl a1 a2 a3 a4 a5 P L n ld/\HB a5=some (.dK kn0)/\(∀c u,c≠a5->HB c=some u->H c=some u)/\HB t=none/\HB st=none/\HB rs=none/\HB x=none/\st≠rs/\
 H a5=some (.dK kn)/\xF L n ld kn/\kn.length<1000/\mz L n i es/\(∀e∈es,e<1000)/\H t=some (.dK kvs)/\bw kvs (.inl (kyT i es))=some (.int tp)/\tp≠0/\0<=P/\(P≠0->0<=tp/\tp<P)/\H st=some (.lst us1)/\H rs=some (.lst us2)/\us1.length<1000/\us2.length<1000/\
 ∀(p:Addr) (kn':List (Key×V)) (H':Hp),(∀c u,c≠a5->c≠t->c≠st->c≠rs->H c=some u->H' c=some u)->H' a5=some (.dK kn')->xF L n ld kn'->kn'.length<=kn.length+1->H' t=some (.dK (dG kvs (.inl (kyT i es))))->H p=none->
  ((∃r ls,ld[r]? = some (i,ls)/\bD ls es=true/\H' st=some (.lst (us1++[.ref p]))/\H' rs=some (.lst us2)/\H' p=some (kY r (dh es ls) tp B)) \/
   ((∀ls,(i,ls)∈ld->bD ls es=false)/\H' st=some (.lst us1)/\H' rs=some (.lst (us2++[.ref p]))/\H' p=some (.tup [.int (kyT i es),.int tp,.int B])))->Q .non H'
theorem FX:Fv ["self", "key", "top", "row", "shift"] ["self", "key"] (am cB):=.i
set_option maxHeartbeats 2000000 in
theorem v4(F:Fun K "settle" "Division.settle" cB f fd)(cl:Cls K CD)(clB:Cls K CB)(n1:Fx K CD "basis")(n2:Fx K CD "tops")(n3:Fx K CD "bottom")(n6:Fx K CD "steps")(n7:Fx K CD "rest")(b2:Fx K CB "modulus")(b4:Fx K CB "leads")(b5:Fx K CB "firsts")(b6:Fx K CB "tails")(Kc:`MtB 4 CB "reducer" (Cn CB CFr))(Kd:`MtB 1 CD "take_off" (Cp CD))(Ke:`MtB 1 CD "scaled_top" B2)(Kf:`MtB 1 CD "cancel" (B9 CD)):
  aC P w K mg base CX0 5 f fd ["self", "key"] (Cb CB CFr CD):=by
 erw[F.o FX λ_ _ _ _ H _ Q _ hr h=>?_]
 ·let#[x,dx,b,f,o,pl,a1,a2,a3,a4,a5,t,w',st,rs,P,L,n,i,B,ld,es,tp,kn,dy,kvs,c8,c9,HB,1,hx,hb,a8,kB,nt,cs,dz,nx,sr,h5,cp,cr,ky,cb,ht,hv,df,P0,c7,b1,b0,l1,l2,q]:=h;erw[_,(af (aq (i:=2) FX.nd rfl #[4] (yW (aB K rfl (by exact(pv 0)) rfl) (pv 1) #[1,1,1,1]))
(af (aT (az mL (aB K rfl (by exact(aB K rfl (by exact(pv 0)) rfl)) rfl) ak (aA _))
(aj (aq (i:=2) FX.nd rfl #[4] (ap bC (pv 2) (aB K rfl (by exact(aB K rfl (by exact(pv 0)) rfl)) rfl))))
aE)
(af (aT (az dJ (pv 2) ak (aA _))
(aj o5)
aE)
(af (aq (i:=3) FX.nd rfl #[4] (cL Kc hr.m (aB K rfl (by exact(pv 0)) rfl) (aa (pv 1) ag)))
(af (aT (az yZ (pv 3) jg (aA _))
(af (aZ (bmA K rfl (aB K rfl (by exact(pv 0)) rfl) (aa (by exact(aS (aa (pv 1) (aa (pv 2) (aa (aB K rfl (by exact(pv 0)) rfl) ag))))) ag)))
(aj o5))
aE)
(af (aq (i:=4) FX.nd rfl #[4] (ap bE (pv 1) (aG (aF K rfl) (aB K rfl (by exact(aB K rfl (by exact(pv 0)) rfl)) rfl) (pv 3) (λ_ _=>rfl))))
(af (aZ (bmA K rfl (aB K rfl (by exact(pv 0)) rfl) (aa (by exact(aS (aa (pv 3) (aa (pv 4) (aa (pv 2) (aa (aB K rfl (by exact(pv 0)) rfl) ag)))))) ag)))
(af (aZ (cL Kd hr.m (pv 0) (aa (pv 4) (aa (by exact(cL Ke hr.m (pv 0) (aa (pv 2) (aa (aG (aF K rfl) (aB K rfl (by exact(aB K rfl (by exact(pv 0)) rfl)) rfl) (pv 3) (λ_ _=>rfl)) ag)))) (aa (aG (aF K rfl) (aB K rfl (by exact(aB K rfl (by exact(pv 0)) rfl)) rfl) (pv 3) (λ_ _=>rfl)) ag)))))
(aj (aZ (cu Kf hr.m (pv 0)))))))))))),?_]
  have xt:x≠t:=aw hx ht #[3]
  have t5:t≠a5:=(ah a8 nt).symm;erw[951273,0,x,CD,dx,_,0,hx,cl,n2,1,t,1,(.inl #[_,.inl ht]),0,kvs,Sum.inl (kyT i es),.int tp,ht,1,hv,?_];generalize g1:upd H t _=H1;have k1:∀c u,c≠t->H c=some u->H1 c=some u:=λc u U e=>by rw[<- g1,al U];rwa[e]
  have bz:H1 t=some (.dK (dG kvs (Sum.inl (kyT i es)))):=by rw[<- g1];rwa[ae]
  have f1:∀{c},H1 c=none->H c=none:=λ{c} e=>by
   cases z:H c with
   |none=>rfl
   |some u=>
    by_cases U:c=t
    ·rw[U,bz] at e;cases e
    ·rw[k1 _ _ U z] at e;cases e
  clear g1;have a9:=k1 _ _ xt hx;have b7:∀c u,c≠a5->HB c=some u->H1 c=some u:=λc u U e=>k1 _ _ (ah e nt) (kB _ _ U e)
  have bd:=hb.mono a8 b7;let#[db,au]:=bd.ob;have ck:=k1 _ _ (Ne.symm t5) h5;erw[95401611,0,x,CD,dx,_,0,a9,cl,n1,1,b,CB,db,_,0,au,clB,b2,1,1,0,?_];have dk:decide (V.int tp=V.int 0)=false:=Gx λz=>df (by injection z)
  erw[cT (λh0=>#[1195401523,0,0,x,CD,dx,_,0,a9,cl,n1,1,b,CB,db,_,0,au,clB,b2,1,2,?_,?_]) λh0=>?_]
  ·have h0:P≠0:=λz=>by subst z;simp at h0
   show 0<P;lia
  all_goals try (dsimp only;rw[L8 (c7 (λz=>by subst z;simp at h0)).1 (c7 (λz=>by subst z;simp at h0)).2])
  all_goals
   erw[0,1,0,?_];rw[dk];erw[cG #[953390404037,0,x,CD,dx,_,0,a9,cl,n1,1,b,db,0,au,1,0,b,f,o,pl,a1,a2,a3,a4,a5,P,L,n,i,ld,es,kn,1,bd,ck,cp,cr,ky,(λe he=>by have:=cb e he;lia),λv c0 H2 rv k2 ad ac c1=>?_]]
   have x5:x≠a5:=aw hx h5 #[3]
   have Y:=k2 _ _ x5 a9;have a7:∀c u,c≠a5->c≠t->H c=some u->H2 c=some u:=λc u h1 h2 e=>k2 _ _ h1 (k1 _ _ h2 e)
   have c4:st≠a5:=aw b1 h5 #[3]
   have c2:rs≠a5:=aw b0 h5 #[3]
   have c6:st≠t:=aw b1 ht #[3]
   have c3:rs≠t:=aw b0 ht #[3]
   have O:=a7 _ _ c4 c6 b1;have a6:=a7 _ _ c2 c3 b0;have b3:=k2 _ _ t5 bz;have be:=hb.mono a8 λc u U e=>k2 _ _ U (b7 _ _ U e)
   let#[c',b']:=be.ob;have f2:∀{c},H2 c=none->H c=none:=λ{c} e=>by
    cases z:H c with
    |none=>rfl
    |some u=>
     by_cases c5:c=a5
     ·rw[c5,ad] at e;cases e
     ·by_cases ct:c=t
      ·rw[ct,b3] at e;cases e
      ·rw[a7 _ _ c5 ct z] at e;cases e
   rcases rv with⟨r,ls,rfl,hl,le⟩|⟨rfl,no⟩
   ·erw[0,1,0,cG ?_];let#[_,ll,dl]:=hb.ok _ (E_ hl);have ll:ls.length=L:=ll;have rl:r<ld.length:=(q_.mp hl).1;erw[119540158422,0,0,x,CD,dx,_,0,Y,cl,n1,1,b,CB,c',_,0,b',clB,b4,1,0,a1,_,2,SqL.of be.h1,bt (v:=.int (kyT i ls)) (by rw[Ga,hl];rfl),2,?_]
    have cj:kyT i es-kyT i ls=pkN (dh es ls)*1048576:=by
     rw[<- BK (ky.2.2.1.trans ll.symm)];unfold kyT;lia
    dsimp only;rw[cj];erw[96511196,0,x,CD,dx,_,0,Y,cl,n6,1,.inl #[1,_,SqL.of O],0,0,0,0,x,CD,dx,_,0,Y,cl,n3,1,by show 4<=sizeLine;decide,λp np=>?_]
    have s3:=Fu.new (o:=kY r (dh es ls) tp B) np;have dm:upd H2 p (kY r (dh es ls) tp B) p=some (kY r (dh es ls) tp B):=ae;erw[34,st,c8,0,1,s3 _ _ O,by rw[Gr];lia,?_]
    have de:p≠st:=(ah O np).symm;generalize g4:upd (upd H2 p _) st _=H4;have k4:∀c u,c≠st->H2 c=some u->H4 c=some u:=λc u U e=>by rw[<- g4,al U];rwa[s3 _ _ e]
    have bx:H4 st=some (.lst (c8++[.ref p])):=by rw[<- g4];rwa[ae]
    have cm:H4 p=some (kY r (dh es ls) tp B):=by rw[<- g4,al de];rwa[ae]
    clear g4;have Z:=k4 _ _ (aw Y O #[3]) Y
    have ax:=hb.mono a8 λc u U e=>k4 _ _ (ah e cs) (k2 _ _ U (b7 _ _ U e))
    let#[b8,a']:=ax.ob;let#[tl,t1,t2,t3]:=ax.h3;obtain⟨ta,b9⟩:∃ta,tl[r]? = some ta:=#[_,e_ ()]
    erw[735133119540158421,0,x,dx,0,Z,1,0,0,x,dx,0,Z,1,0,0,x,CD,dx,_,0,Z,cl,n1,1,b,CB,b8,_,0,a',clB,b5,1,0,a2,_,2,SqL.of ax.h2,bt (v:=.int 1) (by rw[Ga,hl];rfl),.ref x,tp,1,?_]
    erw[95401584404033,0,x,CD,dx,_,0,Z,cl,n1,1,b,CB,b8,_,0,a',clB,b6,1,0,a3,_,2,SqL.of t1,bt (v:=.ref ta) (by rw[Ga,b9];rfl),x,dx,b,t,w',st,rs,ta,B,_,0,Z,(t3 ta (E_ b9)).1,λH5 s5=>?_]
    erw[734042,0,x,dx,0,s5 _ _ Z,1,x,dx,b,t,w',st,rs,B,1,s5 _ _ Z,?_];erw[q p c0 H5 (λc u h1 h2 h3 h4 e=>s5 _ _ (k4 _ _ h3 (a7 _ _ h1 h2 e))) (s5 _ _ (k4 _ _ (Ne.symm c4) ad)) ac c1 (s5 _ _ (k4 _ _ (Ne.symm c6) b3)) (f2 np) (.inl #[24,r,ls,hl,le,s5 _ _ bx,s5 _ _ (k4 _ _ (Ne.symm sr) a6),s5 _ _ cm])]
   ·erw[0,1,0,cZ ?_];erw[965196,0,x,CD,dx,_,0,Y,cl,n7,1,.inl #[1,_,SqL.of a6],0,0,0,x,CD,dx,_,0,Y,cl,n3,1,by show 3<=sizeLine;decide,λp np=>?_]
    have s3:=Fu.new (o:=.tup [.int (kyT i es),.int tp,.int B]) np;erw[34,rs,c9,0,1,s3 _ _ a6,by rw[Gr];lia,?_]
    have cz:p≠rs:=(ah a6 np).symm;have k4:∀c u,c≠rs->H2 c=some u->upd (upd H2 p (.tup [.int (kyT i es),.int tp,.int B])) rs (.lst (c9++[.ref p])) c=some u:=λc u U e=>by rw[al U];rwa[s3 _ _ e]
    rwa[q p c0 _ (λc u h1 h2 h3 h4 e=>k4 _ _ h4 (a7 _ _ h1 h2 e)) (k4 _ _ (Ne.symm c2) ad) ac c1 (k4 _ _ (Ne.symm c3) b3) (f2 np) (.inr #[no,k4 _ _ sr O,ae,by rw[al cz];rwa[ae]])]
def kyx(x:Nat×ai):Int:=kyT x.1 x.2.1
def tmB(B:Nat)(y:Nat×ai):Tm:=(kyx y,(aY B y,(B:Int)))
def AC(B:Nat)(ld:List (Nat×List Int))(H:Hp)(v:V)(s:Nat×(Nat×ai)):Prop:=∃a ls,v=.ref a/\ld[s.1]? = some (s.2.1,ls)/\bD ls s.2.2.1=true/\H a=some (kY s.1 (dh s.2.2.1 ls) (aY B s.2) B)
def DvT(P:Int)(L n:Nat)(x:Nat×ai):Prop:=yw L n x/\OkN P x.2.2/\Sz 60 x.2.2/\x.2.2.1≠0
def xu(CB CFr CD:Addr):Sp:=λvs H Q _=>∃(x dx b f o pl a1 a2 a3 a4 a5 v d:Addr) (ob:Obj) (P:Int) (L n B:Nat) (ld:List (Nat×List Int)) (xs:List (Nat×ai)) (HB:Hp),vs=[.ref x,.ref b,.ref v]/\H x=some (.ins CD dx [])/\Fu HB H/\HB x=none/\BsAt CB CFr HB b f o pl a1 a2 a3 a4 a5 P L n ld/\HB a5=some (.dK [])/\HB v=some (.tup [.ref d,.int B])/\HB d=some (.frz ob (.dK (DK (gD B (xs.map tmk)))))/\Fz P/\Bt (xs.map tmk) B/\xs.length<=30/\(∀x∈xs,DvT P L n x)/\(xs.map kyx).Nodup/\
 ∀(t w' st rs:Addr) (us1 us2:List V) (S:List (Nat×(Nat×ai))) (R:List (Nat×ai)) (H':Hp),(∀c u,c≠a5->HB c=some u->H' c=some u)->(∃kn,H' a5=some (.dK kn))->H' x=some (.ins CD dx (dvF b t B w' st rs))->H' st=some (.lst us1)->H' rs=some (.lst us2)->Paired (AC B ld H') us1 S->Paired (TmR H') us2 (R.map (tmB B))->(S.map (·.2)++R).Perm xs->(∀y∈R,∀ls,(y.1,ls)∈ld->bD ls y.2.1=false)->Q .non H'
theorem l7{k j:Key}(h:j≠k):∀kvs:List (Key×V),bw (dG kvs k) j=bw kvs j
 |[]=>rfl
 |p::r=>by
  by_cases U:p.1=k
  ·rw[wO U,l7 h r,bg (λz=>h (z.symm.trans U))]
  ·rw[v5 U]
   by_cases O:p.1=j
   ·rw[bp O,bp O]
   ·rw[bg O,bg O,l7 h r]
theorem D6{m:List (Int×Int)}(nd:(m.map (·.1)).Nodup){k v:Int}(h:(k,v)∈m):bw (DK m) (Sum.inl k)=some (.int v):=by
 induction m with
 |nil=>cases h
 |cons p r ih=>
  rw[K1,nodup_cons] at nd;show bw ((Sum.inl p.1,V.int p.2)::DK r) _=_
  rcases GH.mp h with rfl|h
  ·rwa[bp rfl]
  ·rw[bg (λz=>nd.1 (by have:=PJ z;rw[this];rwa[L0 h]))]
   rwa[ih nd.2 h]
theorem zA{f:α->β}{zs:List β}{xs:List α}(h:zs.Perm (xs.map f)):∃ys:List α,ys.Perm xs/\zs=ys.map f:=by
 have O:∀l:List α,Paired (λ(z:β) x=>z=f x) (l.map f) l:=λl=>by
  induction l with
  |nil=>rwa[.nil]
  |cons a l ih=>rwa[.cons rfl ih]
 let#[ys,h1,h2]:=jB h xs (O xs);erw[ys,h1,?_];clear h h1
 induction h2 with
 |nil=>rfl
 |cons h _ ih=>rw[h,ih];rfl
theorem lS{ts:List Tm}(ob:Bt ts B)(hx:tmk x∈ts)(h:x.2.2.1≠0)(hd:0<x.2.2.2):aY B x≠0/\aY B x*x.2.2.2=x.2.2.1*B:=by
 let#[c,O]:=ob.dvd _ hx;have O:B=x.2.2.2.natAbs*c:=O;have U:(B:Int).fdiv x.2.2.2=c:=by
  rw[O,N6,Nk ()]
  rwa[K4 _ ()]
 have Y:c≠0:=by
  rintro rfl;have:=ob.pos;lia
 unfold aY;rw[U];erw[Nv h (),?_]
 rw[O,N6,Nk (),MS,MZ (c:Int)]
theorem dF{P:Int}(o:OkN P x.2.2)(h0:P≠0):aY 1 x=x.2.2.1/\0<=x.2.2.1/\x.2.2.1<P:=by
 rcases o with⟨z,_⟩|⟨_,h1,h2,h3⟩
 ·rwa[absurd z h0]
 ·erw[?_,h1,h2];unfold aY;rw[h3];show x.2.2.1*(1:Int).fdiv 1=_;rw[show(1:Int).fdiv 1=1 by decide,Oy]
theorem Aj(ns:List Int):PyData.eqv (.list (ns.map .int)) (.list [])=decide (ns=[]):=by
 cases ns with
 |nil=>rfl
 |cons a r=>rfl
def dIL(ns:List Int):PyData:=.list (ns.map .int)
theorem wG(ns:List Int):SeqAt.shaped (dIL ns)=true:=by
 simp[dIL,SeqAt.shaped,PyData.canLay0,PyData.depth,PySem.W.ke_canLayAll0,PySem.W.ke_depthAll]
theorem fY:Fv ["self", "basis", "vector"] ["self", "basis", "vector"] (am bZ):=.i
set_option maxHeartbeats 2000000 in
theorem yE(F:Fun K "__init__" "Division.__init__" bZ f fd)(T:Blt mg)(ndict:mg "dict" = none)(cSB:mg "SPARE_BITS"=some (.int 256 t1))(cl:Cls K CD)(n1:Fx K CD "basis")(n2:Fx K CD "tops")(n3:Fx K CD "bottom")(n4:Fx K CD "waiting")(n5:Fx K CD "most_bits")(n6:Fx K CD "steps")(n7:Fx K CD "rest")(Kg:`MtB 5 CD "settle" (Cb CB CFr CD)):
  aC P w K mg base CX0 6 f fd ["self", "basis", "vector"] (xu CB CFr CD):=by
 erw[F.o fY λ_ _ _ _ H _ Q _ hr h=>?_]
 ·let#[x,dx,b,f,o,pl,a1,a2,a3,a4,a5,v,d,ob,P,L,n,B,ld,xs,HB,1,hx,sB,nx,hb,h5,hv,hd,hP,oB,e8,cm,ck,q]:=h;erw[_,(af (br (pv 0) (pv 1) rfl)
(af (br (pv 0) (vh ndict (aG (aI K rfl) (pv 2) ak (λ_ _=>rfl))) rfl)
(af (br (pv 0) (aG (aI K rfl) (pv 2) ak (λ_ _=>rfl)) rfl)
(af (br (pv 0) (wl (w:=w) T (aB K rfl (by exact(pv 0)) rfl)) rfl)
(af (br (pv 0) (ap aX (ap bA ak (rE PySem.F.plainAttrs_int PySem.F.slot_int_bit_length PySem.F.type_int_bit_length uu (aB K rfl (by exact(pv 0)) rfl))) (bJ (v:=.int 256) rfl cSB #[0])) rfl)
(af (br (pv 0) (aQ ag) rfl)
(af (br (pv 0) (aQ ag) rfl)
(aj (eX GM (az (wA K rfl hr.units) (aB K rfl (by exact(pv 0)) rfl) (aQ ag) (aA _))
(aj (aZ (cL Kg hr.m (pv 0) (aa (by exact(rE PySem.F.plainAttrs_list PySem.F.slot_list_pop PySem.F.type_list_pop D9 (aB K rfl (by exact(pv 0)) rfl))) ag))))))))))))),?_]
  have cz:=hP.b;have xn:∀{c u},HB c=some u->c≠x:=λ{c u} e=>ah e nx
  erw[5145,0,0,x,CD,dx,0,hx,cl,n1,#[],?_]
  generalize g1:upd H x _=G1;have j1:Ini H x (.ins CD dx [("basis",.ref b)]) G1:=by rw[<- g1];exact(Ini.of hx).put
  clear g1;have ac:=j1.k _ _ (xn hv) (sB _ _ hv);erw[8422,0,v,_,2,SqT.of ac,1,d,0,.inr #[_,j1.k _ _ (xn hd) (sB _ _ hd)],λt nt=>?_]
  erw[85,0,x,CD,dx,0,(j1.same (Fu.new nt)).at_,cl,n2,by show(1:Nat)<1000;decide,?_]
  generalize g2:upd (upd G1 t _) x _=G2;have j2:Ini H x (.ins CD dx [("basis",.ref b),("tops",.ref t)]) G2:=by rw[<- g2];exact(j1.same (Fu.new nt)).put
  have xt:t≠x:=λz=>by rw[z,j1.at_] at nt;cases nt
  have c3:G2 t=some (.dK (DK (gD B (xs.map tmk)))):=by rw[<- g2,al xt];rwa[ae]
  have mt:=sB.free (j1.free hx _ nt);clear g2 j1 nt ac;erw[8485,0,v,_,2,SqT.of (j2.k _ _ (xn hv) (sB _ _ hv)),1,0,x,CD,dx,0,j2.at_,cl,n3,by show(2:Nat)<1000;decide,?_]
  generalize g3:upd G2 x _=G3;have j3:Ini H x (.ins CD dx [("basis",.ref b),("tops",.ref t),("bottom",.int B)]) G3:=by rw[<- g3];rwa[j2.put]
  have b7:G3 t=some (.dK (DK (gD B (xs.map tmk)))):=by rw[<- g3,al xt];rwa[c3]
  clear g3 j2 c3;have kt:(gD B (xs.map tmk)).map (·.1)=xs.map kyx:=by
   unfold gD;rw[MB,MB]
   rfl
  erw[9511,0,x,CD,dx,_,0,j3.at_,cl,n2,1,.ref t,1,.inr (.inr #[34,t,xs.map kyx,0,.inl b7,by rw[tW,kt],by rw[k_];lia,λY zs nw pz _=>?_])]
  let#[U,ad,1]:=zA pz;erw[85,0,x,CD,dx,0,(j3.same (Fu.new nw)).at_,cl,n4,by show(3:Nat)<1000;decide,?_]
  generalize g4:upd (upd G3 Y _) x _=G4;have j4:Ini H x (.ins CD dx [("basis",.ref b),("tops",.ref t),("bottom",.int B),("waiting",.ref Y)]) G4:=by rw[<- g4];exact(j3.same (Fu.new nw)).put
  have xw:Y≠x:=λz=>by rw[z,j3.at_] at nw;cases nw
  have c7:G4 Y=some (.lst ((U.map kyx).map V.int)):=by rw[<- g4,al xw];rwa[ae]
  have a':G4 t=some (.dK (DK (gD B (xs.map tmk)))):=by rw[<- g4,al xt];rwa[Fu.new nw _ _ b7]
  have mw:=sB.free (j3.free hx _ nw);clear g4 j3 nw b7 pz;erw[9612232285,0,x,CD,dx,_,0,j4.at_,cl,n3,1,1,(B:Int),1,1,2,.inl #[#[],#[]],2,0,x,CD,dx,0,j4.at_,cl,n5,by show(4:Nat)<1000;decide,?_]
  generalize g5:upd G4 x _=G5;have j5:Ini H x (.ins CD dx [("basis",.ref b),("tops",.ref t),("bottom",.int B),("waiting",.ref Y),("most_bits",.int (2*(Builtin.Int.intBits (B:Int):Int)+256))]) G5:=by rw[<- g5];rwa[j4.put]
  have b9:G5 Y=some (.lst ((U.map kyx).map V.int)):=by rw[<- g5,al xw];rwa[c7]
  have c4:G5 t=some (.dK (DK (gD B (xs.map tmk)))):=by rw[<- g5,al xt];rwa[a']
  clear g5 j4 c7 a';erw[Gw _,λst a8=>#[85,0,x,CD,dx,0,(j5.same (Fu.new a8)).at_,cl,n6,by show(5:Nat)<1000;decide,?_]]
  generalize g6:upd (upd G5 st _) x _=G6;have j6:Ini H x (.ins CD dx [("basis",.ref b),("tops",.ref t),("bottom",.int B),("waiting",.ref Y),("most_bits",.int (2*(Builtin.Int.intBits (B:Int):Int)+256)),("steps",.ref st)]) G6:=by rw[<- g6];exact(j5.same (Fu.new a8)).put
  have i6:∀c u,c≠x->G5 c=some u->G6 c=some u:=λc u hc e=>by rw[<- g6,al hc];rwa[Fu.new a8 _ _ e]
  have be:st≠x:=λz=>by rw[z,j5.at_] at a8;cases a8
  have b6:G6 st=some (.lst []):=by rw[<- g6,al be];rwa[ae]
  have ws:Y≠st:=ah b9 a8;have ms:=sB.free (j5.free hx _ a8);have b':=i6 _ _ xw b9;have c5:=i6 _ _ xt c4;clear g6 i6 j5 a8 b9 c4;erw[Gw _,λrs Z=>#[85,0,x,CD,dx,0,(j6.same (Fu.new Z)).at_,cl,n7,by show(6:Nat)<1000;decide,?_]]
  generalize g7:upd (upd G6 rs _) x _=G7;have j7:Ini H x (.ins CD dx (dvF b t B Y st rs)) G7:=by rw[<- g7];exact(j6.same (Fu.new Z)).put
  have i7:∀c u,c≠x->G6 c=some u->G7 c=some u:=λc u hc e=>by rw[<- g7,al hc];rwa[Fu.new Z _ _ e]
  have cs:rs≠x:=λz=>by rw[z,j6.at_] at Z;cases Z
  have c0:G7 rs=some (.lst []):=by rw[<- g7,al cs];rwa[ae]
  have wr:Y≠rs:=ah b' Z;have sr:st≠rs:=ah b6 Z;have mr:=sB.free (j6.free hx _ Z);have bd:=i7 _ _ xw b';have b8:=i7 _ _ xt c5;have c1:=i7 _ _ be b6;clear g7 i7 j6 Z b' c5 b6;have wt:Y≠t:=aw bd b8 #[3]
  erw[e9 (λσ H'=>∃(U:List (Nat×ai)) (S:List (Nat×(Nat×ai))) (R:List (Nat×ai)) (a6 a7:List V) (kvs kn:List (Key×V)),σ=[some (.ref x),some (.ref b),some (.ref v)]/\(∀c u,c≠a5->HB c=some u->H' c=some u)/\H' x=some (.ins CD dx (dvF b t B Y st rs))/\H' Y=some (.lst ((U.map kyx).map V.int))/\H' t=some (.dK kvs)/\(∀y∈U,bw kvs (.inl (kyx y))=some (.int (aY B y)))/\H' a5=some (.dK kn)/\xF L n ld kn/\kn.length+U.length<=30/\H' st=some (.lst a6)/\H' rs=some (.lst a7)/\Paired (AC B ld H') a6 S/\Paired (TmR H') a7 (R.map (tmB B))/\(U++(S.map (·.2)++R)).Perm xs/\∀y∈R,∀ls,(y.1,ls)∈ld->bD ls y.2.1=false) (λ_ H'=>match H' Y with|some (.lst l)=>l.length|_=>0) #[403905,U,[],[],[],[],_,[],1,λc u hc e=>j7.k _ _ (xn e) (sB _ _ e),j7.at_,bd,b8,λy hy=>?_,j7.k _ _ (xn h5) (sB _ _ h5),(λi es v _ _ e=>by cases e),by have:=ad.length_eq;show 0+_<=30;lia,c1,c0,.nil,.nil,by simpa using ad,λy hy=>by cases hy] ?_ ?_]
  ·erw[D6 (by rw[kt];rwa[ck]) ?_]
   have df:=ad.mem_iff.mp hy;rwa[GK.mpr #[tmk y,L0 df,1]]
  ·clear bd b8 c1 c0 j7;rintro σ H1 ⟨U,S,R,a6,a7,kvs,kn,rfl,kB,a9,au,c2,ac,b3,dk,dl,b5,b4,pS,pR,pm,no⟩;have lx:=pm.length_eq;rw[y_,y_,k_] at lx;have ea:a6.length=S.length:=Paired.length pS;have eb:a7.length=R.length:=by rw[Paired.length pR,k_]
   erw[96,0,x,CD,dx,_,0,a9,cl,n4,1,Gw _,λl nl=>?_]
   have s2:=Fu.new (o:=.lst []) nl;erw[2411,dIL (U.map kyx),.list [],DR.lst (SqL.of (s2 _ _ au)) (lg _),DR.lst (SqL.of ae) .nil,wG _,1,0,?_];generalize upd H1 l (.lst [])=H2 at s2;rw[show PyData.eqv (dIL (U.map kyx)) (.list [])=decide (U.map kyx=[]) from Aj _]
   rcases List.eq_nil_or_concat U with rfl|⟨O,y,rfl⟩
   ·erw[cG ?_];erw[q t Y st rs a6 a7 S R H2 (λc u hc e=>s2 _ _ (kB c u hc e)) #[kn,s2 _ _ b3] (s2 _ _ a9) (s2 _ _ b5) (s2 _ _ b4) (ao (λ_ _ ⟨a,ls,e1,e2,e3,e4⟩=>#[a,ls,e1,e2,e3,s2 _ _ e4]) pS) (ao (λ_ _ ⟨a,e1,e2⟩=>#[a,e1,s2 _ _ e2]) pR) (by simpa using pm) no]
   ·rw[List.concat_eq_append] at *;rw[show decide ((O++[y]).map kyx=[])=false from Gx (by simp)]
    have hy:y∈xs:=pm.mem_iff.mp (by simp)
    let#[b0,oy,zy,ny]:=cm y hy;have ax:=s2 _ _ au;have bx:((O++[y]).map kyx).map V.int=(O.map kyx).map V.int++[.int (kyx y)]:=by simp
    rw[bx] at ax;erw[cZ #[739634,0,x,dx,0,s2 _ _ a9,1,0,x,CD,dx,_,0,s2 _ _ a9,cl,n4,1,.inl #[1,_,SqL.of ax],Y,_,.int (kyx y),1,1,ax,by simp,?_]]
    rw[List.dropLast_concat];generalize g3:upd H2 Y _=H3;have k3:∀c u,c≠Y->H1 c=some u->H3 c=some u:=λc u hc e=>by rw[<- g3,al hc];rwa[s2 _ _ e]
    have de:H3 Y=some (.lst ((O.map kyx).map V.int)):=by rw[<- g3];rwa[ae]
    clear g3 s2 ax nl;have wx:x≠Y:=Ne.symm xw;have c8:∀c u,c≠a5->HB c=some u->H3 c=some u:=λc u hc e=>k3 _ _ (ah e mw) (kB c u hc e)
    have w5:a5≠Y:=ah h5 mw;let#[dm,ec]:=lS oB (L0 hy) ny oy.den;have dy:P≠0->0<=aY B y/\aY B y<P:=λh0=>by
     have b1:B=1:=oB.one λp hp=>by
      let#[z,hz,1]:=GK.mp hp
      rcases(cm z hz).2.1 with⟨q0,_⟩|⟨_,_,_,q1⟩
      ·rwa[absurd q0 h0]
      ·rwa[q1]
     let#[e1,e2,e3]:=dF oy h0;rw[b1,e1];rwa[e2,e3]
    rw[y_,GV] at dl lx;erw[40404040404040190906,x,dx,b,f,o,pl,a1,a2,a3,a4,a5,t,Y,st,rs,P,L,n,y.1,B,ld,y.2.1,aY B y,kn,[],kvs,a6,a7,HB,1,k3 _ _ wx a9,hb,h5,c8,mt,ms,mr,nx,sr,k3 _ _ w5 b3,dk,(),#[b0.1,hb.bn,b0.2.1,hb.bL,mW b0.2.2],(λe he=>(b0.2.2 e he).2),k3 _ _ (Ne.symm wt) c2,ac y (by simp),dm,cz.1,dy,k3 _ _ (Ne.symm ws) b5,k3 _ _ (Ne.symm wr) b4,(),(),λp c' H4 k4 bz b2 e' a' np out=>?_]
    have w4:H4 Y=some (.lst ((O.map kyx).map V.int)):=k4 _ _ (Ne.symm w5) wt ws wr de;have x4:H4 x=some (.ins CD dx (dvF b t B Y st rs)):=k4 _ _ (xn h5).symm (Ne.symm xt) (Ne.symm be) (Ne.symm cs) (k3 _ _ wx a9);have c9:∀c u,c≠a5->HB c=some u->H4 c=some u:=λc u hc e=>k4 _ _ hc (ah e mt) (ah e ms) (ah e mr) (c8 c u hc e)
    have cb:∀{c zs},H1 c=some (.tup zs)->H4 c=some (.tup zs):=λ{c zs} e=>k4 _ _ (aw e b3 #[3]) (aw e c2 #[3]) (aw e b5 #[3]) (aw e b4 #[3]) (k3 _ _ (aw e au #[3]) e)
    have cr:Paired (AC B ld H4) a6 S:=ao (λ_ _ ⟨a,ls,e1,e2,e3,e4⟩=>#[a,ls,e1,e2,e3,cb e4]) pS
    have cp:Paired (TmR H4) a7 (R.map (tmB B)):=ao (λ_ _ ⟨a,e1,e2⟩=>#[a,e1,cb e2]) pR
    have cj:((O++[y]).map kyx).Nodup:=by
     have h1:=(pm.map kyx).nodup_iff.mpr ck;rw[KB,OM] at h1;rwa[h1.1]
    have c6:∀z∈O,bw (dG kvs (.inl (kyT y.1 y.2.1))) (.inl (kyx z))=some (.int (aY B z)):=λz hz=>by
     rw[l7]
     ·rwa[ac z (by simp[hz])]
     ·intro e;have e:kyx z=kyx y:=PJ e;rw[KB,OM] at cj;rwa[cj.2.2 _ (L0 hz) _ (by simp) e]
    have lt:(match H4 Y with|some (.lst l)=>l.length|_=>0)<(match H1 Y with|some (.lst l)=>l.length|_=>0):=by
     rw[w4,au];simp
    rcases out with⟨r,ls,hl,le,z1,z2,z3⟩|⟨nl',z1,z2,z3⟩
    ·erw[#[403905,O,S++[(r,y)],R,a6++[.ref p],a7,_,c',1,c9,x4,w4,a',c6,bz,b2,(),z1,z2,aK #[23,p,ls,1,hl,le,z3] cr,cp,?_,no],lt]
     erw[List.Perm.trans ?_ pm];rw[KB];show(O++((S.map (·.2)++[y])++R)).Perm _;simp only[Mt];rwa[List.Perm.append_left _ List.perm_middle]
    ·erw[#[403905,O,S,R++[y],a6,a7++[.ref p],_,c',1,c9,x4,w4,a',c6,bz,b2,(),z1,z2,cr,by rw[KB];rwa[aK #[p,1,z3] cp],?_,λz hz=>?_],lt]
     ·erw[List.Perm.trans ?_ pm];rw[Mt];erw[List.Perm.append_left _ ?_];rw[<- Mt];rwa[List.perm_append_comm]
     ·rcases KI.mp hz with hz|hz
      ·rwa[no z hz]
      ·rw[GF.mp hz];rwa[nl']
  ·rintro σ H Q Q' hq ⟨y0,y1,y2,y3,y4,y5,y6,y7,y8,y9,dz,e0,e5,e6⟩;rwa[96,y0,y1,y2,y3,y4,y5,y6,y7,y8,y9,dz,e0,e5,λl nl=>by
    let#[d,e,z1,z2,z3,z4,b,z5,z6]:=e6 l nl;rwa[2411,d,e,z1,z2,z3,z4,b,z5,hq _ _ z6]]
theorem yl{CR x:Addr}{P:Int}(hN:FQ CF CR H x P)(ha:∀Z:VK,Z (.ref x) H->ta σ H Z)(hR:R (.int P) H):Dz (iD CF "prime" t9 [] E0 ta cI) (iD CR "prime" (uR CR) [] E0 ta cI) σ H R:=by
 rcases hN with⟨h0,dx,e⟩|⟨h0,dx,e⟩
 ·subst h0;rwa[.inl (ha _ #[3311,x,dx,0,e,1,.ref x,1,hR])]
 ·rwa[.inr (ha _ #[3332,x,dx,0,e,tD (by decide +kernel) _,x,dx,P,1,e,hR])]
def bN(n:Nat)(x:Nat×ai):List (List ai):=(List.range n).map λj=>if j=x.1 then[x.2] else[]
theorem dH(n:Nat)(x:Nat×ai):(bN n x).length=n:=by simp[bN]
theorem Au{i:Nat}(h:(bN n x)[i]? = some e):i<n/\e=if i=x.1 then[x.2] else[]:=by
 have hi:i<n:=by
  have:=(q_.mp h).1;rw[dH] at this;rwa[this]
 erw[hi,?_];unfold bN at h;rw[Ga,Ml hi] at h;exact(G_ h).symm
theorem lO:∀(l:List Nat) (x:Nat×ai) (k:Nat),(∀j∈l,j≠x.1)->aN k (l.map λj=>if j=x.1 then[x.2] else[])=[]
 |[],_,_,_=>rfl
 |a::l,x,k,h=>by
  show(if a=x.1 then[x.2] else[]).map _++aN (k+1) (l.map λj=>if j=x.1 then[x.2] else[])=[]
  rw[t_ (h a KQ),lO l x (k+1) λj O=>h j (GG _ O)]
  rfl
theorem qA(h:x.1<n):aN 0 (bN n x)=[x]:=by
 have e:List.range n=List.range x.1++[x.1]++(List.range (n-x.1-1)).map (x.1+1 + ·):=by
  rw[<- range_succ,<- List.range_add];congr 1;lia
 have h1:=lO (List.range x.1) x 0 λj O=>by have:=ME.mp O;lia
 have h2:=λk=>lO ((List.range (n-x.1-1)).map (x.1+1 + ·)) x k λj O=>by let#[a,_,1]:=GK.mp O;lia
 unfold bN;rw[e,KB,KB,iu,iu,h1,h2,k_,Ng,Mg,nil_append];show((if x.1=x.1 then[x.2] else[]).map λq=>(0+x.1,q))++[]=[x]
 rw[u_ rfl,Nat.zero_add]
 rfl
def vE(P:Int)(L n:Nat)(tb:List (Nat×ai)):Prop:=tb.length<=5/\∀x∈tb,DvT P L n x
theorem Br{P:Int}(h:DvT P L n x):RwOk P L (bN n x):=λe U=>by
 let#[i,hi]:=getElem?_of_mem U;let#[_,1]:=Au hi
 split
 ·erw[by simp,λq O=>?_]
  rw[GF.mp O];rwa[h.2.1,h.2.2.1,h.1.2.1,h.1.2.2]
 ·rwa[PU,λq O=>by cases O]
def ja(tb:List (Nat×ai)):List (Nat×List Int):=tb.map λx=>(x.1,x.2.1)
def Cq(CF CR CG CB CFr:Addr):Sp:=λvs H Q _=>∃(g xn c t:Addr) (P:Int) (L n:Nat) (cs ws:List V) (tb:List (Nat×ai)),vs=[.ref g,.ref c,.ref t]/\fE CG H g xn L/\FQ CF CR H xn P/\Fz P/\H c=some (.lst cs)/\cs.length=n/\n<=60/\L<=4/\H t=some (.lst ws)/\Paired (FS P H) ws (tb.map (bN n))/\vE P L n tb/\
 ∀(b f o pl a1 a2 a3 a4 a5:Addr) (H':Hp),Fu H H'->BsAt CB CFr H' b f o pl a1 a2 a3 a4 a5 P L n (ja tb)->H' a5=some (.dK [])->H a5=none->Q (.ref b) H'
theorem Gf:Fv ["ring", "columns", "table", "frame", "basis", "own"] ["ring", "columns", "table"] (am eJ):=.i
set_option maxHeartbeats 1000000 in
theorem wc{CR:Addr}(F:Fun K "table_basis" "table_basis" eJ f fd)(T:Blt mg)(Jz:`MtB 1 CG "letters" (rZ CG))(Ib:`MtB 1 CG "numbers" (kD CG))(Jx:`MtB 1 CF "prime" t9)(Jy:`MtB 1 CR "prime" (uR CR))(Hh:`FnB 5 "column_frame" (yx CFr))(JR:`MkB 3 CB "Basis" (zB CB CFr))(Kh:`MtB 4 CB "add_row" (Cj CB CFr))(Hy:`FnB 4 "vector_of" (zH K CF CR CG CFr)):
  aC P w K mg base CX0 6 f fd ["ring", "columns", "table"] (Cq CF CR CG CB CFr):=by
 erw[F.o Gf λ_ _ _ _ H _ Q _ Y h=>?_]
 ·let#[g,xn,c,t,P,L,n,cs,ws,tb,1,#[dg,hg],hN,hP,hc,ln,a7,L4,ht,pw,tok,q]:=h;erw[_,(af (aq (i:=3) Gf.nd rfl #[4] (ay Hh Y.m (aa (by exact(cu Jz Y.m (pv 0))) (aa (by exact(bU K T (pv 1))) ag))))
(af (aq (i:=4) Gf.nd rfl #[4] (pc JR Y.m (aa (pv 3) (aa (by exact(rW (cu Jx Y.m (cu Ib Y.m (pv 0))) (cu Jy Y.m (cu Ib Y.m (pv 0))))) ag))))
(af (bi GM rfl (aL K rfl (pv 2)) (aO (i:=5) Gf.nd rfl #[4])
(aj (aZ (cL Kh Y.m (pv 4) (aa (aG (aI K rfl) (ay Hy Y.m (aa (pv 0) (aa (pv 3) (aa (pv 5) ag)))) ak (λ_ _=>rfl)) ag)))))
(aj (ar (pv 4)))))),?_]
  have lw:ws.length=tb.length:=by rw[Paired.length pw,k_]
  erw[73326223,0,g,dg,0,hg,1,g,xn,L,1,#[dg,hg],0,c,0,.inl (SqL.of hc),L,n,by rw[ln];rfl,L4,a7,λf o pl H1 s1 hf nf no bd=>?_]
  have a':=s1 _ _ hg;erw[0,?_];erw[yl (hN.mono λo e=>s1 _ _ e) (λZ z=>#[7332,0,g,dg,0,a',1,g,xn,L,1,#[dg,a'],z]) ?_]
  intro b db nb b8 b';have k0:Fu H1 (upd (upd H1 db (.own b)) b (.ins CB db [])):=λc u e=>by
   rw[al (ah e nb),al (ah e b8)];rwa[e]
  erw[4045,b,db,f,o,pl,P,L,n,1,ae,hf.same k0,a7,L4,λa1 a2 a3 a4 a5 H2 k2 hb h5 na=>#[1,?_]]
  have b9:Fu H1 H2:=λc u e=>k2 c u (ah e nb) (k0 _ _ e)
  have s2:=s1.trans b9;have b7:H b=none:=s1.free nb;have b6:∀a∈[a1,a2,a3,a4],H a=none:=λa ha=>s1.free (k0.free (na a (Mn [a5] ha)))
  erw[52,0,t,1,#[_,SqL.of (s2 _ _ ht)],cS (xs:=ws) (λj σ H'=>∃(x5:Option V) (a5:Addr),σ=[some (.ref g),some (.ref c),some (.ref t),some (.ref f),some (.ref b),x5]/\Fu H H'/\BsAt CB CFr H' b f o pl a1 a2 a3 a4 a5 P L n (ja (tb.take j))/\H' a5=some (.dK [])/\H a5=none) ?_ ?_ ?_ ?_]
  ·rwa[24,none,a5,1,s2,hb,h5,s1.free (k0.free (na a5 (by simp)))]
  ·rintro j σ H' _ ⟨x5,a5,rfl,U,_⟩;rwa[SqL.of (U _ _ ht)]
  ·rintro j v σ H3 hv ⟨x5,a5,rfl,U,O,a6,_⟩ N0 B0 ax;let#[row,er,r,es,1,b2,pe]:=aD pw hv;rw[Ga] at er;obtain⟨x,ex⟩:∃x,tb[j]? = some x:=by
    cases z:tb[j]? with
    |none=>rw[z] at er;cases er
    |some x=>rwa[x,1]
   rw[ex] at er;obtain rfl:bN n x=row:=G_ er;have dx:=tok.2 x (E_ ex);have jl:j<tb.length:=(q_.mp ex).1;let#[ad,a9]:=O.ob;have a8:=qA dx.1.1;erw[735190401901,0,b,ad,0,a9,1,0,0,0,g,xn,f,o,pl,r,P,L,es,bN n x,1,#[dg,U _ _ hg],hN.mono λo e=>U _ _ e,by rw[dH];rwa[O.fr],U _ _ b2,ao (λ_ _=>FW.same U) pe,by rw[dH];rwa[a7],L4,Br dx,by rw[a8];show 1<=30;decide,λtv d ob B H4 s4 b3 hd oB=>?_]
   rw[a8] at hd oB;erw[44,tv,_,2,SqT.of b3,1,?_];have mm:tmk x∈[x].map tmk:=by simp
   let#[m0,m1]:=lS oB mm dx.2.2.2 dx.2.1.den;erw[404040402902,b,f,o,pl,a1,a2,a3,a4,a5,d,ob,P,L,n,x.1,ja (tb.take j),x.2.1,aY B x,1,O.same a6 s4,hd,dx.1.1,dx.1.2.1,dx.1.2.2,hP,m0,λh0=>?_,?_,?_,λac H5 k5 b0 au b5=>ax _ _ #[24,_,ac,1,λc u e=>?_,?_,au,U.free (s4.free b5)]]
   ·have b1:B=1:=oB.one λp hp=>by
     rw[GF.mp hp]
     rcases dx.2.1 with⟨q0,_⟩|⟨_,_,_,q1⟩
     ·rwa[absurd q0 h0]
     ·rwa[q1]
    let#[e1,e2,e3]:=dF dx.2.1 h0;rw[b1,e1,L8 e2 e3];rwa[dx.2.2.2]
   ·let#[k,hk]:=oB.dvd _ mm;have hk:B=x.2.2.2.natAbs*k:=hk;have xd:=dx.2.1.den;have ef:(B:Int).fdiv x.2.2.2=k:=by
     rw[hk,N6,Nk ()]
     rwa[K4 _ ()]
    have kB:k<=B:=by rw[hk];rwa[Nz _ ()]
    unfold aY;rw[ef,Nj,K5];have h1:x.2.2.1.natAbs*k<2^60*2^1850:=NJ dx.2.2.1.1 (Li kB oB.lt);rw[<- Nat.pow_add] at h1;rwa[NA h1 (K8 #[] #[])]
   ·unfold ja;rw[k_,LK];have:=tok.1;lia
   ·have n4:c∉[a1,a2,a3,a4]:=λz=>by rw[b6 _ z] at e;cases e
    rwa[k5 _ _ n4 (ah e b7) (s4 _ _ (U _ _ e))]
   ·have el:ja (tb.take (j+1))=ja (tb.take j)++[(x.1,x.2.1)]:=by
     unfold ja;rw[Kw,ex,KB]
     rfl
    rw[el];rwa[b0]
  ·rintro σ H3 ⟨x5,a5,rfl,U,O,a6,b4⟩;rw[lw,KU] at O;rwa[0,q b f o pl a1 a2 a3 a4 a5 H3 U O a6 b4]
theorem E4:(["_law_place", "_law_base", "_law_bag_here", "_law_near"]:List Str).Nodup:=by decide +kernel
theorem Ez:(["place", "entry"]:List Str).Nodup:=by decide +kernel
def dR(P:Int)(row:List (List ai)):PyData:=.list (row.map (dS P))
def Lay(n:Nat)(d:PyData):Prop:=d.canLay0=true/\d.depth<=n
theorem uw:∀{ds:List PyData},(∀d∈ds,Lay n d)->PyData.canLayAll0 ds=true/\PyData.depthAll ds<=n
 |[],_=>#[1,by simp[PyData.depthAll]]
 |d::r,h=>by
  let#[a,b]:=h d KQ;let#[c,e]:=uw λd hd=>h d (GG _ hd)
  erw[by simp only[PyData.canLayAll0,a,c,Bool.and_true],?_]
  simp only[PyData.depthAll];lia
theorem kM{ds:List PyData}(h:∀d∈ds,Lay n d):Lay (n+1) (.list ds):=by
 let#[a,b]:=uw h;erw[by simp only[PyData.canLay0,a],?_]
 simp only[PyData.depth];lia
theorem Lay.sh{d:PyData}(h:Lay n d)(k:n<=64):SeqAt.shaped d=true:=by
 unfold SeqAt.shaped;rw[Lp];rwa[h.1,p_ (Lg h.2 k)]
theorem CL(P:Int)(e:List ai):Lay 3 (dS P e):=kM λd hd=>by
 let#[p,_,1]:=GK.mp hd;rwa[xC P p]
theorem ji(P:Int)(row:List (List ai)):Lay 4 (dR P row):=kM λd hd=>by
 let#[p,_,1]:=GK.mp hd;rwa[CL P p]
theorem qH{P:Int}:∀{es:List V} {row:List (List ai)},Paired (FW P H) es row->DRs K H (row.map (dS P)) es
 |_,_,.nil=>.nil
 |_,_,.cons ⟨l,ts,e,h1,h2⟩ r=>by
  rw[e];rwa[.cons (yc h1 h2) (qH r)]
theorem tZ{P:Int}{es:List V}{row:List (List ai)}(hr:H r=some (.lst es))(h:Paired (FW P H) es row):DR K H (dR P row) (.ref r):=.lst (SqL.of hr) (qH h)
theorem DS{P:Int}{row:List (List ai)}(h:FS P H v row):DR K H (dR P row) v:=by
 let#[r,es,1,O,U]:=h;rwa[tZ O U]
theorem qY{d:PyData}(h:Lay n d):PyData.eqv d d=true:=SeqAt.eqv_refl d h.1
def xj:Sp:=λvs H Q _=>∃(p:Addr) (N M a b:Int) (k:Nat),vs=[.int N,.int M,.ref p]/\1<=N/\N<=3/\1<=M/\M<=5/\H p=some (.lst [.int a,.int b])/\FI a b k/\k<=100000/\
 ∀(l:Addr) (cs:List Int) (a' b':Int) (H':Hp),H l=none->H' l=some (.lst (cs.map V.int))->(cs.length:Int)=N->(∀c∈cs,-18<=c/\c<=21)->H' p=some (.lst [.int a',.int b'])->FI a' b' (k+4)->(∀c o,H c=some o->c≠p->H' c=some o)->Q (.ref l) H'
theorem AZ(P:Int)(out:List ai):PyData.eqv (dS P out) (dS P [])=decide (out=[]):=by
 cases out with
 |nil=>rwa[SeqAt.eqv_refl _ (SeqAt.canLay_of_shaped (jy P []))]
 |cons p r=>
  rw[Gx (by simp)]
  simp[dS,PyData.eqv,PyData.eqvAll]
theorem sc__law_columns:Fv ["_law_many", "_law_near", "_law_bag_here", "_law_base"] ["_law_many", "_law_near", "_law_bag_here"] (am dY):=.i
theorem BG(F:Fun K "_law_columns" "_law_columns" dY f fd)(T:Blt mg)(GY:`FnB 1 "_law_take" eM):`aC CX0 2 f fd ["_law_many", "_law_near", "_law_bag_here"] xj:=by
 erw[F.o sc__law_columns λ_ _ _ _ H _ Q _ hr h=>?_]
 ·let#[p,N,M,a,b,k,1,N1,N3,M1,M5,hp,hb,hk,q]:=h;erw[_,(af (aq (i:=3) sc__law_columns.nd rfl (Or.inr rfl) (ap bE (ay GY hr.m (aa (pv 2) (aa ak ag))) ak))
(aj (ar (by rwa[bh (N:=["_law_place", "_law_base", "_law_bag_here", "_law_near"]) (src:=[none,some 3,some 2,some 1]) rfl rfl rfl (by exact(bj rfl T.range (aa (pv 0) ag))) (λ_ _ _=>by rwa[by exact(cc (i:=0) E4 rfl rfl),aV,by exact(ap bE (ap aX (pv 1) (ay GY hr.m (aa (pv 2) (aa (pv 3) ag)))) ak)])])))),?_]
  erw[96,0,p,a,b,35,k,1,hp,hb,(),#[],aM #[] #[],λr1 a1 b1 au ax a'=>#[22,2,?_]]
  have k1:=KeepB.put (ys:=[.int a1,.int b1]) hp;have Y:(upd H p (.lst [.int a1,.int b1])) p=some (.lst [.int a1,.int b1]):=ae;generalize upd H p (.lst [.int a1,.int b1])=H1 at *;erw[53,0,N,1,(),(),cY (n:=N.toNat) (σ0:=[none,some (.int (r1-17)),some (.ref p),some (.int M)]) rfl (λacc i ws σ H'=>∃(u:Option V) (Z:List Int) (a b:Int),σ=[u,some (.int (r1-17)),some (.ref p),some (.int M)]/\ws=Z.map V.int/\Z.length=i/\(∀c∈Z,-18<=c/\c<=21)/\H' p=some (.lst [.int a,.int b])/\FI a b (k+1+i)/\∀c o,H1 c=some o->c≠p->H' c=some o)
   (by rw[Gr];lia) (λacc O=>#[46,none,[],a1,b1,1,1,1,λc U=>absurd U (by simp),by rw[al (ah Y O)];rwa[Y],a',λc o e U=>by rw[al (ah e O)];rwa[e]]) ?_ ?_ ?_ ?_]
  ·rintro acc i ws σ H' O hi hz _;rwa[hi]
  ·rintro acc ws σ H' O hz _;rwa[ge _]
  ·rintro acc i ws σ H2 x H' O hi hz ad ⟨u,Z,a2,b2,rfl,rfl,lc,a8,a7,a6,kp2⟩ ⟨rfl,rfl⟩;have a9:p≠acc:=ah Y O;erw[5196,0,0,0,p,a2,b2,M,0,a7,a6,(),(),aM () (),λr3 a3 b3 b0 b4 ac=>#[2222,2,2,?_]]
   erw[121246,Z.map V.int,by rw[al a9.symm];rwa[hz],by rw[k_,Gr];lia,_,ae,by rw[y_,GV];lia,_,Z++[r1-17+r3-1],a3,b3,1,by rw[KB];rfl,by rw[y_,lc];rfl,λc U=>?_,by rw[al a9,ae],by rw[show k+1+(i+1)=k+1+i+1 by lia];rwa[ac],λc o e U=>?_]
   ·rcases KI.mp U with z|z
    ·rwa[a8 c z]
    ·rw[GF.mp z];lia
   ·rw[al (ah e O),al U];rwa[kp2 c o e U]
  ·rintro acc ws σ H2 O hz ad ⟨u,Z,a2,b2,rfl,rfl,lc,a8,a7,a6,kp2⟩;have an:H acc=none:=by
    cases e:H acc with
    |none=>rfl
    |some o=>
     by_cases z:acc=p
     ·rw[z,Y] at O;cases O
     ·rw[k1.2.2 acc o e z] at O;cases O
   rwa[q acc Z a2 b2 H2 an hz () a8 a7 (a6.mono ()) λc o e U=>kp2 c o (k1.2.2 c o e U) U]
def Ld3(P:Int)(H:Hp)(v:V)(x:Nat×ai):Prop:=∃(t k:Addr) (u:V),v=.ref t/\H t=some (.tup [.int (x.1:Int),.ref k,u])/\H k=some (.tup (x.2.1.map V.int))/\At P H u x.2.2
theorem Ld3.mono{P:Int}(k:∀t xs,H t=some (.tup xs)->H' t=some (.tup xs))(h:Ld3 P H v x):Ld3 P H' v x:=by
 let#[t,c,u,1,h1,h2,h3]:=h;rwa[33,t,c,u,1,k _ _ h1,k _ _ h2,h3.mono k]
theorem Ld3.key{P:Int}(h:Ld3 P H v x):jk H v=ky x:=by
 let#[t,c,u,1,h1,h2,h3]:=h;rwa[AI h1 h2]
def d3(P:Int)(x:Nat×ai):PyData:=.tuple [.int (x.1:Int),fJ x.2.1,dN P x.2.2]
theorem Ld3.dr{P:Int}(h:Ld3 P H v x):DR K H (d3 P x) v:=by
 let#[t,c,u,1,h1,h2,h3]:=h;rwa[.tup (SqT.of h1) (.cons (.int _) (.cons (dB (SqT.of h2)) (.cons (mK h3) .nil)))]
theorem Dw(P:Int)(x:Nat×ai):Lay 3 (d3 P x):=by
 have z:=xC P x.2;let#[z1,z2]:=z;unfold Lay d3;unfold dP at z1 z2;simp only[PyData.canLay0,PyData.canLayAll0,PyData.depth,PyData.depthAll,Bool.and_true,Bool.true_and] at *;rwa[z1,()]
theorem ze{P:Int}:∀{ws:List V} {fs:List (Nat×ai)},Paired (Ld3 P H) ws fs->DRs K H (fs.map (d3 P)) ws
 |_,_,.nil=>.nil
 |_,_,.cons q r=>.cons q.dr (ze r)
theorem Bc(P:Int)(fs:List (Nat×ai)):Lay 4 (.list (fs.map (d3 P))):=kM λd hd=>by
 let#[p,_,1]:=GK.mp hd;rwa[Dw P p]
def ED:Sp:=λvs H Q _=>∃(i:Int) (k:Addr),vs=[.int i,.ref k]/\∀t,H t=none->Q (.ref t) (upd H t (.tup [.ref k,.int (-i)]))
abbrev lamQ:Str:=("lead" ++ ".<locals>.")++"<lambda>"
abbrev F0(H:Hp)(P0:Addr):Prop:=Gg H P0 #[(318),27,318,72] lamQ
def rA(P0 C:Addr):Sp:=λvs H Q E=>∃(c r:Addr) (P:Int) (es:List V) (row:List (List ai)),vs=[.ref c,.ref r]/\H r=some (.lst es)/\Paired (FW P H) es row/\row.length<=60/\F0 H P0/\
 (cF 0 row=[]->∀H',Fu H H'->E (.ref C) none H')/\∀v x H',Top (cF 0 row) x->Ld3 P H' v x->FE P0 H H'->F0 H' P0->Q v H'
theorem lW:Fv ["place", "product"] ["place", "product"] (am eP):=.i
theorem Ey(F:Fun K "term_height" "term_height" eP f fd):`aC CX0 1 f fd ["place", "product"] ED:=by
 erw[F.o lW λ_ _ _ _ H _ Q _ U h=>?_]
 ·let#[i,k,1,q]:=h;erw[_,(aj (ar (aS (aa (pv 1) (aa (uO pF (pv 0)) ag))))),?_];rwa[5112,0,0,0,(by show 2<=sizeLine;decide),λt O=>q t O]
theorem sc_lead:Fv ["columns", "row", "firsts"] ["columns", "row"] (am sI):=.i
set_option maxHeartbeats 2000000 in
theorem Be(F:Fun K "lead" "lead" sI f fd)(hcode:∀oc od a' osl,K.lookup f=some #[oc,od,.func a',osl]->a'.code=.ref c0)(hC:CodeHd base c0 P0)(hB:BmB mg base)(T:Blt mg)(Ir:`FnB 1 "term_height" ED)(ANoRow:mg "NoRow"=some (.ref Hz))(xc:XCl K Hz):
  aC P w K mg base (CXE P w) 12 f fd ["columns", "row"] (rA P0 Hz):=by
 erw[F.okXC hcode sc_lead (λvs H Q E h=>?_) (λA outer s H vs Q E hr h=>?_)]
 ·let#[c,r,P,es,row,1,_]:=h
  rfl
 let#[c,r,P,es,row,1,a7,pr,b8,hT,qE,q]:=h;have b4:es.length=row.length:=Paired.length pr;erw[_,(af (fF (i:=2) sc_lead.nd rfl #[4] (N:=["place", "entry"]) (src:=[none,none]) rfl rfl rfl (by exact(gh K rfl rfl T.enum (aa (pv 1) ag))) (λ_ _ _=>by rwa[by exact(bc K (i:=0) (j:=1) rfl rfl Ez rfl rfl rfl rfl),(gr (az (wA K rfl hr.units) (pv 1) (aQ ag) (aA _))),by exact(aS (aa (pv 0) (aa (aG (aI K rfl) (aG (aF K rfl) (pv 1) ak (λ_ _=>rfl)) ak (λ_ _=>rfl)) (aa (aG (aI K rfl) (aG (aF K rfl) (pv 1) ak (λ_ _=>rfl)) ak (λ_ _=>rfl)) ag))))]))
(af (aT (az (EM K rfl hr.units) (pv 2) (aQ ag) (aA _))
(aj (ii xc.ek ANoRow (aa pG ag)))
aE)
(aj (ar (Ap (k:=2) (N:=["first"]) (x := "first") T (pv 2) rfl hC hB .i hr.m rfl (λ_ _ _ _ _ _ hr=>by exact(ay Ir hr.m (aa (aG (aI K rfl) (pv 0) ak (λ_ _=>rfl)) (aa (aG (aI K rfl) (pv 0) ak (λ_ _=>rfl)) ag))))))))),?_]
 erw[52,0,r,1,#[_,SqL.of a7],cY (n:=es.length) (σ0:=[none,none]) rfl (λacc j ws σ H'=>∃u v:Option V,σ=[u,v]/\Fu H H'/\Paired (Ld3 P H') ws (cF 0 (row.take j))) (by rw[Gr];lia) (λacc Y=>#[22,none,none,1,Fu.new Y,.nil]) ?_ ?_ ?_ ?_]
 ·rintro acc j ws σ H' Y hj hz ⟨u,v,rfl,sm,_⟩;rwa[21,es,es[j],SqL.of (sm _ _ a7),by simp[hj]]
 ·rintro acc ws σ H' Y hz ⟨u,v,rfl,sm,_⟩;rwa[es,SqL.of (sm _ _ a7),ge _]
 ·rintro acc j ws σ H9 x H' Y hj hz b3 ⟨u,v,rfl,s9,pw⟩ ⟨pp,x1,rfl,b5,rfl,gx⟩;have hx:=gx es (SqL.of (s9 _ _ a7));let#[e,ee,l,ts,1,hl,pe]:=aD pr hx;have jl:j<row.length:=(q_.mp ee).1;have b7:=Fu.new (o:=.tup [.int (j:Int),.ref l]) b5;have b1:(upd H9 pp (.tup [.int (j:Int),.ref l])) pp=some (.tup [.int (j:Int),.ref l]):=ae;generalize upd H9 pp (.tup [.int (j:Int),.ref l])=a9 at *;erw[232122,pp,0,SqT.of b1,1,_,0,2,?_];erw[0,Gw _,λl4 n4=>?_]
  have s4:=Fu.new (o:=.lst []) n4;have h4:(upd a9 l4 (.lst [])) l4=some (.lst []):=ae;generalize upd a9 l4 (.lst [])=U at *;have sb:Fu H9 U:=b7.trans s4;have O:Fu H U:=s9.trans sb;have fe:cF 0 (row.take (j+1))=cF 0 (row.take j)++jv j e:=by
   rw[Kw,ee];show cF 0 (row.take j++[e])=_;rw[nF,LK,show 0+min j row.length=j by lia]
  have lw:ws.length<=j:=by
   rw[Paired.length pw];have:=qO (row.take j) 0;rw[LK] at this;lia
  erw[2411,dS P e,dS P [],yc (O _ _ hl) (pe.mono λt xs e=>O _ _ e),yc h4 .nil,jy _ _,jy _ _,0,?_]
  rw[AZ];have Z:Paired (Ld3 P U) ws (cF 0 (row.take j)):=ao (λ_ _ z=>z.mono λt xs e=>sb _ _ e) pw
  cases e with
  |nil=>rwa[cG #[1222,_,sb _ _ hz,(),_,0,O,by rw[fe];show Paired (Ld3 P U) ws (cF 0 (row.take j)++[]);rw[Mg];rwa[Z]]]
  |cons q0 t0=>
   cases pe with
   |cons pq pt=>
    let#[t,k,n,1,g1,g2,g3]:=pq;erw[cZ #[5144448445,0,0,l,_,2,SqL.of (O _ _ hl),bt (j:=0) rfl,t,_,2,SqT.of (O _ _ g1),1,0,l,_,2,SqL.of (O _ _ hl),bt (j:=0) rfl,t,_,2,SqT.of (O _ _ g1),1,(by show 3<=sizeLine;decide),λtn b6=>?_]]
    have s5:=Fu.new (o:=.tup [.int (j:Int),.ref k,n]) b6;have h5:(upd U tn (.tup [.int (j:Int),.ref k,n])) tn=some (.tup [.int (j:Int),.ref k,n]):=ae;generalize upd U tn (.tup [.int (j:Int),.ref k,n])=H5 at *;have ax:=s5 _ _ (sb _ _ hz);have ka:FB [acc] H5 (upd H5 acc (.lst (ws++[.ref tn]))):=FB.put ax (by simp)
    erw[121222,ws,ax,by rw[Gr];lia,_,ae,by rw[y_,GV];lia,_,0,(O.trans s5).put Y,?_]
    rw[fe];rwa[aK #[33,tn,k,n,1,ka.1 _ _ h5,ka.1 _ _ (s5 _ _ (O _ _ g2)),(g3.mono λt xs e=>s5 _ _ (O _ _ e)).mono ka.1] (ao (λ_ _ z=>(z.mono λt xs e=>s5 _ _ e).mono ka.1) Z)]
 ·rintro acc ws σ H1 Y hz b3 ⟨u,v,rfl,s1,pw⟩;rw[b4,KU] at pw;erw[0,Gw _,λl4 n4=>?_]
  have s4:=Fu.new (o:=.lst []) n4;have h4:(upd H1 l4 (.lst [])) l4=some (.lst []):=ae;generalize upd H1 l4 (.lst [])=U at *;have O:Fu H U:=s1.trans s4;have au:=s4 _ _ hz;have Z:Paired (Ld3 P U) ws (cF 0 row):=ao (λ_ _ z=>z.mono λt xs e=>s4 _ _ e) pw
  erw[2411,.list ((cF 0 row).map (d3 P)),.list [],.lst (SqL.of au) (ze Z),.lst (SqL.of h4) .nil,(Bc P _).sh #[],#[],0,?_]
  cases hf:cF 0 row with
  |nil=>
   erw[cZ #[by show 1<=sizeLine;decide,qE hf _ O]]
  |cons x0 xr=>
   erw[cG ?_];have ad:=hT.same O;have lw:ws.length=(cF 0 row).length:=Paired.length Z;have l0:0<ws.length:=by rw[lw,hf];simp
   let#[b9,a8,_]:=id ad;erw[75,0,acc,ws,jk U,1,SqL.of au,l0,ad,λH2 kp y hy=>?_,λy H' ey b2 kp=>?_]
   ·let#[x,hx,a6]:=hU Z hy;have ek:=a6.key;let#[t,k,n,1,g1,g2,g3]:=a6;have ac:=kp.tup a8 g1;rw[ek];erw[848421,0,t,_,2,SqT.of ac,1,0,t,_,2,SqT.of ac,1,_,k,1,λt' nt=>#[0122,Fu.new nt,t',k,1,SqT.of ae,SqT.of ?_]]
    rwa[Fu.new nt _ _ (kp.tup a8 g2)]
   ·let#[x,ex,a6]:=aD Z ey;erw[q y x H' #[E_ ex,λz hz=>?_] (a6.mono λt xs e=>kp.tup a8 e) (λc o e n=>kp c o (O _ _ e) n) b2]
    let#[j,jl,ej]:=getElem_of_mem hz;have jw:j<ws.length:=()
    have pj:Ld3 P U ws[j] z:=jf Z (e_ jw) (by rw[e_ jl,ej])
    have tp:tgt (jk U (ws.getD j .non)) (jk U (ws.getD (argBest (λi j=>tgt (jk U (ws.getD i .non)) (jk U (ws.getD j .non))) (ws.length-1)) .non))=false:=jE (λi=>jk U (ws.getD i .non)) (ws.length-1) j ()
    have e1:ws.getD j .non=ws[j]:=by rw[Gc,e_ jw];rfl
    have e2:ws.getD (argBest (λi j=>tgt (jk U (ws.getD i .non)) (jk U (ws.getD j .non))) (ws.length-1)) .non=y:=by
     rw[Gc];have b0:ws[argBest (λi j=>tgt (jk U (ws.getD i .non)) (jk U (ws.getD j .non))) (ws.length-1)]? = some y:=ey
     rw[b0]
     rfl
    rw[e2,e1,pj.key,a6.key] at tp;rwa[tp]
def bo(tb:List (Nat×ai))(r:Nat):Nat×ai:=tb.getD r (0,([],(0,1)))
def hJ(tb:List (Nat×ai))(B:Nat)(s:Nat×(Nat×ai)):Nat×ai:=(s.1,(dh s.2.2.1 (bo tb s.1).2.1,(aY B s.2*(bo tb s.1).2.2.2,(B:Int)*(bo tb s.1).2.2.1)))
def jN(P:Int)(L n B:Nat)(tb:List (Nat×ai))(s:Nat×(Nat×ai)):Prop:=DvT P L n s.2/\s.1<tb.length/\(bo tb s.1).1=s.2.1/\bD (bo tb s.1).2.1 s.2.2.1=true/\(aY B s.2).natAbs<2^2900
theorem gG{r:Nat}(h:r<tb.length):tb[r]? = some (bo tb r)/\bo tb r∈tb:=by
 have e:bo tb r=tb[r]:=by unfold bo;simp[h]
 rw[e];rwa[e_ h,PR h]
theorem ff:∀{ls es:List Int},ls.length=es.length->bD ls es=true->(∀e∈es,0<=e/\e<1000)->(∀e∈ls,0<=e/\e<1000)->(∀e∈dh es ls,0<=e/\e<1000)/\(dh es ls).length=es.length/\bQ ls (dh es ls)=es
 |[],[],_,_,_,_=>#[λe U=>by simp[dh] at U,1,1]
 |l::ls,e::es,h,hle,U,hl=>by
  have h1:(decide (l<=e)&&bD ls es)=true:=hle;rw[Lp] at h1;let#[a1,a2,a3]:=ff (Nat.succ.inj h) h1.2 (λx O=>U x (GG _ O)) (λx O=>hl x (GG _ O))
  have le:=A_ h1.1;have Y:=U e KQ;have Z:=hl l KQ;erw[λx O=>?_,?_,?_]
  ·rcases GH.mp (show x∈(e-l)::dh es ls from O) with rfl|O
   ·lia
   ·rwa[a1 x O]
  ·show(dh es ls).length+1=_;rw[a2]
   rfl
  ·show(l+(e-l))::bQ ls (dh es ls)=_;rw[a3,show l+(e-l)=e by lia]
theorem vU{P:Int}(hP:Fz P)(tok:vE P L n tb)(h:jN P L n B tb s)(hB:0<B)(hBl:B<2^1850)(b1:P≠0->B=1):yw L tb.length (hJ tb B s)/\Ee P (hJ tb B s):=by
 let#[hd,U,hp,hl,_]:=h;let#[e1,e2]:=gG U;have O:=tok.2 _ e2;let#[a1,a2,a3]:=ff (O.1.2.1.trans hd.1.2.1.symm) hl hd.1.2.2 O.1.2.2;erw[#[U,a2.trans hd.1.2.1,a1],λh0=>?_,λh0=>?_]
 ·show(B:Int)*(bo tb s.1).2.2.1≠0/\((B:Int)*(bo tb s.1).2.2.1).natAbs<2^6000;erw[Nv () O.2.2.2,?_]
  rw[Nj,K5];have h1:B*(bo tb s.1).2.2.1.natAbs<2^1850*2^60:=NJ hBl O.2.2.1.1;rw[<- Nat.pow_add] at h1;rwa[NA h1 (K8 #[] #[])]
 ·show((B:Int)*(bo tb s.1).2.2.1)%P≠0;let#[_,Y,Z]:=dF O.2.1 h0;rw[b1 h0,show((1:Nat):Int)=1 from rfl,Int.one_mul,L8 Y Z]
  rwa[O.2.2.2]
theorem DE{P:Int}(tok:vE P L n tb):∀{S:List (Nat×(Nat×ai))},(∀s∈S,jN P L n B tb s)->((S.map (·.2)).map kyx).Nodup->((S.map (hJ tb B)).map λx=>(x.1,x.2.1)).Nodup:=by
 intro S h nd
 induction S with
 |nil=>rwa[PU]
 |cons s S ih=>
  rw[K1,K1,nodup_cons] at nd ⊢;erw[λz=>nd.1 ?_,ih (λs hs=>h s (GG _ hs)) nd.2]
  let#[x,hx,e]:=GK.mp z;let#[s',O,1]:=GK.mp hx;have h1:=h s KQ;have h2:=h s' (GG _ O);have Z:s'.1=s.1:=Ls (λp:Nat×List Int=>p.1) e
  have ez:dh s'.2.2.1 (bo tb s'.1).2.1=dh s.2.2.1 (bo tb s.1).2.1:=Ls (λp:Nat×List Int=>p.2) e
  have t1:=tok.2 _ (gG h1.2.1).2;have t2:=tok.2 _ (gG h2.2.1).2;have a1:=(ff (t1.1.2.1.trans h1.1.1.2.1.symm) h1.2.2.2.1 h1.1.1.2.2 t1.1.2.2).2.2;have a2:=(ff (t2.1.2.1.trans h2.1.1.2.1.symm) h2.2.2.2.1 h2.1.1.2.2 t2.1.2.2).2.2;have U:s'.2.2.1=s.2.2.1:=by rw[<- a1,<- a2,ez,Z]
  have Y:s'.2.1=s.2.1:=by rw[<- h1.2.2.1,<- h2.2.2.1,Z]
  erw[GK.mpr #[s'.2,L0 O,?_]];show kyT s'.2.1 s'.2.2.1=kyT s.2.1 s.2.2.1;rw[Y,U]
def StR(tb:List (Nat×ai))(B:Nat)(H:Hp)(v:V)(s:Nat×(Nat×ai)):Prop:=∃a,v=.ref a/\H a=some (kY s.1 (dh s.2.2.1 (bo tb s.1).2.1) (aY B s.2) B)
def Ca(CF CR CG P0:Addr):Sp:=λvs H Q _=>∃(g xn c t st:Addr) (P:Int) (L n B:Nat) (ws us:List V) (tb:List (Nat×ai)) (S:List (Nat×(Nat×ai))),vs=[.ref g,.ref c,.ref t,.ref st]/\fE CG H g xn L/\FQ CF CR H xn P/\Fz P/\n<=60/\L<=4/\H t=some (.lst ws)/\Paired (FS P H) ws (tb.map (bN n))/\vE P L n tb/\H st=some (.lst us)/\Paired (StR tb B H) us S/\S.length<=30/\(∀s∈S,jN P L n B tb s)/\((S.map (·.2)).map kyx).Nodup/\0<B/\B<2^1850/\(P≠0->B=1)/\F0 H P0/\
 ∀(d:Addr) (es:List V) (out:List (List ai)) (ys:List (Nat×ai)) (H1 H':Hp),FE P0 H H1->H1 d=none->Fu H1 H'->F0 H' P0->H' d=some (.lst es)->Paired (FF H1 d P H') es out->out.length=tb.length->Paired (ku P) (S.map (hJ tb B)) ys->(∀(i:Nat) (e:List ai),out[i]? = some e->e.Perm (atP i ys)/\e.Pairwise lE)->Q (.ref d) H'
theorem lV(h:Top [x] y):y=x:=GF.mp h.1
theorem lL:∀(l:List Nat) (x:Nat×ai) (k:Nat),(∀j∈l,j≠x.1)->cF k (l.map λj=>if j=x.1 then[x.2] else[])=[]
 |[],_,_,_=>rfl
 |a::l,x,k,h=>by
  show jv k (if a=x.1 then[x.2] else[])++cF (k+1) (l.map λj=>if j=x.1 then[x.2] else[])=[]
  rw[t_ (h a KQ),lL l x (k+1) λj O=>h j (GG _ O)]
  rfl
theorem l6:∀(a b:List (List ai)) (k:Nat),cF k (a++b)=cF k a++cF (k+a.length) b
 |[],b,k=>rfl
 |x::a,b,k=>by
  show jv k x++cF (k+1) (a++b)=(jv k x++cF (k+1) a)++cF (k+(a.length+1)) b;rw[l6 a b (k+1),Mt,show k+1+a.length=k+(a.length+1) by lia]
theorem p5(h:x.1<n):cF 0 (bN n x)=[x]:=by
 have e:List.range n=List.range x.1++[x.1]++(List.range (n-x.1-1)).map (x.1+1 + ·):=by
  rw[<- range_succ,<- List.range_add];congr 1;lia
 have h1:=lL (List.range x.1) x 0 λj O=>by have:=ME.mp O;lia
 have h2:=λk=>lL ((List.range (n-x.1-1)).map (x.1+1 + ·)) x k λj O=>by let#[a,_,1]:=GK.mp O;lia
 unfold bN;rw[e,KB,KB,l6,l6,h1,h2,k_,Ng,Mg,nil_append];show jv (0+x.1) (if x.1=x.1 then[x.2] else[])++[]=[x]
 rw[u_ rfl,Nat.zero_add]
 rfl
theorem FM:Fv ["ring", "columns", "table", "steps", "over_rows", "terms", "number", "shift", "top", "bottom", "first"] ["ring", "columns", "table", "steps"] (am dQ):=.i
set_option maxHeartbeats 1000000 in
theorem yQ{CR:Addr}(F:Fun K "multiples_of" "multiples_of" dQ f fd)(T:Blt mg)(clF:Cls K CFr)(n3:Fx K CFr "offsets")(Jz:`MtB 1 CG "letters" (rZ CG))(Ib:`MtB 1 CG "numbers" (kD CG))(Hh:`FnB 5 "column_frame" (yx CFr))(Hd:`FnB 2 "top_and_bottom" (CM CF CR))(Ki:`sf 12 "lead" (rA P0 Hz))(Ip:`FnB 4 "row_of" (oX CF CR CG CFr)):
  aC P w K mg base CX0 13 f fd ["ring", "columns", "table", "steps"] (Ca CF CR CG P0):=by
 erw[F.o FM λ_ _ _ _ H _ Q _ hr h=>?_]
 ·let#[g,xn,c,t,st,P,L,n,B,ws,us,tb,S,1,#[dg,hg],hN,hP,c5,L4,ht,pw,tok,b3,pS,c3,ad,c6,B0,Bl,b1,hT,q]:=h;erw[_,(af (aq (i:=4) FM.nd rfl #[4] (ay Hh hr.m (aa (by exact(cu Jz hr.m (pv 0))) (aa (by exact(bU K T (pv 2))) ag))))
(af (aq (i:=5) FM.nd rfl #[4] (aQ ag))
(af (bi GM rfl (aL K rfl (pv 3)) (jd rfl (by rwa[ba (by exact(aO (i:=6) FM.nd rfl #[4])) (by rwa[ba (by exact(aO (i:=7) FM.nd rfl #[4])) (by rwa[ba (by exact(aO (i:=8) FM.nd rfl #[4])) (by rwa[ba (by exact(aO (i:=9) FM.nd rfl #[4])) gw])])])]))
(af (aq (i:=10) FM.nd rfl #[4] (ay Hd hr.m (aa (by exact(cu Ib hr.m (pv 0))) (aa (aG (aI K rfl) (yk Ki hr.m pA (aa (pv 1) (aa (aG (aF K rfl) (pv 2) (pv 6) (λ_ _=>rfl)) ag))) ak (λ_ _=>rfl)) ag))))
(aj (aZ (bmA K rfl (pv 5) (aa (by exact(aS (aa (by exact(ap aX (aG (aF K rfl) (aB K rfl (by exact(pv 4)) rfl) (pv 6) (λ_ _=>rfl)) (pv 7))) (aa (by exact(ap dE (pv 8) (aG (aI K rfl) (pv 10) ak (λ_ _=>rfl)))) (aa (by exact(ap dE (pv 9) (aG (aI K rfl) (pv 10) ak (λ_ _=>rfl)))) ag))))) ag))))))
(aj (ar (ay Ip hr.m (aa (pv 0) (aa (pv 4) (aa (pv 5) ag))))))))),?_]
  have lw:ws.length=tb.length:=by rw[Paired.length pw,k_]
  have lu:us.length=S.length:=Paired.length pS;have t5:=tok.1;have kp:∀{H':Hp} {c:Addr} {u:HO},FE P0 H H'->H c=some u->(∀ps,u≠.tbl ps)->H' c=some u:=λ{H' c u} k e nu=>by
   let#[ps,z,_]:=hT;rwa[k _ _ e (aw e z (nu ps))]
  erw[73326223,0,g,dg,0,hg,1,g,xn,L,1,#[dg,hg],0,t,0,.inl (SqL.of ht),L,tb.length,by rw[lw];rfl,L4,(),λfo oo po H1 s1 hf _ _ _=>?_]
  erw[Gw _,λtm a7=>?_]
  have s2:=s1.trans (Fu.new (o:=.lst []) a7);have bx:=hf.same (Fu.new (o:=.lst []) a7);erw[52,0,st,1,#[_,SqL.of (s2 _ _ b3)],cS (xs:=us) (λj σ H'=>∃(x6 x7 x8 x9 a8:Option V) (zs:List V),σ=[some (.ref g),some (.ref c),some (.ref t),some (.ref st),some (.ref fo),some (.ref tm),x6,x7,x8,x9,a8]/\FE P0 H H'/\F0 H' P0/\FH CFr H' fo oo po L tb.length/\H' tm=some (.lst zs)/\Paired (TmR H') zs (((S.take j).map (hJ tb B)).map tmk)) ?_ ?_ ?_ ?_]
  ·rwa[4025,none,none,none,none,none,[],1,FE.of s2,hT.same s2,bx,ae,.nil]
  ·rintro j σ H' _ ⟨x6,x7,x8,x9,a8,zs,rfl,Y,_⟩;rwa[SqL.of (kp Y b3 (by intro _ z;cases z))]
  ·rintro j v σ H3 hv ⟨x6,x7,x8,x9,a8,zs,rfl,Y,a6,a',Z,pz⟩ N0 C0 b';let#[U,a9,a,1,ha]:=aD pS hv;have jl:j<S.length:=(q_.mp a9).1;let#[hd,b2,cj,cb,ck]:=ad U (E_ a9);let#[e1,e2]:=gG b2;have hx:=tok.2 _ e2;have cm:zs.length<=30:=by rw[Paired.length pz,k_,k_,LK];lia
   obtain⟨wv,au⟩:∃wv,ws[U.1]? = some wv:=#[_,e_ ()]
   let#[row,er,r,es,1,c0,pe]:=aD pw au;rw[Ga,e1] at er;obtain rfl:bN n (bo tb U.1)=row:=G_ er;have b0:=kp Y hg (by intro _ z;cases z)
   erw[2321212122,a,0,SqT.of (kp Y ha (by intro _ z;cases z)),1,_,0,_,0,_,0,2,?_]
   have c2:∀{H':Hp},FE P0 H H'->∀{e:List ai} {v:V},FW P H v e->FW P H' v e:=λ{H'} k {e v} ⟨l,ts,h1,h2,h3⟩=>#[l,ts,h1,kp k h2 (by intro _ z;cases z),h3.mono λt xs e=>kp k e (by intro _ z;cases z)]
   erw[7332,0,g,dg,0,b0,1,g,xn,L,1,#[dg,b0],?_];erw[51844016,0,0,0,t,_,2,SqL.of (kp Y ht (by intro _ z;cases z)),bt au,c,r,P,es,bN n (bo tb U.1),1,kp Y c0 (by intro _ z;cases z),ao (λ_ _=>c2 Y) pe,by rw[dH];rwa[c5],a6,?_,?_]
   ·rw[p5 hx.1.1];intro z;cases z
   rw[p5 hx.1.1];rintro lv x H4 b6 ⟨lt,lk,c4,rfl,l1,l2,l3⟩ b8 bd;obtain rfl:=lV b6;have b9:FE P0 H H4:=FE.trans Y b8;have k3:∀{c:Addr} {u:HO},H3 c=some u->(∀ps,u≠.tbl ps)->H4 c=some u:=λ{c u} e nu=>by
    let#[ps,z,_]:=a6;rwa[b8 _ _ e (aw e z (nu ps))]
   erw[4443,lt,_,2,SqT.of l1,1,xn,P,c4,(bo tb U.1).2.2,1,hN.mono λo e=>?_,l3,λt5 H5 s5 b4=>?_]
   ·rcases hN with⟨_,dxn,z⟩|⟨_,dxn,z⟩<;>(rw[z] at e;cases e;rwa[kp b9 z (by intro _ z;cases z)])
   have O:=s5 _ _ (k3 Z (by intro _ z;cases z))
   have bz:FH CFr H4 fo oo po L tb.length:=by
    let#[#[df,mf,f1],f2,f3]:=a';rwa[#[20,df,mf,k3 f1 (by intro _ z;cases z)],k3 f2 (by intro _ z;cases z),k3 f3 (by intro _ z;cases z)]
   have ax:=bz.same s5;let#[#[df,mf,f1],f2,_]:=id ax;have cs:(2:Nat)^60<2^6000:=K8 #[] #[]
   have cr:(2:Nat)^2900<2^6000:=K8 #[] #[]
   have cp:(2:Nat)^1850<2^6000:=K8 #[] #[]
   have z1:=hx.2.2.1.1;have z2:=hx.2.2.1.2;erw[12958462,0,.inl #[1,_,SqL.of O],0,fo,CFr,df,_,0,f1,clF,n3,1,0,oo,_,2,SqL.of f2,bt (v:=.int (1048575-(U.1:Int))) (by rw[Ga,Ml b2];rfl),0,2,?_]
   erw[514423514424,0,0,t5,_,2,SqT.of b4,1,2,qw () (),0,0,t5,_,2,SqT.of b4,1,2,qw (by rw[K5];lia) (),by show 3<=sizeLine;decide,λtt ac=>?_]
   erw[34,tm,zs,0,1,Fu.new ac _ _ O,by rw[Gr];lia,?_]
   have tn:tt≠tm:=(ah O ac).symm;generalize g6:upd (upd H5 tt _) tm _=H6;have k6:∀c u,c≠tm->H5 c=some u->H6 c=some u:=λc u hc e=>by rw[<- g6,al hc];rwa[Fu.new ac _ _ e]
   have b5:H6 tm=some (.lst (zs++[.ref tt])):=by rw[<- g6];rwa[ae]
   have b7:H6 tt=some (.tup [.int (kyT U.1 (dh U.2.2.1 (bo tb U.1).2.1)),.int (aY B U.2*(bo tb U.1).2.2.2),.int ((B:Int)*(bo tb U.1).2.2.1)]):=by
    rw[<- g6,al tn,ae];have:(1048575-(U.1:Int))+pkN (dh U.2.2.1 (bo tb U.1).2.1)*1048576=kyT U.1 (dh U.2.2.1 (bo tb U.1).2.1):=by unfold kyT;lia
    show some (HO.tup [.int ((1048575-(U.1:Int))+pkN (dh U.2.2.1 (bo tb U.1).2.1)*1048576),_,_])=_;rw[this]
   clear g6;have c1:∀{c:Addr} {u:HO},H3 c=some u->(∀ps,u≠.tbl ps)->(∀xs,u≠.lst xs)->H6 c=some u:=λ{c u} e nu nl=>by
    have:=s5 _ _ (k3 e nu);rwa[k6 _ _ (aw this O (nl _)) this]
   have c9:∀{c:Addr} {u:HO},H c=some u->c≠tm:=λ{c u} e=>ah (s1 _ _ e) a7
   erw[b' _ _ #[4025,_,_,_,_,_,zs++[.ref tt],1,λc u e hc=>k6 _ _ (c9 e) (s5 _ _ (b9 c u e hc)),?_,?_,b5,?_]]
   ·have be:=bd.same s5;let#[ps,z1,z2,z3]:=be;erw[ps,k6 _ _ (aw z1 O #[3]) z1,z2,?_]
    rcases z3 with z|⟨c',z4,z5⟩
    ·rwa[.inl z]
    ·rwa[.inr #[c',z4,k6 _ _ (aw z5 O #[3]) z5]]
   ·let#[#[df,mf,f1],f2,f3]:=ax;have c7:oo≠tm:=by
     let#[_,z2,_]:=hf;rwa[ah z2 a7]
    rwa[#[20,df,mf,k6 _ _ (aw f1 O #[3]) f1],k6 _ _ c7 f2,k6 _ _ (aw f3 O #[3]) f3]
   ·have ex:((S.take (j+1)).map (hJ tb B)).map tmk=((S.take j).map (hJ tb B)).map tmk++[tmk (hJ tb B U)]:=by
     rw[Kw,a9];simp
    rw[ex];rwa[aK #[tt,1,b7] (ao (λ_ _ ⟨a,e,h⟩=>#[a,e,c1 h (by intro _ z;cases z) (by intro _ z;cases z)]) pz)]
  ·rintro σ H3 ⟨x6,x7,x8,x9,a8,zs,rfl,Y,a6,a',Z,pz⟩;rw[lu,KU] at pz;have mf:=λs hs=>vU hP tok (ad s hs) B0 Bl b1
   erw[5190402903,0,0,0,g,xn,fo,oo,po,tm,P,L,tb.length,zs,S.map (hJ tb B),1,#[dg,kp Y hg (by intro _ z;cases z)],hN.mono λo e=>?_,hP,a',Z,pz,by rw[k_];rwa[c3],(),L4,λx hx=>?_,DE tok ad c6,λd es out ys H4 nd s4 hd pe lo py c8=>q d es out ys H3 H4 Y nd s4 (a6.same s4) hd pe lo py c8]
   ·rcases hN with⟨_,dxn,z⟩|⟨_,dxn,z⟩<;>(rw[z] at e;cases e;rwa[kp Y z (by intro _ z;cases z)])
   ·let#[s,hs,1]:=GK.mp hx;rwa[mf s hs]
theorem gs{a b c d:Int}(hb:b≠0)(hd:d≠0)(e:a*d=c*b):nrm a b=nrm c d:=by
 have e1:=lF a b hb;have e2:=lF c d hd;have key:(nrm a b).1*(nrm c d).2=(nrm c d).1*(nrm a b).2:=by
  generalize nrm a b=x at *;generalize nrm c d=y at *;let#[Z,O]:=x;let#[n2,U]:=y;simp only at *;have Y:b*d≠0:=Nv hb hd;apply Int.eq_of_mul_eq_mul_right Y;have f1:Z*U*(b*d)=Z*b*(U*d):=by ac_rfl
  have f2:n2*O*(b*d)=n2*d*(O*b):=by ac_rfl
  have f3:a*O*(U*d)=a*d*(O*U):=by ac_rfl
  have f4:c*U*(O*b)=c*b*(O*U):=by ac_rfl
  rw[f1,e1,f2,e2,f3,f4,e]
 let#[p,q]:=BN (iM a b hb) (iM c d hd) (iS a b hb) (iS c d hd) key;rwa[NU p q]
theorem sV{P:Int}{x y z:Int×Int}(hP:0<=P)(hx:OkN P x)(hy:OkN P y)(hz:OkN P z):bu P (bu P x y) z=bu P x (bu P y z):=by
 by_cases h:P=0
 ·have os:=iO hP hx hy;have ot:=iO hP hy hz;have ds:=dD os.den hz.den;have dt:=dD hx.den ot.den;have Z:=lF (x.1*y.2+y.1*x.2) (x.2*y.2) (dD hx.den hy.den);have e2:=lF (y.1*z.2+z.1*y.2) (y.2*z.2) (dD hy.den hz.den);have hs:bu P x y=nrm (x.1*y.2+y.1*x.2) (x.2*y.2):=by unfold bu;rw[u_ h]
  have ht:bu P y z=nrm (y.1*z.2+z.1*y.2) (y.2*z.2):=by unfold bu;rw[u_ h]
  rw[<- hs] at Z;rw[<- ht] at e2;have r1:bu P (bu P x y) z=nrm ((bu P x y).1*z.2+z.1*(bu P x y).2) ((bu P x y).2*z.2):=by
   show(if P=0 then _ else _)=_
   rw[u_ h]
  have r2:bu P x (bu P y z)=nrm (x.1*(bu P y z).2+(bu P y z).1*x.2) (x.2*(bu P y z).2):=by
   show(if P=0 then _ else _)=_
   rw[u_ h]
  rw[r1,r2];have Y:y.2≠0:=by have:=hy.den;lia
  generalize bu P x y=s at *;generalize bu P y z=t at *;erw[gs ds dt ?_];let#[x1,O]:=x;let#[y1,U]:=y;let#[z1,z2]:=z;let#[s1,s2]:=s;let#[t1,t2]:=t;simp only at *;apply Int.eq_of_mul_eq_mul_right Y;rw[Pc,Pc,Pc,Pc];have f1:s1*z2*(O*t2)*U=s1*(O*U)*(z2*t2):=by ac_rfl
  have f2:t1*O*(s2*z2)*U=t1*(U*z2)*(O*s2):=by ac_rfl
  rw[f1,Z,f2,e2,Pc,Pc,Pc,Pc];have g1:x1*U*s2*(z2*t2)=x1*t2*(s2*z2)*U:=by ac_rfl
  have g2:y1*O*s2*(z2*t2)=y1*z2*t2*(O*s2):=by ac_rfl
  have g3:z1*s2*(O*t2)*U=z1*U*t2*(O*s2):=by ac_rfl
  rw[g1,g2,g3];lia
 ·unfold bu;rw[t_ h,t_ h,t_ h,t_ h];erw[NU ?_ rfl];show((x.1+y.1)%P+z.1)%P=(x.1+(y.1+z.1)%P)%P;rw[Int.emod_add_emod,Int.add_comm x.1 ((y.1+z.1)%P),Int.emod_add_emod];congr 1;lia
theorem qj(P:Int)(m:List ai)(q:ai)(k:List Int):co (bW P m q) k=if q.1=k then bu P (co m k) q.2 else co m k:=by
 unfold bW co
 split
 ·rename_i e;rw[<- e,rg]
  rfl
 ·rename_i e;rw[jD _ (λz=>e z.symm)]
theorem jn{P:Int}(hP:Fz P)(ha:∀p∈a,OkN P p.2)(k:List Int):OkN P (co (acc P a) k):=uU hP.b.1 hP.b.2.2 (fW hP.b.1 hP.b.2.2 ha) k
theorem D2{P:Int}(hP:Fz P){b:List ai}(ha:∀p∈a,OkN P p.2)(hb:∀p∈b,OkN P p.2)(k:List Int):co (acc P (a++b)) k=bu P (co (acc P a) k) (co (acc P b) k):=by
 have go:∀i,i<=b.length->co (acc P (a++b.take i)) k=bu P (co (acc P a) k) (co (acc P (b.take i)) k):=by
  intro i
  induction i with
  |zero=>
   intro _;rw[take_zero,Mg,show co (acc P []) k=(0,1) from rfl,fh (jn hP ha k)]
  |succ i O=>
   intro hi;obtain⟨q,eq⟩:∃q,b[i]? = some q:=#[_,e_ ()]
   have U:b.take (i+1)=b.take i++[q]:=by rw[Kw,eq];rfl
   have O:=O ()
   rw[U,<- Mt,kQ,kQ,qj,qj]
   split
   ·rw[O,sV hP.b.1 (jn hP ha k) (jn hP (λp Y=>hb p (Mp Y)) k) (hb q (E_ eq))]
   ·rwa[O]
 have:=go b.length (ge _);rw[KU] at this;rwa[this]
def tmx(B:Nat)(y:Nat×ai):Nat×ai:=(y.1,(y.2.1,(aY B y,(B:Int))))
theorem zP{P:Int}{m:Int×Int}(hB:0<B)(b1:P≠0->B=1)(o:OkN P y.2.2)(e:aY B y*y.2.2.2=y.2.2.1*B)(h:NmIs P (aY B y) B m):m=y.2.2:=by
 rcases h with⟨h0,rfl⟩|⟨h0,h1,h2,h3,h4⟩
 ·rcases o with⟨_,d0,g⟩|⟨z,_⟩
  ·rw[gs (c:=y.2.2.1) (d:=y.2.2.2) () () e]
   exact(fO _ _ d0).mpr g
  ·rwa[absurd h0 z]
 ·let#[O,e2,U]:=dF o h0;rw[b1 h0] at h4;rw[O,show((1:Nat):Int)=1 from rfl,Oy,L8 h1 h2,L8 e2 U] at h4
  rcases o with⟨z,_⟩|⟨_,_,_,d1⟩
  ·rwa[absurd z h0]
  ·rwa[NU h4 (h3.trans d1.symm)]
theorem B7{P:Int}(hB:0<B)(b1:P≠0->B=1):∀{R ys:List (Nat×ai)},(∀y∈R,OkN P y.2.2/\aY B y*y.2.2.2=y.2.2.1*B)->Paired (ku P) (R.map (tmx B)) ys->ys=R
 |[],_,_,.nil=>rfl
 |y::R,_,h,.cons (b:=z) ⟨e1,e2,e3⟩ t=>by
  rw[B7 hB b1 (λy U=>h y (GG _ U)) t]
  let#[o,e]:=h y KQ;have O:=zP hB b1 o e e3;have:z=y:=NU e1 (NU e2 O);rw[this]
structure mM (P:Int) (L n:Nat) (tb xs:List (Nat×ai)) (ms left:List (List ai)):Prop where
 ex:∃(S:List (Nat×(Nat×ai))) (R ys:List (Nat×ai)) (B:Nat),(S.map (·.2)++R).Perm xs/\0<B/\(P≠0->B=1)/\(∀s∈S,jN P L n B tb s/\aY B s.2*s.2.2.2.2=s.2.2.2.1*B)/\(∀y∈R,∀x∈tb,x.1=y.1->bD x.2.1 y.2.1=false)/\Paired (ku P) (S.map (hJ tb B)) ys/\(∀(i:Nat) (e:List ai),ms[i]? = some e->e.Perm (atP i ys)/\e.Pairwise lE)/\∀(i:Nat) (e:List ai),left[i]? = some e->e.Perm (atP i R)/\e.Pairwise lE
 lm:ms.length=tb.length
 ll:left.length=n
def Cf(CF CR CG CB CFr P0:Addr):Sp:=λvs H Q _=>∃(g xn c t b r f o pl a1 a2 a3 a4 a5:Addr) (P:Int) (L n:Nat) (ws es:List V) (tb:List (Nat×ai)) (row:List (List ai)),vs=[.ref g,.ref c,.ref t,.ref b,.ref r]/\fE CG H g xn L/\FQ CF CR H xn P/\Fz P/\n<=60/\L<=4/\H t=some (.lst ws)/\Paired (FS P H) ws (tb.map (bN n))/\vE P L n tb/\BsAt CB CFr H b f o pl a1 a2 a3 a4 a5 P L n (ja tb)/\H a5=some (.dK [])/\H r=some (.lst es)/\Paired (FW P H) es row/\row.length=n/\RwOk P L row/\(∀x∈aN 0 row,x.2.2.1≠0)/\(aN 0 row).length<=30/\F0 H P0/\
 ∀(rt d1 d2:Addr) (es1 es2:List V) (ms left:List (List ai)) (H':Hp),(∀c u,c≠P0->c≠a5->H c=some u->H' c=some u)->F0 H' P0->H' rt=some (.tup [.ref d1,.ref d2])->H' d1=some (.lst es1)->Paired (FF H d1 P H') es1 ms->H d1=none->H' d2=some (.lst es2)->Paired (FF H d2 P H') es2 left->H d2=none->d1≠d2->mM P L n tb (aN 0 row) ms left->Q (.ref rt) H'
def Am(CF CR CG P0:Addr):Sp:=λvs H Q _=>∃(g xn c t r:Addr) (P:Int) (L n:Nat) (cs ws es:List V) (tb:List (Nat×ai)) (row:List (List ai)),vs=[.ref g,.ref c,.ref t,.ref r]/\fE CG H g xn L/\FQ CF CR H xn P/\Fz P/\H c=some (.lst cs)/\cs.length=n/\n<=60/\L<=4/\H t=some (.lst ws)/\Paired (FS P H) ws (tb.map (bN n))/\vE P L n tb/\H r=some (.lst es)/\Paired (FW P H) es row/\row.length=n/\RwOk P L row/\(∀x∈aN 0 row,x.2.2.1≠0)/\(aN 0 row).length<=30/\F0 H P0/\
 ∀(rt d1 d2:Addr) (es1 es2:List V) (ms left:List (List ai)) (H':Hp),FE P0 H H'->F0 H' P0->H' rt=some (.tup [.ref d1,.ref d2])->H' d1=some (.lst es1)->Paired (FF H d1 P H') es1 ms->H d1=none->H' d2=some (.lst es2)->Paired (FF H d2 P H') es2 left->H d2=none->d1≠d2->mM P L n tb (aN 0 row) ms left->Q (.ref rt) H'
theorem xD:∀{us:List V} {S:List (Nat×(Nat×ai))},Paired (AC B (ja tb) H) us S->Paired (StR tb B H) us S/\∀s∈S,s.1<tb.length/\(bo tb s.1).1=s.2.1/\bD (bo tb s.1).2.1 s.2.2.1=true
 |_,_,.nil=>#[.nil,λs Y=>by cases Y]
 |_,_,.cons ⟨a,ls,e1,e2,e3,e4⟩ t=>by
  let#[i1,i2]:=xD t;rename_i u s us S;have U:s.1<tb.length:=by
   have:=(q_.mp e2).1;unfold ja at this;rw[k_] at this;rwa[this]
  let#[h1,h2]:=gG U;unfold ja at e2;rw[Ga,h1] at e2;have e2:=G_ e2;have Z:(bo tb s.1).1=s.2.1:=Ls (λp:Nat×List Int=>p.1) e2
  have p2:(bo tb s.1).2.1=ls:=Ls (λp:Nat×List Int=>p.2) e2
  rw[<- p2] at e3 e4;erw[.cons #[a,e1,e4] i1,λs' O=>?_]
  rcases GH.mp O with rfl|O
  ·rwa[U,Z,e3]
  ·rwa[i2 s' O]
theorem F0.keep(h5:H a5=some (.dK kn))(k:∀c u,c≠a5->H c=some u->H' c=some u)(h:F0 H P0):F0 H' P0:=by
 let#[ps,z1,z2,z3]:=h;erw[ps,k _ _ (aw z1 h5 #[3]) z1,z2,?_]
 rcases z3 with z|⟨O,z4,z5⟩
 ·rwa[.inl z]
 ·rwa[.inr #[O,z4,k _ _ (aw z5 h5 #[3]) z5]]
theorem sc_rest_by:Fv ["ring", "columns", "table", "basis", "row", "division"] ["ring", "columns", "table", "basis", "row"] (am jo):=.i
set_option maxHeartbeats 2000000 in
theorem wN{CR:Addr}(F:Fun K "rest_by" "rest_by" jo f fd)(clB:Cls K CB)(nb1:Fx K CB "frame")(clD:Cls K CD)(n6:Fx K CD "steps")(n7:Fx K CD "rest")(IY:`MkB 6 CD "Division" (xu CB CFr CD))(Hy:`FnB 4 "vector_of" (zH K CF CR CG CFr))(Ii:`FnB 13 "multiples_of" (Ca CF CR CG P0))(Ip:`FnB 4 "row_of" (oX CF CR CG CFr)):
  aC P w K mg base CX0 14 f fd ["ring", "columns", "table", "basis", "row"] (Cf CF CR CG CB CFr P0):=by
 erw[F.o sc_rest_by λ_ _ _ _ H _ Q _ hr h=>?_]
 ·let#[g,xn,c,t,b,r,f,o,pl,a1,a2,a3,a4,a5,P,L,n,ws,es,tb,row,1,#[dg,hg],hN,hP,ac,L4,ht,pw,tok,hb,h5,ck,pe,1,b3,nz,bd,hT,q]:=h;erw[_,(af (aq (i:=5) sc_rest_by.nd rfl #[4] (pc IY hr.m (aa (pv 3) (aa (by exact(ay Hy hr.m (aa (pv 0) (aa (aB K rfl (by exact(pv 3)) rfl) (aa (pv 4) ag))))) ag))))
(aj (ar (aS (aa (by exact(ay Ii hr.m (aa (pv 0) (aa (pv 1) (aa (pv 2) (aa (aB K rfl (by exact(pv 5)) rfl) ag)))))) (aa (by exact(ay Ip hr.m (aa (pv 0) (aa (aB K rfl (by exact(pv 3)) rfl) (aa (aB K rfl (by exact(pv 5)) rfl) ag))))) ag)))))),?_]
  let#[db,c7]:=hb.ob;have a9:=b3.pl;have U:∀x∈aN 0 row,DvT P L row.length x:=λx hx=>#[(a9 x hx).1,(a9 x hx).2.1,(a9 x hx).2.2,nz x hx]
  have bx:((aN 0 row).map kyx).Nodup:=zn ac (λx hx=>(a9 x hx).1) (oO row 0 λe he=>(b3 e he).1).1
  erw[519590401901,0,0,0,b,CB,db,_,0,c7,clB,nb1,1,0,g,xn,f,o,pl,r,P,L,es,row,1,#[dg,hg],hN,hb.fr,ck,pe,ac,L4,b3,bd,λv d ob B H1 s1 hv hd oB=>?_]
  have c8:=hb.same h5 s1;have b1:P≠0->B=1:=λh0=>oB.one λp hp=>by
   let#[z,hz,1]:=GK.mp hp
   rcases(a9 z hz).2.1 with⟨q0,_⟩|⟨_,_,_,q1⟩
   ·rwa[absurd q0 h0]
   ·rwa[q1]
  intro x dx nx dl eb;have k0:Fu H1 (upd (upd H1 dx (.own x)) x (.ins CD dx [])):=λc u e=>by
   rw[al (ah e nx),al (ah e dl)];rwa[e]
  erw[40404040401904,x,dx,b,f,o,pl,a1,a2,a3,a4,a5,v,d,ob,P,L,row.length,B,ja tb,aN 0 row,H1,1,ae,k0,nx,c8,s1 _ _ h5,hv,hd,hP,oB,bd,U,bx,λt' w' st rs e6 e8 S R H2 k2 au b' cm cj pS pR pm no=>#[1,?_]]
  let#[kn,au]:=au;have Z:∀c u,c≠a5->H c=some u->H2 c=some u:=λc u hc e=>k2 _ _ hc (s1 _ _ e)
  have c5:∀{c:Addr} {u:HO},H c=some u->(∀kvs,u≠.dK kvs)->H2 c=some u:=λ{c u} e nu=>Z _ _ (aw e h5 (nu _)) e
  have b8:=c5 hg (by intro _ z;cases z)
  have ax:FQ CF CR H2 xn P:=hN.mono λo e=>by
   rcases hN with⟨_,dxn,z⟩|⟨_,dxn,z⟩<;>(rw[z] at e;cases e;rwa[c5 z (by intro _ z;cases z)])
  have rS:∀{v row},FS P H v row->FS P H2 v row:=λ{v row} ⟨l,es,e1,e2,e3⟩=>#[l,es,e1,c5 e2 (by intro _ z;cases z),ao (λ_ _ ⟨l,ts,h1,h2,h3⟩=>#[l,ts,h1,c5 h2 (by intro _ z;cases z),h3.mono λt xs e=>c5 e (by intro _ z;cases z)]) e3]
  let#[dy,sS]:=xD pS;have a7:∀s∈S,s.2∈aN 0 row:=λs hs=>pm.mem_iff.mp (Mn _ (L0 hs))
  have a6:∀y∈R,y∈aN 0 row:=λy O=>pm.mem_iff.mp (KC _ O)
  have tn:∀y∈aN 0 row,aY B y*y.2.2.2=y.2.2.1*B/\(aY B y).natAbs<2^2900:=λy O=>by
   let#[_,oy,zy,ny]:=U y O;erw[(lS oB (L0 O) ny oy.den).2,?_];let#[k,hk]:=oB.dvd _ (L0 (f:=tmk) O);have hk:B=y.2.2.2.natAbs*k:=hk;have xd:=oy.den;have ef:(B:Int).fdiv y.2.2.2=k:=by
    rw[hk,N6,Nk ()]
    rwa[K4 _ ()]
   have kB:k<=B:=by rw[hk];rwa[Nz _ ()]
   unfold aY;rw[ef,Nj,K5];have h1:y.2.2.1.natAbs*k<2^60*2^1850:=NJ zy.1 (Li kB oB.lt);rw[<- Nat.pow_add] at h1;rwa[NA h1 (K8 #[] #[])]
  have c1:∀s∈S,jN P L row.length B tb s:=λs hs=>#[U _ (a7 s hs),(sS s hs).1,(sS s hs).2.1,(sS s hs).2.2,(tn _ (a7 s hs)).2]
  have de:=pm.length_eq;rw[y_,k_] at de;have a8:=(pm.map kyx).nodup_iff.mpr bx;rw[KB,OM] at a8;have b5:F0 H2 P0:=F0.keep h5 Z hT;erw[5111954040401909,0,0,0,0,x,CD,dx,_,0,b',clD,n6,1,g,xn,c,t,st,P,L,row.length,B,ws,e6,tb,S,1,#[dg,b8],ax,hP,ac,L4,c5 ht (by intro _ z;cases z),ao (λ_ _=>rS) pw,tok,cm,dy,(),c1,a8.1,oB.pos,oB.lt,b1,b5,λd1 c3 ms ys H3 H4 k3 dk s4 b0 b2 dz cs e4 bz=>?_]
  have kT:∀{c:Addr} {u:HO},H2 c=some u->(∀ps,u≠.tbl ps)->H4 c=some u:=λ{c u} e nu=>by
   let#[ps,z,_]:=b5;rwa[s4 _ _ (k3 _ _ e (aw e z (nu ps)))]
  have b7:BsAt CB CFr H2 b f o pl a1 a2 a3 a4 a5 P L row.length (ja tb):=hb.mono h5 Z;let#[c2,b6]:=b7.ob;let#[#[df,mf,f1],f2,f3]:=b7.fr;have c':FH CFr H4 f o pl L row.length:=#[#[20,df,mf,kT f1 (by intro _ z;cases z)],kT f2 (by intro _ z;cases z),kT f3 (by intro _ z;cases z)]
  have cb:=kT b8 (by intro _ z;cases z)
  erw[119595,0,0,b,CB,c2,_,0,kT b6 (by intro _ z;cases z),clB,nb1,1,0,x,CD,dx,_,0,kT b' (by intro _ z;cases z),clD,n7,1,?_]
  erw[40403903,g,xn,f,o,pl,rs,P,L,row.length,e8,R.map (tmx B),1,#[dg,cb],ax.mono λo e=>?_,hP,c',kT cj (by intro _ z;cases z),?_,by rw[k_];lia,ac,L4,λy O=>?_,?_,λd2 c4 left e' H5 be s5 c9 e0 cz e5 c0=>?_]
  ·rcases ax with⟨_,dxn,z⟩|⟨_,dxn,z⟩<;>(rw[z] at e;cases e;rwa[kT z (by intro _ z;cases z)])
  ·rw[MB];rwa[ao (λ_ _ ⟨a,e1,e2⟩=>#[a,e1,kT e2 (by intro _ z;cases z)]) pR]
  ·let#[z,hz,1]:=GK.mp O;have cr:=U z (a6 z hz);erw[cr.1,λh0=>?_,λh0=>?_]
   ·show(B:Int)≠0/\(B:Int).natAbs<2^6000;have:=oB.pos;have:=oB.lt;have ec:(2:Nat)^1850<2^6000:=K8 #[] #[]
    rw[K5];lia
   ·show(B:Int)%P≠0;have ea:=hP.b;rw[b1 h0,show((1:Nat):Int)=1 from rfl,L8 #[] ()]
    decide
  ·rw[MB];have:=a8.2.1;have h1:∀{l:List (Nat×ai)},(l.map kyx).Nodup->(l.map ((λx:Nat×ai=>(x.1,x.2.1)) ∘ tmx B)).Nodup:=λ{l} h=>by
    have e:l.map kyx=(l.map ((λx:Nat×ai=>(x.1,x.2.1)) ∘ tmx B)).map λp=>kyT p.1 p.2:=by rw[MB];rfl
    rw[e] at h;rwa[List.Pairwise.of_map _ (λa b c6 z=>c6 (by rw[z])) h]
   rwa[h1 this]
  have e2:=B7 oB.pos b1 (λy O=>#[(U y (a6 y O)).2.1,(tn y (a6 y O)).1]) e5
  subst e2;erw[by show 2<=sizeLine;decide,λrt dm=>?_]
  have s6:=Fu.new (o:=.tup [.ref d1,.ref d2]) dm;have b9:upd H5 rt (.tup [.ref d1,.ref d2]) rt=some _:=ae;generalize upd H5 rt (.tup [.ref d1,.ref d2])=H6 at s6 b9;have a':=s5.trans s6;have nP:∀{c:Addr} {u:HO},H4 c=some u->(∀ps,u≠.tbl ps)->c≠P0:=λ{c u} e nu=>by
   let#[ps,z,_]:=b0;rwa[aw e z (nu ps)]
  have ad:∀{c:Addr},H3 c=none->c≠P0->H c=none:=λ{c} e hc=>by
   cases z:H c with
   |none=>rfl
   |some u=>
    by_cases Y:c=a5
    ·rw[Y,k3 _ _ au (Y▸hc)] at e;cases e
    ·rw[k3 _ _ (Z _ _ Y z) hc] at e;cases e
  have b4:∀{c:Addr},H4 c=none->H c=none:=λ{c} e=>by
   have e3:=s4.free e;erw[ad e3 λz=>?_]
   let#[ps,z',_]:=b0;rw[z,z'] at e;cases e
  erw[q rt d1 d2 c3 c4 ms left H6 (λc u hc Y e=>a' _ _ (s4 _ _ (k3 _ _ (Z _ _ Y e) hc))) (b0.same a') b9 (a' _ _ b2) (ao (λv e ⟨l,ts,z1,z2,z3,z4,z5⟩=>#[l,ts,z1,ad z2 (nP z4 (by intro _ z;cases z)),z3,a' _ _ z4,z5.mono λt xs e=>a' _ _ e]) dz) (ad dk (nP b2 (by intro _ z;cases z))) (s6 _ _ c9) (ao (λv e ⟨l,ts,z1,z2,z3,z4,z5⟩=>#[l,ts,z1,b4 z2,z3,s6 _ _ z4,z5.mono λt xs e=>s6 _ _ e]) e0) (b4 be) (ah b2 be) #[#[S,e',ys,B,pm,oB.pos,b1,λs hs=>#[c1 s hs,(tn _ (a7 s hs)).1],λy O x hx cp=>no y O x.2.1 ?_,e4,bz,c0],cs,cz]]
  rw[<- cp];rwa[L0 (f:=λx:Nat×ai=>(x.1,x.2.1)) hx]
theorem Bi:Fv ["ring", "columns", "table", "row"] ["ring", "columns", "table", "row"] (am rL):=.i
theorem A7{CR:Addr}(F:Fun K "rest" "rest" rL f fd)(Iu:`FnB 6 "table_basis" (Cq CF CR CG CB CFr))(Jl:`FnB 14 "rest_by" (Cf CF CR CG CB CFr P0)):`aC CX0 15 f fd ["ring", "columns", "table", "row"] (Am CF CR CG P0):=by
 erw[F.o Bi λ_ _ _ _ H _ Q _ hr h=>?_]
 ·let#[g,xn,c,t,r,P,L,n,cs,ws,es,tb,row,1,#[dg,hg],hN,hP,hc,lc,O,L4,ht,pw,tok,a9,pe,lr,ac,nz,a',hT,q]:=h;erw[_,(aj (ar (ay Jl hr.m (aa (pv 0) (aa (pv 1) (aa (pv 2) (aa (by exact(ay Iu hr.m (aa (pv 0) (aa (pv 1) (aa (pv 2) ag))))) (aa (pv 3) ag)))))))),?_]
  erw[51511190401902,0,0,0,0,0,0,g,xn,c,t,P,L,n,cs,ws,tb,1,#[dg,hg],hN,hP,hc,lc,O,L4,ht,pw,tok,λb f o pl a1 a2 a3 a4 a5 H1 s1 hb h5 n5=>?_]
  have ek:∀{c:Addr} {u:HO},H c=some u->c≠a5:=λ{c u} e=>ah e n5
  erw[904040404909,0,g,xn,c,t,b,r,f,o,pl,a1,a2,a3,a4,a5,P,L,n,ws,es,tb,row,1,#[dg,s1 _ _ hg],hN.mono λo e=>s1 _ _ e,hP,O,L4,s1 _ _ ht,ao (λ_ _=>FS.same s1) pw,tok,hb,h5,s1 _ _ a9,ao (λ_ _=>FW.same s1) pe,lr,ac,nz,a',hT.same s1,λrt d1 d2 U Y ms left H' k Z a8 a6 p1 n1 a7 p2 n2 nd rr=>?_]
  rwa[q rt d1 d2 U Y ms left H' (λc u e hc=>k _ _ hc (ek e) (s1 _ _ e)) Z a8 a6 (ao (λv e ⟨l,ts,z1,z2,z3⟩=>#[l,ts,z1,s1.free z2,z3]) p1) (s1.free n1) a7 (ao (λv e ⟨l,ts,z1,z2,z3⟩=>#[l,ts,z1,s1.free z2,z3]) p2) (s1.free n2) nd rr]
theorem EE:(["_law_row"]:List Str).Nodup:=by decide +kernel
theorem Ei:(["_law_entry"]:List Str).Nodup:=by decide +kernel
theorem Fi:(["_law_place"]:List Str).Nodup:=by decide +kernel
def Fnd(P:Int)(H:Hp)(fs:List (Nat×ai))(v:V):Prop:=(fs=[]/\v=.non)\/∃x,Top fs x/\Ld3 P H v x
theorem Fnd.mono{P:Int}{fs:List (Nat×ai)}(k:∀t xs,H t=some (.tup xs)->H' t=some (.tup xs))(h:Fnd P H fs v):Fnd P H' fs v:=by
 rcases h with h|⟨x,t,l⟩
 ·rwa[.inl h]
 ·rwa[.inr #[x,t,l.mono k]]
def uX:Sp:=λvs H Q _=>∃(r:Addr) (P:Int) (es:List V) (row:List (List ai)),vs=[.ref r]/\H r=some (.lst es)/\Paired (FW P H) es row/\∀v H',Fu H H'->Fnd P H' (aN 0 row) v->Q v H'
theorem Az(y:Nat×ai):Top ([]++[y]) y:=#[by simp,λz O=>by
 have:z=y:=by simpa using O
 rw[this];rwa[jZ _]]
theorem DH{fs:List (Nat×ai)}(h:Top fs x)(t:tgt (ky y) (ky x)=true):Top (fs++[y]) y:=#[by simp,λz O=>by
 rcases KI.mp O with m|m
 ·cases q:tgt (ky z) (ky y) with
  |false=>rfl
  |true=>
   have:=mQ q t;rw[h.2 z m] at this;cases this
 ·rw[GF.mp m];rwa[jZ _]]
theorem yG{fs:List (Nat×ai)}(h:Top fs x)(t:tgt (ky y) (ky x)=false):Top (fs++[y]) x:=#[Mn _ h.1,λz O=>by
 rcases KI.mp O with m|m
 ·rwa[h.2 z m]
 ·rw[GF.mp m];rwa[t]]
theorem Ge:Fv ["_law_row", "_law_found", "_law_place", "_law_entry", "_law_product_here", "_law_number_here"] ["_law_row"] (am gk):=.i
theorem Ag(F:Fun K "_law_lead" "_law_lead" gk f fd)(T:Blt mg):`aC CX0 1 f fd ["_law_row"] uX:=by
 erw[F.o Ge λ_ _ _ _ H _ Q _ hr h=>?_]
 ·let#[r,P,es,row,1,a6,pr,q]:=h;erw[_,(af (aq (i:=1) Ge.nd rfl #[4] jg)
(af (bi GM rfl (gh K rfl rfl T.enum (aa (pv 0) ag)) (bc K (i:=2) (j:=3) rfl rfl Ge.nd rfl rfl rfl rfl)
(aj (bi GM rfl (aL K rfl (pv 3)) (bc K (i:=4) (j:=5) rfl rfl Ge.nd rfl rfl rfl rfl)
(aj (aT (PW.pt (qv (az yZ (pv 1) jg (aA _)) (kX (az (kgtK (K:=K) rfl hr) (aS (aa (pv 4) (aa (ap bE ak (pv 2)) ag))) (aS (aa (aG (aI K rfl) (pv 1) ak (λ_ _=>rfl)) (aa (ap bE ak (aG (aI K rfl) (pv 1) ak (λ_ _=>rfl))) ag))) (aA _)))))
(aj (aq (i:=1) Ge.nd rfl #[4] (aS (aa (pv 2) (aa (pv 4) (aa (pv 5) ag))))))
aE)))))
(aj (ar (pv 1))))),?_]
  erw[52,0,r,1,#[_,SqL.of a6],lU (xs:=es) (λj σ H'=>∃(U:V) (x2 x3 Z x5:Option V),σ=[some (.ref r),some U,x2,x3,Z,x5]/\Fu H H'/\Fnd P H' (aN 0 (row.take j)) U) #[4012,.non,none,none,none,none,1,Fu.refl H,.inl #[1,1]] ?_ ?_ ?_]
  ·rintro j σ H' _ ⟨U,x2,x3,Z,x5,rfl,sm,_⟩;rwa[SqL.of (sm _ _ a6)]
  ·rintro j x σ H1 pp hx ⟨U,x2,x3,Z,x5,rfl,s1,a7⟩ a';let#[e,ee,l,ts,1,hl,pe]:=aD pr hx;have jl:j<row.length:=(q_.mp ee).1;have s2:=Fu.new (o:=.tup [.int (j:Int),.ref l]) a';have h2:(upd H1 pp (.tup [.int (j:Int),.ref l])) pp=some (.tup [.int (j:Int),.ref l]):=ae;generalize upd H1 pp (.tup [.int (j:Int),.ref l])=H2 at *;have a8:Fnd P H2 (aN 0 (row.take j)) U:=a7.mono λt xs e=>s2 _ _ e
   erw[232122,pp,0,SqT.of h2,1,_,0,2,?_];have sA:=s1.trans s2;erw[52,0,l,1,#[_,SqL.of (sA _ _ hl)],eA (xs:=ts) (λi σ H'=>∃(U:V) (Z x5:Option V),σ=[some (.ref r),some U,some (.int (j:Int)),some (.ref l),Z,x5]/\Fu H H'/\Fnd P H' (aN 0 (row.take j)++(e.take i).map λq=>(j,q)) U) ?_ ?_ ?_ ?_]
   ·rwa[32,U,Z,x5,1,sA,by rw[take_zero,map_nil,Mg];rwa[a8]]
   ·rintro i σ H' _ ⟨U,Z,x5,rfl,sm,_⟩;rwa[SqL.of (sm _ _ hl)]
   ·rintro i x σ H3 hx ⟨U,Z,x5,rfl,Y,O⟩;let#[p,ep,t,k,u,1,g1,g2,g3]:=FA.at_ pe hx;have g1:=Y _ _ g1;have g2:=Y _ _ g2;have g3:=g3.mono λt xs e=>Y _ _ e
    have fe:(e.take (i+1)).map (λq=>(j,q))=(e.take i).map (λq=>(j,q))++[(j,p)]:=by
     rw[Kw,ep];show((e.take i)++[p]).map _=_;rw[KB]
     rfl
    erw[232122,t,0,SqT.of g1,1,_,0,2,?_];have new:∀H4,Fu H3 H4->∀t4,H4 t4=none->Ld3 P (upd H4 t4 (.tup [.int (j:Int),.ref k,u])) (.ref t4) (j,p):=λH4 s4 t4 n4=>by
     have s5:=s4.trans (Fu.new (o:=.tup [.int (j:Int),.ref k,u]) n4);rwa[33,t4,k,u,1,ae,s5 _ _ g2,g3.mono λt xs e=>s5 _ _ e]
    rcases O with⟨e0,rfl⟩|⟨y,ty,ly⟩
    ·erw[0,1,0,cZ (cZ #[5112,0,0,0,(by show 3<=sizeLine;decide),λt4 n4=>?_])]
     erw[32,_,_,0,Y.trans (Fu.new n4),.inr #[(j,p),?_,new H3 (Fu.refl _) t4 n4]];rw[fe,<- Mt,e0];rwa[Az _]
    ·have a9:=ly;let#[t5,k5,u5,1,y1,y2,y3]:=a9;erw[0,1,0,cG #[5123,0,0,2,(by show 2<=sizeLine;decide),λt6 n6=>?_]]
     have s6:=Fu.new (o:=.tup [.ref k,.int (0-(j:Int))]) n6;have h6:(upd H3 t6 (.tup [.ref k,.int (0-(j:Int))])) t6=some (.tup [.ref k,.int (-(j:Int))]):=by rw[ae,Int.zero_sub]
     generalize upd H3 t6 (.tup [.ref k,.int (0-(j:Int))])=H6 at *;erw[848423,0,t5,_,2,SqT.of (s6 _ _ y1),1,0,t5,_,2,SqT.of (s6 _ _ y1),1,2,(by show 2<=sizeLine;decide),λt7 n7=>?_]
     have s7:=Fu.new (o:=.tup [.ref k5,.int (0-(y.1:Int))]) n7;have h7:(upd H6 t7 (.tup [.ref k5,.int (0-(y.1:Int))])) t7=some (.tup [.ref k5,.int (-(y.1:Int))]):=by rw[ae,Int.zero_sub]
     generalize upd H6 t7 (.tup [.ref k5,.int (0-(y.1:Int))])=H7 at *;have sB:=s6.trans s7;erw[2211,ky (j,p),ky y,#[22,t6,k,1,SqT.of (s7 _ _ h6),SqT.of (sB _ _ g2)],#[22,t7,k5,1,SqT.of h7,SqT.of (sB _ _ y2)],0,?_];cases tq:tgt (ky (j,p)) (ky y) with
     |true=>
      erw[cZ #[5112,0,0,0,(by show 3<=sizeLine;decide),λt8 n8=>?_]]
      erw[32,_,_,0,(Y.trans sB).trans (Fu.new n8),.inr #[(j,p),?_,new H7 sB t8 n8]];rw[fe,<- Mt];rwa[DH ty tq]
     |false=>
      erw[cG #[32,_,_,0,Y.trans sB,.inr #[y,?_,ly.mono λt xs e=>sB _ _ e]]]
      rw[fe,<- Mt];rwa[yG ty tq]
   ·rintro σ H3 ⟨U,Z,x5,rfl,Y,O⟩;erw[4012,U,_,_,_,0,Y,?_];rw[Paired.length pe,KU] at O;rw[Kw,ee];show Fnd P H3 (aN 0 (row.take j++[e])) U;rw[i0,LK,show 0+min j row.length=j by lia]
    rwa[O]
  ·rintro σ H3 ⟨U,x2,x3,Z,x5,rfl,Y,O⟩;rw[Paired.length pr,KU] at O;rwa[0,q _ _ Y O]
def RowF(H0:Hp)(d:Addr)(P:Int)(H:Hp)(v:V)(row:List (List ai)):Prop:=∃r es,v=.ref r/\H0 r=none/\r≠d/\H r=some (.lst es)/\Paired (FF H0 d P H) es row
theorem RowF.keepA{P:Int}{row:List (List ai)}(hav:∀a∈av,a=d\/H0 a≠none)(k:FB av H H')(h:RowF H0 d P H v row):RowF H0 d P H' v row:=by
 let#[r,es,1,h0,O,U,Y]:=h;erw[24,r,es,1,h0,O,k.2 _ _ U λz=>?_,ao (λ_ _=>FF.keepA hav k) Y]
 rcases hav r z with e|e
 ·rwa[O e]
 ·rwa[e h0]
theorem RowF.row{P:Int}{row:List (List ai)}(h:RowF H0 d P H v row):FS P H v row:=by
 let#[r,es,1,_,_,O,U]:=h;rwa[22,r,es,1,O,ao (λ_ _=>FF.ent) U]
def qf:Sp:=λvs H Q _=>∃(t:Addr) (P:Int) (ws:List V) (rows:List (List (List ai))),vs=[.ref t]/\H t=some (.lst ws)/\Paired (FS P H) ws rows/\ws.length<=60/\(∀row∈rows,row.length<=60)/\
 ∀(d:Addr) (ws':List V) (H':Hp),H d=none->Fu H H'->H' d=some (.lst ws')->Paired (RowF H d P H') ws' rows->Q (.ref d) H'
theorem kF:Fv ["_law_table"] ["_law_table"] (am eK):=.i
theorem xa(F:Fun K "_law_copied" "_law_copied" eK f fd)(T:Blt mg):`aC CX0 1 f fd ["_law_table"] qf:=by
 erw[F.o kF λ_ _ _ _ H _ Q _ hr h=>?_]
 ·let#[t,P,ws,Y,1,ht,pw,hw,a9,q]:=h;have lw:ws.length=Y.length:=Paired.length pw;erw[_,(aj (ar (by rwa[bh (N:=["_law_row"]) (src:=[none]) rfl rfl rfl (by exact(aL K rfl (pv 0))) (λ_ _ _=>by rwa[by exact(cc (i:=0) EE rfl rfl),aV,by exact(by rwa[bh (N:=["_law_entry"]) (src:=[none]) rfl rfl rfl (by exact(aL K rfl (pv 0))) (λ_ _ _=>by rwa[by exact(cc (i:=0) Ei rfl rfl),aV,by exact(yb K T (pv 0))])])])]))),?_]
  erw[52,0,t,1,#[_,SqL.of ht],cY (n:=ws.length) (σ0:=[none]) rfl (λacc i zs σ H'=>∃u:Option V,σ=[u]/\Fu H H'/\Paired (RowF H acc P H') zs (Y.take i)) (by rw[Gr];lia) (λacc O=>#[none,1,Fu.new O,by rw[take_zero];rwa[.nil]]) ?_ ?_ ?_ ?_]
  ·rintro acc i zs σ H' O hi Z ⟨u,rfl,U,_⟩;rwa[21,ws,ws[i],SqL.of (U _ _ ht),by simp[hi]]
  ·rintro acc zs σ H' O Z ⟨u,rfl,U,_⟩;rwa[ws,SqL.of (U _ _ ht),ge _]
  ·rintro acc i zs σ H1 x H' O hi Z a' ⟨u,rfl,U,pz⟩ ⟨rfl,gx⟩;have hx:=gx ws (SqL.of (U _ _ ht));let#[row,er,r,es,1,a6,pe]:=aD pw hx;have ac:=a9 row (E_ er);have le:es.length=row.length:=Paired.length pe;erw[52,0,r,1,#[_,SqL.of (U _ _ a6)],A5 (row:=row) rfl (U _ _ a6) (ao (λ_ _ z=>z.same U) pe) () λr2 a8 H2 n2 s2 h2 p2=>?_]
   have a7:=s2 _ _ Z;have ra:r2≠acc:=(ah Z n2).symm;have k2:FB [acc] H2 (upd H2 acc (.lst (zs++[.ref r2]))):=FB.put a7 (by simp)
   erw[zs,a7,by rw[Gr];lia,_,ae,by rw[y_,GV];lia,0,(U.trans s2).put O,?_]
   rw[Kw,er];erw[aK #[24,r2,a8,1,U.free n2,ra,by rw[al ra];rwa[h2],ao (λv e z=>?_) p2] (ao (λ_ _=>RowF.keepA (av:=[acc]) (λa h=>.inl (by simpa using h)) ((FB.of s2).trans k2)) pz)]
   let#[l,ts,1,nl,_,hl,pl]:=z;have la:l≠acc:=(ah Z nl).symm;rwa[24,l,ts,1,U.free nl,la,by rw[al la];rwa[hl],pl.mono k2.1]
  ·rintro acc zs σ H1 O Z a' ⟨u,rfl,U,pz⟩;rw[lw,KU] at pz;rwa[q acc zs H1 O U Z pz]
theorem FA.app{P:Int}{bs:List V}(h2:FA P H bs qs):∀{vs:List V} {ps:List ai},FA P H vs ps->FA P H (vs++bs) (ps++qs)
 |_,_,.nil=>h2
 |_,_,.cons q r=>.cons q (FA.app h2 r)
def pat(P:Int)(i:Nat)(rows:List (List (List ai)))(ms:List (List ai)):List ai:=(rows.zip ms).flatMap λq=>cg P (q.1.getD i []) q.2
theorem pP(P:Int)(i:Nat)(rows:List (List (List ai)))(ms:List (List ai))(r:List (List ai))(m:List ai)(h:rows.length=ms.length):pat P i (rows++[r]) (ms++[m])=pat P i rows ms++cg P (r.getD i []) m:=by
 unfold pat;rw[List.zip_append h,List.flatMap_append];simp
def CS(P L:Int)(many:Nat)(rows:List (List (List ai)))(ms:List (List ai)):Prop:=rows.length=ms.length/\rows.length<=5/\(∀row∈rows,row.length=many/\∀e∈row,FL P L 60 e/\e.length<=1)/\∀m∈ms,FL P L 120 m/\m.length<=3
theorem Cc{P L:Int}(c:FL P L z ps):∀p∈ps,p.1.length=L.toNat:=λp O=>by have:=(c.2 p O).2.2.2.1;lia
theorem f9{P L:Int}(hP:Fz P){y:Nat}(hy:14<=y){b:List ai}(ca:FL P L y a)(cb:FL P L z b):∀q∈cg P a b,OkN P q.2/\Sz (y+z+1) q.2/\(q.1.length:Int)=L/\(∀e∈q.1,0<=e)/\∃u∈a,∃v∈b,q.1.sum=u.1.sum+v.1.sum:=λq hq=>by
 have O:=hP.b;let#[u,U,mv]:=List.mem_flatMap.mp hq;let#[v,Y,1]:=GK.mp mv;let#[Z,su,_,lu,nu]:=ca.2 u U;let#[ov,sv,_,lv,nv]:=cb.2 v Y;have l:u.1.length=v.1.length:=()
 erw[0451,Bo O.1 Z ov,(gB O.1 O.2.1 Z ov su sv hy).2.2,?_,ul nu nv,u,U,v,Y,jp l];show((bQ u.1 v.1).length:Int)=L;rw[Ak l];rwa[lv]
theorem mD{P L:Int}(hP:Fz P){y:Nat}(hy:14<=y){b:List ai}(ca:FL P L y a)(cb:FL P L z b)(hb:b.length<=n)(h1:y+z+1<=2900)(h2:(y+z+2)*n<=2900):iG P (cg P a b)/\∀out,F3 P (cg P a b) out->FL P L ((y+z+2)*n) out/\out.length<=a.length*b.length/\∀q∈out,∃u∈a,∃v∈b,q.1.sum=u.1.sum+v.1.sum:=by
 have f:=f9 hP hy ca cb;have c:∀k,cnt k (cg P a b)<=n:=λk=>Lg (vn P k ca.nodup (Cc ca) (Cc cb)) hb
 erw[AQ hP (S:=y+z+1) () (λq O=>#[(f q O).1,(f q O).2.1]) c h1 h2,λout is=>?_]
 let#[Y,U,Z]:=Ay hP (S:=y+z+1) () (λq O=>#[(f q O).1,(f q O).2.1,(f q O).2.2.1,(f q O).2.2.2.1]) c is
 rw[jr] at U;erw[Y,U,λq O=>?_]
 let#[r,hr,e]:=Z q O;rw[<- e];exact(f r hr).2.2.2.2
def tQ(P L:Int)(i j:Nat)(rows:List (List (List ai)))(ms:List (List ai))(e:List ai):Prop:=FL P L (14+547*j) e/\e.length<=3*j/\∀k,co e k=co (acc P (pat P i (rows.take j) (ms.take j))) k
theorem zW{P L:Int}(hP:Fz P){many i j:Nat}{rows:List (List (List ai))}(mc:CS P L many rows ms)(hi:i<many){row:List (List ai)}{m s:List ai}(er:rows[j]? = some row)(ea:row[i]? = some a)(em:ms[j]? = some m)(he:tQ P L i j rows ms e)(hs:F3 P (cg P a m) s):
  e.length+s.length<=60/\iG P (e++s)/\∀out,F3 P (e++s) out->tQ P L i (j+1) rows ms out:=by
 let#[a9,l5,a7,a6]:=id mc;have hB:=hP.b;have hj:j<rows.length:=(q_.mp er).1;let#[ca,la]:=(a7 row (E_ er)).2 a (E_ ea);let#[cm,lm]:=a6 m (E_ em);let#[U,l1,a8]:=he;let#[O,ls,_]:=(mD hP (n:=3) #[] ca cm lm #[] #[]).2 s hs
 have ac:s.length<=3:=Lg ls (Nat.mul_le_mul la lm);have O:FL P L 546 s:=O;erw[(),nJ hP U.nodup O.nodup (λq Y=>#[(U.2 q Y).1,(U.2 q Y).2.1]) (λq Y=>#[(O.2 q Y).1,(O.2 q Y).2.1]) () () () () (λk u v hu hv=>(gB hB.1 hB.2.1 (U.2 _ hu).1 (O.2 _ hv).1 (U.2 _ hu).2.1 (O.2 _ hv).2.1 ()).1.mono ()),λout is=>?_]
 let#[c2,l2]:=wW hP U O () is
 have a':∀p∈cg P a m,OkN P p.2:=λp hp=>(f9 hP (y:=60) #[] ca cm p hp).1
 have Z:∀p∈pat P i (rows.take j) (ms.take j),OkN P p.2:=λp hp=>by
  let#[q,Y,hp]:=List.mem_flatMap.mp hp;let#[h1,h2]:=of_mem_zip (show(q.1,q.2)∈_ from Y)
  let#[lr,cr]:=a7 q.1 (Mp h1);have hg:q.1.getD i []=q.1[i]:=by rw[Gc,e_ ()];rfl
  rw[hg] at hp;exact(f9 hP (y:=60) #[] (cr _ (PR _)).1 (a6 q.2 (Mp h2)).1 p hp).1
 erw[by rw[show 14+547*(j+1)=14+547*j+546+1 by lia];rwa[c2],(),λk=>?_]
 rw[is.co,oW hB.1 hB.2.2 U.nodup O.nodup U.ok O.ok,a8,hs.co,Kw,Kw,er,em,show(some row).toList=[row] from rfl,show(some m).toList=[m] from rfl,pP _ _ _ _ _ _ (by rw[LK,LK,a9]),Gc,ea]
 exact(D2 hP Z a' k).symm
def tY:Sp:=λvs H Q _=>∃(rw mu:Addr) (P L:Int) (many:Nat) (ws us:List V) (rows:List (List (List ai))) (ms:List (List ai)),vs=[.int P,.int (many:Int),.ref rw,.ref mu]/\Fz P/\L<=4/\H rw=some (.lst ws)/\Paired (FS P H) ws rows/\H mu=some (.lst us)/\Paired (FW P H) us ms/\CS P L many rows ms/\many<=60/\
 ∀(d:Addr) (es:List V) (out:List (List ai)) (H':Hp),H d=none->Fu H H'->H' d=some (.lst es)->Paired (FF H d P H') es out->out.length=many->(∀(i:Nat) (e:List ai),out[i]? = some e->tQ P L i rows.length rows ms e)->Q (.ref d) H'
theorem Gj:Fv ["_law_prime_here", "_law_many", "_law_rows", "_law_multiples", "_law_found", "_law_row", "_law_one", "_law_place"] ["_law_prime_here", "_law_many", "_law_rows", "_law_multiples"] (am fH):=.i
set_option maxHeartbeats 4000000 in
theorem yf(F:Fun K "_law_mixed" "_law_mixed" fH f fd)(T:Blt mg)(Hc:`FnB 4 "_law_sum" lG)(HM:`FnB 5 "_law_sum_times" qU):`aC CX0 6 f fd ["_law_prime_here", "_law_many", "_law_rows", "_law_multiples"] tY:=by
 erw[F.o Gj λ_ _ _ _ H _ Q _ hr h=>?_]
 ·let#[rw,mu,P,L,O,ws,us,a6,ms,1,hP,L4,b',c1,b9,bz,mc,c7,q]:=h;let#[ec,l5,dk,df]:=id mc;have lw:ws.length=a6.length:=Paired.length c1;have lu:us.length=ms.length:=Paired.length bz;erw[_,(af (fF (i:=4) Gj.nd rfl #[4] (N:=["_law_place"]) (src:=[none]) rfl rfl rfl (by exact(bj rfl T.range (aa (pv 1) ag))) (λ_ _ _=>by rwa[by exact(cc (i:=0) Fi rfl rfl),aV,by exact(aQ ag)]))
(af (bi GM rfl (iz K false false rfl rfl T.zip (aa (pv 2) (aa (pv 3) ag))) (bc K (i:=5) (j:=6) rfl rfl Gj.nd rfl rfl rfl rfl)
(aj (bi GM rfl (bj rfl T.range (aa (pv 1) ag)) (aO (i:=7) Gj.nd rfl #[4])
(aj (fz (ay Hc hr.m (aa (pv 0) (aa (ap pJ (aG (aF K rfl) (pv 4) (pv 7) (λ_ _=>rfl)) (ay HM hr.m (aa (pv 0) (aa (aG (aF K rfl) (pv 5) (pv 7) (λ_ _=>rfl)) (aa (pv 6) ag))))) ag))) (f6 (pv 4) (pv 7) da))))))
(aj (ar (pv 4))))),?_]
  erw[53,0,(O:Int),1,(),(),nI (n:=O) (P:=P) (rest:=[]) rfl (λi e=>e=[]) c7 (λi H1 R hi sm k=>#[Gw _,λl nl=>k l [] [] _ (Fu.new nl) nl ae .nil rfl]) λd c6 c3 H0 nd b5 c' dy de c2=>?_]
  erw[5123,0,0,rw,mu,1,#[_,dC (SqL.of (b5 _ _ b'))],#[_,dC (SqL.of (b5 _ _ b9))],xB (xs:=ws) (ys:=us) (λj σ H'=>∃(x5 x6 x7:Option V) (es:List V) (out:List (List ai)),σ=[some (.int P),some (.int (O:Int)),some (.ref rw),some (.ref mu),some (.ref d),x5,x6,x7]/\Fu H H'/\H' d=some (.lst es)/\Paired (FF H d P H') es out/\out.length=O/\∀(i:Nat) (e:List ai),out[i]? = some e->tQ P L i j a6 ms e) ?_ ?_ ?_ ?_]
  ·erw[4015,none,none,none,c6,c3,1,b5,c',dy,de,λi e ei=>?_]
   rw[c2 i e ei];rwa[#[.nil,λp hp=>by cases hp],Gw _,λk=>rfl]
  ·rintro j σ H' _ ⟨x5,x6,x7,es,out,rfl,sm,_⟩;rwa[dC (SqL.of (sm _ _ b')),dC (SqL.of (sm _ _ b9))]
  ·rintro j v y σ H1 p hx hy ⟨x5,x6,x7,es,out,rfl,sm,b0,b3,b1,a8⟩ np N0 B0 c8;let#[row,au,r,er,1,cp,pe]:=aD c1 hx;let#[m,em,l,ts,1,hl,pm]:=aD bz hy;let#[lr,cr]:=dk row (E_ au);let#[cm,lm]:=df m (E_ em);have le:er.length=row.length:=Paired.length pe;have s2:=Fu.new (o:=.tup [.ref r,.ref l]) np;have h2:(upd H1 p (.tup [.ref r,.ref l])) p=some (.tup [.ref r,.ref l]):=ae;have dz:Paired (FF H d P (upd H1 p (.tup [.ref r,.ref l]))) es out:=ao (λ_ _=>FF.keepA (av:=[]) (λa h=>by cases h) (FB.of s2)) b3
   generalize upd H1 p (.tup [.ref r,.ref l])=H2 at *;have e3:=sm.trans s2;have cb:=s2 _ _ b0;erw[232122,p,0,SqT.of h2,1,_,0,2,?_];erw[53,0,(O:Int),1,(),(),dX (n:=O) (λi σ H'=>∃(x7:Option V) (es:List V) (out:List (List ai)),σ=[some (.int P),some (.int (O:Int)),some (.ref rw),some (.ref mu),some (.ref d),some (.ref r),some (.ref l),x7]/\Fu H H'/\H' d=some (.lst es)/\Paired (FF H d P H') es out/\out.length=O/\∀(t:Nat) (e:List ai),out[t]? = some e->if t<i then tQ P L t (j+1) a6 ms e else tQ P L t j a6 ms e) ?_ ?_ ?_]
   ·rwa[35,x7,es,out,1,e3,cb,dz,b1,λt e h=>by rw[t_ ()];rwa[a8 t e h]]
   ·rintro i σ H3 hi ⟨y7,Y,Z,rfl,U,ac,ad,b2,a9⟩ N1 B1 c9;have eb:Y.length=Z.length:=Paired.length ad;obtain⟨v0,ev⟩:∃v0,er[i]? = some v0:=#[_,e_ ()]
    let#[a,ea,la,e6,1,ha,pa]:=aD pe ev;obtain⟨v1,b7⟩:∃v1,Y[i]? = some v1:=#[_,e_ ()]
    let#[e,ee,lb,tb,1,nb,bd,hb,pb]:=aD ad b7;have re:=a9 i e ee;rw[t_ (Lk _)] at re;let#[ca,l3]:=cr a (E_ ea);have e0:=(mD hP (n:=3) #[] ca cm lm #[] #[]).1
    have e8:a.length*m.length<=1*3:=Nat.mul_le_mul l3 lm;erw[5184,0,0,0,d,Y,2,SqL.of ac,by rw[Pr];rwa[bt b7],?_]
    erw[5184902901,0,0,0,r,er,2,SqL.of (U _ _ cp),by rw[Pr];rwa[bt ev],0,la,l,P,e6,ts,a,m,1,hP,U _ _ ha,pa.mono λt xs e=>U _ _ e,U _ _ hl,pm.mono λt xs e=>U _ _ e,(),λp hp=>#[(ca.2 p hp).1,(ca.2 p hp).2.1.mono #[],by have:=(ca.2 p hp).2.2.2.1;lia],λp hp=>#[(cm.2 p hp).1,(cm.2 p hp).2.1.mono #[]],e0,λd4 a7 s4 H4 nd4 c4 cj c0 cs=>?_]
    let#[be,e5,b8]:=zW hP mc () au ea em re cs
    have lt:tb.length=e.length:=Paired.length pb;have ed:a7.length=s4.length:=Paired.length c0;erw[45,lb,d4,tb,a7,1,1,c4 _ _ hb,cj,by rw[Gr];lia,λc5 n5=>?_]
    have s5:=Fu.new (o:=.lst (tb++a7)) n5;have h5:(upd H4 c5 (.lst (tb++a7))) c5=some (.lst (tb++a7)):=ae;have dl:FA P (upd H4 c5 (.lst (tb++a7))) a7 s4:=c0.mono λt xs e=>s5 _ _ e
    generalize upd H4 c5 (.lst (tb++a7))=H5 at *;have a':=c4.trans s5;erw[46,c5,P,_,e++s4,1,hP,h5,FA.app dl (pb.mono λt xs e=>a' _ _ e),by rw[y_];rwa[be],e5,λd6 e1 o6 H6 bx e4 ck dm cz=>?_]
    have b4:=a'.trans e4;have ax:=b4 _ _ ac;erw[5144,0,0,d,Y,_,i,1,1,ax,by rw[Pr];rwa[fC ()],?_]
    have b6:d6≠d:=(ah (a' _ _ ac) bx).symm;have kb:FB [d] H6 (upd H6 d (.lst (Y.set i (.ref d6)))):=FB.put ax (by simp)
    erw[c9 _ _ #[35,_,Y.set i (.ref d6),Z.set i o6,1,λc o e'=>by rw[al (ah e' nd)];rwa[b4 _ _ (U _ _ e')],ae,jC #[24,d6,e1,1,(U.trans a').free bx,b6,by rw[al b6];rwa[ck],dm.mono kb.1] i (ao (λ_ _=>FF.keepA (av:=[d]) (λa h=>.inl (by simpa using h)) ((FB.of b4).trans kb)) ad),by rw[length_set];rwa[b2],λt e' h=>?_]]
    by_cases ti:t=i
    ·subst ti;rw[getElem?_set_self ()] at h
     cases h;rw[u_ ()]
     rwa[b8 _ cz]
    ·rw[getElem?_set_ne (λz=>ti z.symm)] at h
     have z:=a9 t e' h
     by_cases t2:t<i
     ·rw[u_ t2] at z;rw[u_ ()]
      rwa[z]
     ·rw[t_ t2] at z;rw[t_ ()]
      rwa[z]
   ·rintro σ H3 ⟨y7,Y,Z,rfl,U,ac,ad,b2,a9⟩;erw[c8 _ _ #[4015,_,_,_,Y,Z,1,U,ac,ad,b2,λt e h=>?_]]
    have z:=a9 t e h;have tl:t<Z.length:=(q_.mp h).1;rw[u_ ()] at z
    rwa[z]
  ·rintro σ H1 ⟨x5,x6,x7,es,out,rfl,sm,b0,b3,b1,a8⟩;rw[show min ws.length us.length=a6.length by lia] at a8
   rwa[0,q d es out H1 nd sm b0 b3 b1 a8]
theorem Fd:(["_law_place", "_law_product_here", "_law_number_here", "_law_at"]:List Str).Nodup:=by decide +kernel
theorem Ep:(["_law_part", "_law_place", "_law_at"]:List Str).Nodup:=by decide +kernel
def PtOk(P:Int)(L n:Nat)(x:Nat×ai):Prop:=x.1<n/\x.2.1.length=L/\(∀e∈x.2.1,0<=e)/\x.2.1.sum<=4/\OkN P x.2.2/\Sz 14 x.2.2/\x.2.2≠(0,1)
theorem pL:∀{es:List Int},(∀e∈es,0<=e)->∀e∈es,e<=es.sum
 |a::r,h,e,O=>by
  have h0:=h a KQ;have U:0<=r.sum:=by
   have:∀l:List Int,(∀e∈l,0<=e)->0<=l.sum:=by
    intro l
    induction l with
    |nil=>intro _;rwa[Int.le_refl _]
    |cons b l ih=>
     intro h;rw[sum_cons];have:=ih λe O=>h e (GG _ O)
     have:=h b KQ;lia
   rwa[this r λe O=>h e (GG _ O)]
  rw[sum_cons]
  rcases GH.mp O with rfl|O
  ·lia
  ·have:=pL (λe O=>h e (GG _ O)) e O
   lia
theorem xM{P:Int}{x:Int×Int}(o:OkN P x)(h:x≠(0,1)):x.1≠0:=λz=>h (by
 rcases o with⟨_,d,g⟩|⟨_,_,_,d⟩
 ·rw[z,Int.gcd_zero_left] at g;rwa[NU z (by show x.2=1;lia)]
 ·rwa[NU z d])
theorem PtOk.dv{P:Int}(h:PtOk P L n x):DvT P L n x:=by
 let#[h1,h2,h3,h4,O,Y,Z]:=h;rwa[#[h1,h2,λe U=>#[h3 e U,by have:=pL h3 e U;lia]],O,Y.mono #[],xM O Z]
def Fe(K:Frag):Sp:=λvs H Q _=>∃(s c:Addr) (ns:List Int) (P:Int) (L:Nat) (cs:List Int),vs=[.ref s,.int P,.int L,.ref c]/\SqL K H s (ns.map V.int)/\ns.length<=63/\Fz P/\1<=L/\L<=4/\H c=some (.lst (cs.map V.int))/\1<=cs.length/\cs.length<=3/\
 ∀(r:Addr) (zs:List V) (tb:List (Nat×ai)) (H':Hp),Fu H H'->H' r=some (.lst zs)->Paired (FS P H') zs (tb.map (bN cs.length))->tb.length<=5->(∀x∈tb,PtOk P L cs.length x)->Q (.ref r) H'
theorem FG:Fv ["_law_script", "_law_prime_here", "_law_letters", "_law_columns_here", "_law_rows", "_law_bag_here", "_law_k", "_law_at", "_law_number_here", "_law_product_here"] ["_law_script", "_law_prime_here", "_law_letters", "_law_columns_here"] (am ce):=.i
set_option maxHeartbeats 2000000 in
theorem vj(F:Fun K "_law_parts_table" "_law_parts_table" ce f fd)(T:Blt mg)(Hv:`FnB 2 "_law_bag" (yh K))(GY:`FnB 1 "_law_take" eM)(Hk:`FnB 4 "_law_number" jh)(Hf:`FnB 1 "_law_nought" lN)(IQ:`FnB 1 "_law_unit" zC)(Hg:`FnB 2 "_law_product" sD):
  aC P w K mg base CX0 5 f fd ["_law_script", "_law_prime_here", "_law_letters", "_law_columns_here"] (Fe K):=by
 erw[F.o FG λ_ _ _ _ H _ Q _ hr h=>?_]
 ·let#[s,c,ns,P,L,cs,1,hS,c8,hP,L1,L4,U,c1,c3,q]:=h;erw[_,(af (aq (i:=4) FG.nd rfl #[4] (aQ ag))
(af (aq (i:=5) FG.nd rfl #[4] (ay Hv hr.m (aa (pv 0) (aa ak ag))))
(af (bi GM rfl (bj rfl T.range (aa (ay GY hr.m (aa (pv 5) (aa ak ag))) ag)) (aO (i:=6) FG.nd rfl #[4])
(af (aq (i:=7) FG.nd rfl (Or.inr rfl) (ay GY hr.m (aa (pv 5) (aa (bU K T (pv 3)) ag))))
(af (aq (i:=8) FG.nd rfl (Or.inr rfl) (ay Hk hr.m (aa (pv 1) (aa (pv 5) (aa gK ag)))))
(af (aT (az (EM K rfl hr.units) (pv 8) (ay Hf hr.m (aa (pv 1) ag)) (aA _))
(aj (aq (i:=8) FG.nd rfl (Or.inr rfl) (ay IQ hr.m (aa (pv 1) ag))))
aE)
(af (aq (i:=9) FG.nd rfl (Or.inr rfl) (ay Hg hr.m (aa (pv 2) (aa (ay GY hr.m (aa (pv 5) (aa ak ag))) (aa (pv 5) ag)))))
(aj (aZ (bmA K rfl (pv 4) (aa (by rwa[qe (N:=["_law_place", "_law_product_here", "_law_number_here", "_law_at"]) (src:=[none,some 9,some 8,some 7]) rfl rfl rfl (by exact(bj rfl T.range (aa (bU K T (pv 3)) ag))) (λ_ _ _=>by rwa[by exact(aO (i:=0) Fd rfl (Or.inr rfl)),aV,by exact(by rwa[bh (N:=["_law_part", "_law_place", "_law_at"]) (src:=[none,some 0,some 3]) rfl rfl rfl (by exact(aL K rfl (aQ (aa (aS (aa (pv 1) (aa (pv 2) ag))) ag)))) (λ_ _ _=>by rwa[by exact(cc (i:=0) Ep rfl rfl),(gr (az dJ (pv 1) (pv 2) (aA _))),by exact(pv 0)])])])]) ag)))))))))
(aj (ar (pv 4)))))),?_]
  erw[Gw _,λr nr=>?_]
  have s1:=Fu.new (o:=.lst []) nr;have b':upd H r (.lst []) r=some (.lst []):=ae;generalize upd H r (.lst [])=H1 at s1 b';erw[75,0,s,ns,(2),1,s1.seq hS,c8,#[],#[],λp a b np hb=>?_]
  have s2:=Fu.new (o:=.lst [.int a,.int b]) np;have c9:upd H1 p (.lst [.int a,.int b]) p=some (.lst [.int a,.int b]):=ae;generalize upd H1 p (.lst [.int a,.int b])=H2 at s2 c9;have pr:p≠r:=(ah b' np).symm;have bz:H p=none:=s1.free np;erw[96,0,p,a,b,(6),100,1,c9,hb,#[],#[],aM #[] #[],λm a3 b3 m0 m6 e8=>#[m,1,(),(),?_]]
  have c':upd H2 p (.lst [.int a3,.int b3]) p=some (.lst [.int a3,.int b3]):=ae;have k3:∀c o,H c=some o->upd H2 p (.lst [.int a3,.int b3]) c=some o:=λc o e=>by rw[al (ah e bz)];rwa[s2 _ _ (s1 _ _ e)]
  have cj:upd H2 p (.lst [.int a3,.int b3]) r=some (.lst []):=by rw[al pr.symm];rwa[s2 _ _ b']
  generalize upd H2 p (.lst [.int a3,.int b3])=H3 at c' k3 cj;erw[dX (n:=m.toNat) (λj σ H'=>∃(x6 x7 x8 x9:Option V) (zs:List V) (tb:List (Nat×ai)) (a b:Int),σ=[some (.ref s),some (.int P),some (.int L),some (.ref c),some (.ref r),some (.ref p),x6,x7,x8,x9]/\Fu H H'/\H' r=some (.lst zs)/\Paired (RowA [p,r] P H') zs (tb.map (bN cs.length))/\tb.length=j/\(∀x∈tb,PtOk P L cs.length x)/\H' p=some (.lst [.int a,.int b])/\FI a b (101+20*j)) ?_ ?_ ?_]
  ·rwa[4047,none,none,none,none,[],[],a3,b3,1,k3,cj,.nil,1,(λx hx=>by cases hx),c',e8]
  ·rintro j σ H4 hj ⟨x6,x7,x8,x9,zs,tb,a4,b4,rfl,sm,bd,pz,bx,c0,b0,c7⟩ N0 B0 e4;have lz:zs.length=j:=by rw[Paired.length pz,k_,bx]
   have ei:∀{H':Hp} ,FB [p,r] H4 H'->Paired (RowA [p,r] P H') zs (tb.map (bN cs.length)):=λ{H'} k=>ao (λ_ _ h=>h.keep k) pz
   erw[51224016,0,0,c,0,.inl (SqL.of (sm _ _ U)),p,a4,b4,_,0,b0,c7,(),by rw[k_];lia,aM (by rw[k_];lia) (by rw[k_];lia),λO a5 b5 f0 dy e'=>?_]
   rw[k_] at dy;have b1:upd H4 p (.lst [.int a5,.int b5]) p=some (.lst [.int a5,.int b5]):=ae;have k5:∀c o,H4 c=some o->c≠p->upd H4 p (.lst [.int a5,.int b5]) c=some o:=λc o e U=>by rw[al U];rwa[e]
   have cz:FB [p,r] H4 (upd H4 p (.lst [.int a5,.int b5])):=FB.put b0 (by simp)
   generalize upd H4 p (.lst [.int a5,.int b5])=H5 at b1 k5 cz;erw[1195,0,0,p,P,a5,b5,0,hP,b1,e',(),λv x a6 b6 H6 av ox sx ee ea k6=>?_]
   have ej:FB [p,r] H5 H6:=FB.bag b1 k6 (by simp)
   have Z:=uS hP ox sx;have c5:=hP.b;have er:OkN P (0,1):=eZ c5.1 c5.2.2;have et:OkN P (1,1):=by
    rcases hP with z|⟨h2,_,_⟩
    ·rwa[.inl #[z,#[],#[]]]
    ·rwa[.inr #[(),#[],by show(1:Int)<P;lia,1]]
   have eg:∀c o,H4 c=some o->c≠p->H6 c=some o:=λc o e U=>k6 _ _ (k5 _ _ e U) U
   have cp:=cz.trans ej;dsimp only;erw[ut (t:=DO _ _ _) (λσ' H'=>∃(v:V) (x:Int×Int),σ'=[some (.ref s),some (.int P),some (.int L),some (.ref c),some (.ref r),some (.ref p),some (.int (0+j)),some (.int O),some v,x9]/\Fu H6 H'/\At P H' v x/\OkN P x/\Sz 14 x/\x≠(0,1)) ?_ ?_]
   ·intro R0 c6;erw[5112,0,0,P,1,hP,λnv H7 s7 an=>?_]
    erw[2411,dN P x,dN P (0,1),mK (av.same s7),mK an,e7 _ _,e7 _ _,0,?_];rw[uN ox er]
    by_cases hx:x=(0,1)
    ·rw[p_ hx];rwa[cZ #[52,0,P,1,hP,λuv H8 s8 au=>c6 _ _ #[25,uv,(1,1),1,s7.trans s8,au,et,#[#[],#[]],#[]]]]
    ·rw[Gx hx];rwa[cG (c6 _ _ #[25,v,x,1,s7,av.same s7,ox,Z,hx])]
   clear av ox sx Z x v;rintro σ7 H7 ⟨v,x,rfl,s7,av,ox,Z,eo⟩;have cb:=s7 _ _ ee;erw[1196,0,0,p,a6,b6,(5),0,cb,ea,(),#[],aM #[] #[],λdg a8 b8 e0 f1 eb=>?_]
   have b2:upd H7 p (.lst [.int a8,.int b8]) p=some (.lst [.int a8,.int b8]):=ae;have k8:∀c o,H7 c=some o->c≠p->upd H7 p (.lst [.int a8,.int b8]) c=some o:=λc o e U=>by rw[al U];rwa[e]
   generalize upd H7 p (.lst [.int a8,.int b8])=H8 at b2 k8;have de:FB [p,r] H7 H8:=FB.bag cb k8 (by simp)
   erw[9018,0,p,L,dg,a8,b8,0,(),(),e0,(),b2,eb,(),λt es a9 b9 H9 f2 em ew ef b7 ec k9=>?_]
   have df:FB [p,r] H8 H9:=FB.bag b2 k9 (by simp)
   have be:∀c o,H4 c=some o->c≠p->H9 c=some o:=λc o e U=>k9 _ _ (k8 _ _ (s7 _ _ (eg _ _ e U)) U) U
   have cr:FB [p,r] H4 H9:=((cp.trans (.of s7)).trans de).trans df;have dz:At P H9 v x:=av.mono λt xs e=>df.1 _ _ (de.1 _ _ e)
   have ad:=be _ _ bd pr.symm;have ed:=be _ _ (sm _ _ U) (ah U bz);have ez:Fu H H9:=λc o e=>be _ _ (sm _ _ e) (ah e bz)
   have e6:O.toNat<cs.length:=()
   let x0:Nat×ai:=(O.toNat,(es,x))
   erw[126213,0,.inl #[1,_,SqL.of ad],0,c,0,.inl (SqL.of ed),((cs.map V.int).length:Int),1,by rw[k_];lia,by rw[k_];lia,nI (P:=P) (rest:=[some (.ref t),some v,some (.int O)]) rfl (λi e=>e=if i=O.toNat then[(es,x)] else[]) (by rw[Lq,k_];lia) (λi G R hi sG hR=>?_) λd e3 row G nd sG hd pe lr eu=>?_]
   ·erw[52,0,0,by show 2<=sizeLine;decide,λtp en=>#[by show 1<=sizeLine;decide,λl nl=>#[l,1,#[_,SqL.of ae],?_]]]
    have sp:=Fu.new (o:=.tup [.ref t,v]) en;have sl:=Fu.new (o:=.lst [.ref tp]) nl;have cm:=sl _ _ (show upd G tp (.tup [.ref t,v]) tp=some (.tup [.ref t,v]) from ae)
    have hl:upd (upd G tp (.tup [.ref t,v])) l (.lst [.ref tp]) l=some (.lst [.ref tp]):=ae;have ax:=sp.trans sl;generalize upd (upd G tp (.tup [.ref t,v])) l (.lst [.ref tp])=G2 at sl cm hl ax;have dm:=sG.trans ax;erw[cC (n:=1) (σ0:=[none,some (.int (0+i)),some (.int O)]) rfl (λσ=>∃u,σ=[u,some (.int (0+i)),some (.int O)]) (Gb P) (λH H' v p fx h=>h.mono λt xs e=>fx.tup e) (λj ps=>ps=if i=O.toNat then[(es,x)].take j else[]) #[] #[0] (by simp) (λj H2 hj c2=>#[21,_,_,SqL.of (c2 _ _ hl),e_ hj]) (λH2 c2=>#[_,SqL.of (c2 _ _ hl),ge _]) ?_ ?_]
    ·rintro j σ G3 y G4 ps Y N hj ⟨u,rfl⟩ s3 a7 ⟨rfl,gy⟩ hY hN;have ey:=gy _ (SqL.of (s3 _ _ hl));obtain rfl:j=0:=()
     cases ey;erw[5211,0,0,1,0,?_]
     by_cases a':i=O.toNat
     ·rw[show decide (V.int (0+(i:Int))=V.int O)=true from p_ (by congr 1;lia)]
      rw[u_ a'] at a7;erw[cZ #[0,hY _ _ (es,x) _ #[0] (Fu.refl _) #[33,tp,t,v,1,s3 _ _ cm,s3 _ _ (dm _ _ ef),(dz.same (dm.trans s3))] ?_]];rw[a7,u_ a']
      rfl
     ·rw[show decide (V.int (0+(i:Int))=V.int O)=false from Gx (λz=>a' (by injection z;lia))]
      rw[t_ a'] at a7;rwa[cG (hN _ _ #[0] (Fu.refl _) (by rw[a7,t_ a']))]
    ·rintro ac us ps G3 el s3 e5 pu _ a7;erw[hR ac us ps G3 (ax.trans s3) (ax.free el) e5 pu ?_];rw[a7]
     rfl
   ·rw[Lq,k_] at lr;have c4:row=bN cs.length x0:=by
     erw[Pq λi=>?_]
     by_cases hi:i<cs.length
     ·have e1:=eu i _ (e_ ())
      rw[e_ (),e1]
      unfold bN;rw[Ga,Ml hi]
      rfl
     ·rw[LN (),LN (by rw[dH];lia)]
    subst c4;have ck:=sG _ _ ad;erw[34,r,zs,0,1,ck,by rw[Gr];lia,?_]
    have dr:d≠r:=(ah ad nd).symm;have dp:d≠p:=(ah b7 nd).symm;have dk:FB [p,r] G (upd G r (.lst (zs++[.ref d]))):=FB.put ck (by simp)
    erw[e4 _ _ #[4047,_,_,_,_,zs++[.ref d],tb++[x0],a9,b9,1,λc o e=>?_,ae,?_,by rw[y_,bx];rfl,λy hy=>?_,?_,ec.mono ()]]
    ·rw[al (ah e nr)];rwa[sG _ _ (ez _ _ e)]
    ·rw[KB];erw[aK #[d,e3,1,?_,by rw[al dr];rwa[hd],ao (λv e ⟨l,ts,z1,z2,z3,z4,z5⟩=>?_) pe] (ei ((cr.trans (.of sG)).trans dk))]
     ·simp only[Mv,Lm,MG,P7];rwa[dp,dr]
     ·have dl:l≠r:=(ah ad z2).symm;have lp:l≠p:=(ah b7 z2).symm;rwa[23,l,ts,z1,by simp only[Mv,Lm,MG,P7];rwa[lp,dl],by rw[al dl];rwa[z4],z5.mono dk.1]
    ·rcases KI.mp hy with z|z
     ·rwa[c0 y z]
     ·rw[GF.mp z];rwa[e6,by show es.length=L;lia,em,by rw[show x0.2.1=es from rfl,ew];lia,ox,Z,eo]
    ·rw[al pr];rwa[sG _ _ b7]
  ·rintro σ H4 ⟨x6,x7,x8,x9,zs,tb,a4,b4,rfl,sm,bd,pz,bx,c0,b0,c7⟩;rwa[0,q r zs tb H4 sm bd (ao (λ_ _ h=>h.row) pz) () c0]
theorem EN:(["_law_there"]:List Str).Nodup:=by decide +kernel
theorem Eu:(["_law_part", "_law_leads", "_law_place"]:List Str).Nodup:=by decide +kernel
theorem EG:(["_law_head", "_law_place", "_law_part"]:List Str).Nodup:=by decide +kernel
def uT:Sp:=λvs H Q _=>∃(h t k1 k2:Addr) (u:V) (i j:Int) (ls es:List Int),vs=[.ref h,.ref t]/\H h=some (.tup [.int i,.ref k1,u])/\H k1=some (.tup (ls.map V.int))/\H t=some (.tup [.int j,.ref k2])/\H k2=some (.tup (es.map V.int))/\ls.length=es.length/\ls.length<=60/\∀H',Fu H H'->Q (.bl (decide (i=j)&&bD ls es)) H'
def nuB(tb:List (Nat×ai))(i:Nat)(q:ai):Bool:=!(tb.any λx=>decide ((x.1:Int)=(i:Int))&&bD x.2.1 q.1)
def Ck:Sp:=λvs H Q _=>∃(t r:Addr) (P:Int) (L n:Nat) (ws es:List V) (tb:List (Nat×ai)) (row:List (List ai)),vs=[.ref t,.ref r]/\H t=some (.lst ws)/\Paired (FS P H) ws (tb.map (bN n))/\tb.length<=5/\(∀x∈tb,PtOk P L n x)/\L<=4/\H r=some (.lst es)/\Paired (FW P H) es row/\row.length<=3/\(∀e∈row,e.length<=3/\∀q∈e,q.1.length=L)/\
 ∀(d:Addr) (es':List V) (H':Hp),H d=none->Fu H H'->H' d=some (.lst es')->Paired (FF H d P H') es' (row.zipIdx.map λe=>e.1.filter (nuB tb e.2))->Q (.ref d) H'
theorem Eh{i:Nat}{x:V}{A B:L2.St->Hp->Prop}(h:A (σ.set i (some x)) H):bV i x σ H λσ2 H2=>jQ σ2 H2 λb O=>if b=true then A σ2 O else B σ2 O:=AX (σ:=σ.set i (some x)) (A:=A (σ.set i (some x))) (B:=B (σ.set i (some x))) h
theorem mn:Fv ["_law_head", "_law_term"] ["_law_head", "_law_term"] (am fj):=.i
theorem yH(F:Fun K "_law_under" "_law_under" fj f fd)(T:Blt mg):`aC CX0 1 f fd ["_law_head", "_law_term"] uT:=by
 erw[F.o mn λ_ _ _ _ H _ Q _ hr h=>?_]
 ·let#[h,t,k1,k2,u,i,j,ls,es,1,hh,U,ht,Y,ll,a6,q]:=h;erw[_,(aj (ar (zV (gv dJ (aG (aI K rfl) (pv 0) ak (λ_ _=>rfl)) (aG (aI K rfl) (pv 1) ak (λ_ _=>rfl)) (aA _)) (yu (ur K T (by rwa[bh (N:=["_law_a", "_law_b"]) (src:=[none,none]) rfl rfl rfl (by exact(iz K true true rfl rfl T.zip (aa (aG (aI K rfl) (pv 0) ak (λ_ _=>rfl)) (aa (aG (aI K rfl) (pv 1) ak (λ_ _=>rfl)) ag)))) (λ_ _ _=>by rwa[by exact(bc K (i:=0) (j:=1) rfl rfl Fj rfl rfl rfl rfl),aV,by exact(gv nY (pv 0) (pv 1) (aA _))])]) false))))),?_]
  erw[848511,0,h,_,2,SqT.of hh,1,0,t,_,2,SqT.of ht,1,1,0,?_]
  by_cases O:i=j
  ·rw[show decide (V.int i=V.int j)=true from p_ (by rw[O])]
   rw[p_ O,Bool.true_and] at q;erw[cZ #[848423,0,h,_,2,SqT.of hh,1,0,t,_,2,SqT.of ht,1,k1,k2,1,#[_,ph (SqT.of U)],#[_,ph (SqT.of Y)],qM (v2 λi j=>.bl (decide (i<=j))) rfl (ph (SqT.of U)) (ph (SqT.of Y)) (by rw[k_,Gr];lia) (λi x y H1 R hx hy sm hR=>?_) (λacc H1 Z sm hl=>?_)]]
   ·let#[z,_,1]:=fm hx;let#[z',_,1]:=fm hy;rwa[5122,0,0,2,hR]
   ·rw[sF,rR V.bl] at hl;rwa[22,acc,0,dC (SqL.of hl),q H1 sm]
  ·rw[show decide (V.int i=V.int j)=false from Gx (λz=>O (by injection z))]
   rw[Gx O,Bool.false_and] at q;rwa[cG (q H (Fu.refl _))]
theorem Gi:Fv ["_law_rows", "_law_row", "_law_leads", "_law_due_here", "_law_place", "_law_entry"] ["_law_rows", "_law_row"] (am hW):=.i
set_option maxHeartbeats 2000000 in
theorem CO(F:Fun K "_law_due" "_law_due" hW f fd)(T:Blt mg)(nany:mg "any" = none)(IR:`FnB 1 "_law_lead" uX)(IB:`FnB 1 "_law_under" uT):`aC CX0 2 f fd ["_law_rows", "_law_row"] Ck:=by
 erw[F.o Gi λ_ _ _ _ H _ Q _ hr h=>?_]
 ·let#[t,r,P,L,n,ws,es,tb,row,1,ht,pw,t5,b7,L4,b6,pe,r3,c9,q]:=h;erw[_,(af (aq (i:=2) Gi.nd rfl (Or.inr rfl) (by rwa[bh (N:=["_law_there"]) (src:=[none]) rfl rfl rfl (by exact(aL K rfl (pv 0))) (λ_ _ _=>by rwa[by exact(cc (i:=0) EN rfl rfl),aV,by exact(ay IR hr.m (aa (pv 0) ag))])]))
(af (aq (i:=3) Gi.nd rfl #[4] (aQ ag))
(af (bi GM rfl (gh K rfl rfl T.enum (aa (pv 1) ag)) (jd rfl (by rwa[ba (by exact(aO (i:=4) Gi.nd rfl (Or.inr rfl))) (by rwa[ba (by exact(aO (i:=5) Gi.nd rfl #[4])) gw])]))
(aj (aZ (bmA K rfl (pv 3) (aa (by rwa[qe (N:=["_law_part", "_law_leads", "_law_place"]) (src:=[none,some 2,some 4]) rfl rfl rfl (by exact(aL K rfl (pv 5))) (λ_ _ _=>by rwa[by exact(aO (i:=0) Eu rfl (Or.inr rfl)),(gr (tH (oY (AW (K:=K) nany (by rwa[bh (N:=["_law_head", "_law_place", "_law_part"]) (src:=[none,some 2,some 0]) rfl rfl rfl (by exact(aL K rfl (pv 1))) (λ_ _ _=>by rwa[by exact(cc (i:=0) EG rfl rfl),aV,by exact(ay IB hr.m (aa (pv 0) (aa (aS (aa (pv 1) (aa (aG (aI K rfl) (pv 2) ak (λ_ _=>rfl)) ag))) ag)))])]) false)))),by exact(pv 0)])]) ag)))))
(aj (ar (pv 3)))))),?_]
  have lw:ws.length=tb.length:=by rw[Paired.length pw,k_]
  have le:es.length=row.length:=Paired.length pe;erw[52,0,t,1,#[_,SqL.of ht],cC (n:=ws.length) (σ0:=[none]) rfl (λσ=>∃u,σ=[u]) (Ld3 P) (λH H' v x fx h=>h.mono λt xs e=>fx.tup e) (λi xs=>xs=tb.take i) () #[0] rfl (λi H2 hi U=>#[21,_,_,SqL.of (U _ _ ht),e_ hi]) (λH2 U=>#[_,SqL.of (U _ _ ht),ge _]) ?_ ?_]
  ·rintro i σ H2 y H3 xs Y N hi ⟨u,rfl⟩ U rfl ⟨rfl,gy⟩ hY _;have ey:=gy _ (SqL.of (U _ _ ht));let#[cb,er,r',O,1,c1,c']:=aD pw ey;rw[Ga] at er;obtain⟨x,ex⟩:∃x,tb[i]? = some x:=by
    cases z:tb[i]? with
    |none=>rw[z] at er;cases er
    |some x=>rwa[x,1]
   rw[ex] at er;obtain rfl:bN n x=cb:=G_ er;have ox:=b7 x (E_ ex);erw[Eh ?_];erw[83,0,r',P,O,bN n x,1,U _ _ c1,ao (λ_ _=>FW.same U) c',λv H4 s4 fn=>?_]
   rw[qA ox.1] at fn
   rcases fn with⟨z,_⟩|⟨x',tp,l3⟩
   ·cases z
   ·obtain rfl:=lV tp;rwa[hY _ _ x' _ #[0] s4 l3 (by rw[Kw,ex];rfl)]
  rintro ld us xs H1 cs s1 bz pl _ rfl;rw[lw,KU] at pl;have c5:us.length=tb.length:=Paired.length pl;erw[Gw _,λd nd=>?_]
  have s2:=Fu.new (o:=.lst []) nd;have b2:upd H1 d (.lst []) d=some (.lst []):=ae;generalize upd H1 d (.lst [])=H2 at s2 b2;have cj:=s1.trans s2;have c6:H d=none:=s1.free nd;erw[52,0,r,1,#[_,SqL.of (cj _ _ b6)],lU (xs:=es) (λj σ H'=>∃(x4 x5:Option V) (O:List V),σ=[some (.ref t),some (.ref r),some (.ref ld),some (.ref d),x4,x5]/\Fu H1 H'/\H' d=some (.lst O)/\Paired (FF H d P H') O ((row.take j).zipIdx.map λe=>e.1.filter (nuB tb e.2))) ?_ ?_ ?_ ?_]
  ·rwa[33,none,none,[],1,s2,b2,.nil]
  ·rintro j σ H' _ ⟨x4,x5,O,rfl,U,_⟩;rwa[SqL.of (U _ _ (s1 _ _ b6))]
  ·rintro j v σ H3 p hv ⟨x4,x5,O,rfl,s3,ad,pd⟩ np;let#[e,ee,l,ts,1,hl,b8]:=aD pe hv;have jl:j<row.length:=(q_.mp ee).1;have s4:=Fu.new (o:=.tup [.int j,.ref l]) np;have h4:upd H3 p (.tup [.int j,.ref l]) p=some (.tup [.int j,.ref l]):=ae;generalize upd H3 p (.tup [.int j,.ref l])=H4 at s4 h4;have b0:=s3.trans s4;have a6:=s1.trans b0;have au:=s4 _ _ ad;let#[cr,c8]:=c9 e (E_ ee);have c4:ts.length=e.length:=Paired.length b8;erw[232122,p,0,SqT.of h4,1,_,0,2,?_];erw[1252,0,.inl #[1,_,SqL.of au],0,l,1,#[_,SqL.of (a6 _ _ hl)],cC (n:=ts.length) (σ0:=[none,some (.ref ld),some (.int j)]) rfl (λσ=>∃u,σ=[u,some (.ref ld),some (.int j)]) (Gb P) (λH H' v p fx h=>h.mono λt xs e=>fx.tup e) (λi ps=>ps=(e.take i).filter (nuB tb j)) () #[0] rfl (λi H5 hi U=>#[21,_,_,SqL.of (U _ _ (a6 _ _ hl)),e_ hi]) (λH5 U=>#[_,SqL.of (U _ _ (a6 _ _ hl)),ge _]) ?_ ?_]
   ·rintro i σ H5 y H6 ps Y N hi ⟨u,rfl⟩ s5 rfl ⟨rfl,gy⟩ hY hN;have ey:=gy _ (SqL.of (s5 _ _ (a6 _ _ hl)));let#[q0,a9,tq,kq,uq,1,b4,b5,c0]:=b8.at_ ey;have a8:=a6.trans s5;have b':=b0.trans s5;have lq:=c8 q0 (E_ a9);have a7:=b' _ _ bz;erw[52,0,ld,1,#[_,SqL.of a7],cC (n:=us.length) (σ0:=[none,some (.int j),some (.ref tq)]) rfl (λσ=>∃u,σ=[u,some (.int j),some (.ref tq)]) (λ_ v (b:Bool)=>v=.bl b) (λ_ _ _ _ _ h=>h) (λk bs=>bs=(tb.take k).map λx=>decide ((x.1:Int)=(j:Int))&&bD x.2.1 q0.1) () #[0] rfl (λk H7 hk U=>#[21,_,_,SqL.of (U _ _ a7),e_ hk]) (λH7 U=>#[_,SqL.of (U _ _ a7),ge _]) ?_ ?_]
    ·rintro k σ H7 y H8 bs Y' N' hk ⟨u,rfl⟩ s7 rfl ⟨rfl,gy⟩ bx _;have ey:=gy _ (SqL.of (s7 _ _ a7));let#[x,ex,tx,kx,ux,1,c2,c3,cp]:=aD pl ey;have ox:=b7 x (E_ ex);have bd:=b'.trans s7;have b9:=a8.trans s7;erw[Eh ?_];erw[5185,0,0,0,tq,_,2,SqT.of (b9 _ _ b4),1,by show 2<=sizeLine;decide,λtt c7=>?_]
     have s8:=Fu.new (o:=.tup [.int j,.ref kq]) c7;erw[404017,tx,tt,kx,kq,ux,x.1,j,x.2.1,q0.1,1,s8 _ _ (bd _ _ c2),s8 _ _ (bd _ _ c3),ae,s8 _ _ (b9 _ _ b5),ox.2.1.trans lq.symm,by rw[ox.2.1];lia,λH9 s9=>?_]
     erw[bx _ _ _ _ #[0] (s8.trans s9) rfl ?_];rw[Kw,ex,KB]
     rfl
    ·rintro ac vs bs H7 ax s7 a' pb _ rfl;rw[c5,KU] at pb;have be:vs=((tb.map λx=>decide ((x.1:Int)=(j:Int))&&bD x.2.1 q0.1)).map V.bl:=by
      have:∀{vs:List V} {bs:List Bool},Paired (λv (b:Bool)=>v=V.bl b) vs bs->vs=bs.map V.bl:=by
       intro vs bs h
       induction h with
       |nil=>rfl
       |cons h _ ih=>rw[h,ih];rfl
      rwa[this pb]
     subst be;erw[2211,ac,0,dC (SqL.of a'),0,?_];rw[List.any_map];have cm:nuB tb j q0 = !(tb.any (id ∘ λx=>decide ((x.1:Int)=(j:Int))&&bD x.2.1 q0.1)):=rfl
     show if nuB tb j q0=true then _ else _
     by_cases Z:nuB tb j q0=true
     ·rw[Z];erw[cZ #[0,hY _ _ q0 _ #[0] s7 #[33,tq,kq,uq,1,s7 _ _ (a8 _ _ b4),s7 _ _ (a8 _ _ b5),c0.same (a8.trans s7)] ?_]];rw[Kw,a9,NH];show _=_++[q0].filter _;rw[Mm Z]
      rfl
     ·have Z:nuB tb j q0=false:=by simpa using Z
      rw[Z];erw[cG (hN _ _ #[0] s7 ?_)];rw[Kw,a9,NH];show _=_++[q0].filter _;rw[LX (by rw[Z];decide),List.filter_nil,Mg]
   ·rintro ac vs ps H5 ax s5 a' pp _ rfl;rw[c4,KU] at pp;have b3:=s5 _ _ au;have b1:ac≠d:=(ah au ax).symm;have ck:O.length<=3:=by
     rw[Paired.length pd,k_,length_zipIdx,LK];lia
    erw[34,d,O,0,1,b3,by rw[Gr];lia,?_]
    have ka:FB [d] H5 (upd H5 d (.lst (O++[.ref ac]))):=FB.put b3 (by simp)
    erw[33,_,_,O++[.ref ac],1,λc o e=>?_,ae,?_]
    ·rw[al (ah e nd)];rwa[s5 _ _ (b0 _ _ e)]
    ·have ez:(row.take (j+1)).zipIdx.map (λe=>e.1.filter (nuB tb e.2))=(row.take j).zipIdx.map (λe=>e.1.filter (nuB tb e.2))++[e.filter (nuB tb j)]:=by
      rw[Kw,ee,List.zipIdx_append,KB,LK,show 0+min j row.length=j by lia]
      rfl
     rw[ez];erw[aK #[24,ac,vs,1,a6.free ax,b1,by rw[al b1];rwa[a'],FA.mono ka.1 pp] (ao (λ_ _=>FF.keepA (av:=[d]) (λa h=>.inl (by simpa using h)) ((FB.of (s4.trans s5)).trans ka)) pd)]
  ·rintro σ H3 ⟨x4,x5,O,rfl,s3,ad,pd⟩;rw[le,KU] at pd;rwa[0,q d O H3 c6 (s1.trans s3) ad pd]
theorem eY{i:Nat}{a b:List (Nat×ai)}(h:a.Perm b):(atP i a).Perm (atP i b):=(h.filter _).map _
theorem on(i:Nat)(a b:List (Nat×ai)):atP i (a++b)=atP i a++atP i b:=by
 unfold atP;rw[NH,KB]
theorem qr:∀(row:List (List ai)) (k i:Nat),atP (k+i) (aN k row)=row.getD i []
 |[],k,i=>by simp[aN,atP]
 |e::r,k,i=>by
  have O:∀j,atP j (e.map λq=>(k,q))=if k=j then e else[]:=λj=>by
   unfold atP
   by_cases h:k=j
   ·subst h;rw[u_ rfl]
    induction e with
    |nil=>rfl
    |cons a e ih=>rw[K1,Mm (by simp),K1,ih]
   ·rw[t_ h]
    induction e with
    |nil=>rfl
    |cons a e ih=>rw[K1,LX (by simpa using h),ih]
  show atP (k+i) (e.map (λq=>(k,q))++aN (k+1) r)=_
  rw[on,O];cases i with
  |zero=>
   rw[u_ (Nat.add_zero k).symm];have:atP (k+0) (aN (k+1) r)=[]:=by
    unfold atP;rw[List.map_eq_nil_iff,filter_eq_nil_iff];intro x U;let#[j,_,h1,_]:=iI U;simp;lia
   rw[this,Mg]
   rfl
  |succ i=>
   rw[t_ (),nil_append,show k+(i+1)=k+1+i by lia]
   rwa[qr r (k+1) i]
theorem gR(tb:List (Nat×ai))(i:Nat):∀l:List (Nat×ai),atP i (l.filter λx=>nuB tb x.1 x.2)=(atP i l).filter (nuB tb i)
 |[]=>rfl
 |x::l=>by
  have Z:=gR tb i l;unfold atP at *
  by_cases U:x.1=i
  ·by_cases Y:nuB tb x.1 x.2=true
   ·have O:nuB tb i x.2=true:=by rw[<- U];rwa[Y]
    simp[Pb,U,O,Z,-filter_filter]
   ·have O:nuB tb i x.2=false:=by rw[<- U];simpa using Y
    simp[Pb,U,O,Z,-filter_filter]
  ·by_cases Y:nuB tb x.1 x.2=true
   ·simp[Pb,U,Y,Z,-filter_filter]
   ·simp[Pb,U,Y,Z,-filter_filter]
theorem rq{b:List ai}(p:a.Perm b)(h1:a.Pairwise lE)(h2:b.Pairwise lE):a=b:=
 gg (β:=ai) (lt:=λx y=>HT.lexLt x.1 y.1) (λ_=>ft _) (λ_ _ _=>gA) p h1 h2
theorem Bn{s:Int}(h:e.Pairwise jI)(hs:∀q∈e,q.1.sum=s):e.Pairwise lE:=by
 erw[List.Pairwise.imp_of_mem (λ{a b} U Y O=>?_) h]
 have O:klt (hk b) (hk a)=true:=O;rw[gc,u_ (show(hk b).1=(hk a).1 from(hs b Y).trans (hs a U).symm)] at O
 rwa[O]
theorem zF{s:Int}(h:e.Pairwise lE)(hs:∀q∈e,q.1.sum=s):e.Pairwise jI:=by
 erw[List.Pairwise.imp_of_mem (λ{a b} U Y O=>?_) h]
 show klt (hk b) (hk a)=true;rw[gc,u_ (show(hk b).1=(hk a).1 from(hs b Y).trans (hs a U).symm)]
 rwa[O]
def RwS(P:Int)(L n:Nat)(row:List (List ai)):Prop:=row.length=n/\∀(i:Nat) (e:List ai),row[i]? = some e->FL P L 45 e/\e.length<=3/\(∀q∈e,∀x∈q.1,x<1000)/\∃s:Int,∀q∈e,q.1.sum=s
theorem oM{row:List (List ai)}{i:Nat}(h:row[i]? = some e):atP i (aN 0 row)=e:=by
 have:=qr row 0 i;rw[Nat.zero_add] at this;rw[this,Gc,h]
 rfl
theorem E9{P:Int}(h:jN P L n B tb s):nuB tb s.2.1 s.2.2=false:=by
 let#[_,Y,U,O,_]:=h;unfold nuB;rw[Bool.not_eq_false',List.any_eq_true];rwa[bo tb s.1,(gG Y).2,by rw[O,Bool.and_true,p_ (by rw[U])]]
theorem Es(h:∀x∈tb,x.1=y.1->bD x.2.1 y.2.1=false):nuB tb y.1 y.2=true:=by
 unfold nuB;rw[Bool.not_eq_true',List.any_eq_false];intro x O
 by_cases e:x.1=y.1
 ·rw[h x O e];simp
 ·rw[Gx ()];simp
theorem Bq{P:Int}{row:List (List ai)}(hr:RwS P L n row)(h:mM P L n tb (aN 0 row) ms left):left=row.zipIdx.map λe=>e.1.filter (nuB tb e.2):=by
 let#[S,R,ys,B,pm,_,_,hS,hR,_,_,hl]:=h.ex;have pR:R.Perm ((aN 0 row).filter λx=>nuB tb x.1 x.2):=by
  have h1:=pm.filter λx=>nuB tb x.1 x.2
  have Z:(S.map (·.2)).filter (λx=>nuB tb x.1 x.2)=[]:=by
   rw[filter_eq_nil_iff];intro x hx;let#[s,Y,1]:=GK.mp hx;rw[E9 (hS s Y).1]
   decide
  have e2:R.filter (λx=>nuB tb x.1 x.2)=R:=List.filter_eq_self.mpr λy hy=>Es (hR y hy)
  rw[NH,Z,e2,nil_append] at h1;rwa[h1]
 erw[Pq λi=>?_]
 by_cases hi:i<n
 ·have O:i<row.length:=by rw[hr.1];rwa[hi]
  let#[c,_,_,s,Y]:=hr.2 i _ (e_ O);have U:i<left.length:=by rw[h.ll];rwa[hi]
  let#[p1,p2]:=hl i _ (e_ U);rw[e_ U,Ga,getElem?_zipIdx,e_ O];show some left[i]=some (row[i].filter (nuB tb (0+i)));congr 1;rw[Nat.zero_add];erw[rq (p1.trans ?_) p2 ((Bn c.1 Y).sublist filter_sublist)];have:=eY (i:=i) pR;rw[gR,oM (e_ O)] at this;rwa[this]
 ·rw[LN (by rw[h.ll];lia),LN (by rw[k_,length_zipIdx,hr.1];lia)]
theorem AA{P:Int}{m:Int×Int}(hP:Fz P)(hB:0<B)(b1:P≠0->B=1)(ox:OkN P x.2.2)(zx:Sz 60 x.2.2)(nx:x.2.2.1≠0)(oy:OkN P y.2.2)(zy:Sz 60 y.2.2)(ny:y.2.2.1≠0)(e:aY B y*y.2.2.2=y.2.2.1*B)(h:NmIs P (aY B y*x.2.2.2) ((B:Int)*x.2.2.1) m):OkN P m/\Sz 120 m/\m≠(0,1)/\gF P x.2.2 m=y.2.2:=by
 have a6:=hP.b;have O:m≠(0,1)/\gF P x.2.2 m=y.2.2/\Sz 120 m:=by
  rcases h with⟨h0,rfl⟩|⟨h0,h1,h2,h3,h4⟩
  ·rcases ox with⟨_,dx,gx⟩|⟨z,_⟩
   ·rcases oy with⟨_,Y,gy⟩|⟨z,_⟩
    ·have U:y.2.2.2*x.2.2.1≠0:=Nv () nx
     have en:nrm (aY B y*x.2.2.2) ((B:Int)*x.2.2.1)=nrm (y.2.2.1*x.2.2.2) (y.2.2.2*x.2.2.1):=gs (Nv () nx) U (by
      have:aY B y*x.2.2.2*(y.2.2.2*x.2.2.1)=(aY B y*y.2.2.2)*(x.2.2.2*x.2.2.1):=by
       simp only[MZ,MY,MS]
      rw[this,e];simp only[MZ,MY,MS])
     rw[en];have Z:=lF (y.2.2.1*x.2.2.2) (y.2.2.2*x.2.2.1) U;have q2:=iM (y.2.2.1*x.2.2.2) (y.2.2.2*x.2.2.1) U;have q3:=oS (y.2.2.1*x.2.2.2) (y.2.2.2*x.2.2.1) U;generalize nrm (y.2.2.1*x.2.2.2) (y.2.2.2*x.2.2.1)=m at *;erw[λz=>?_,?_,?_]
     ·rw[z] at Z;have:y.2.2.1*x.2.2.2≠0:=Nv ny ()
      simp at Z;lia
     ·unfold gF;rw[u_ h0];have m0:x.2.2.2*m.2≠0:=Nv () ()
      have hx:nrm (x.2.2.1*m.1) (x.2.2.2*m.2)=nrm y.2.2.1 y.2.2.2:=gs m0 () (by
       have:x.2.2.1*m.1*y.2.2.2=m.1*(y.2.2.2*x.2.2.1):=by simp only[MZ,MY,MS]
       rw[this,Z];simp only[MZ,MY,MS])
      rw[hx];exact(fO _ _ Y).mpr gy
     ·erw[Li q3.1 ?_,Li q3.2 ?_]
      ·rw[Nj,show(2:Nat)^120=2^60*2^60 by decide]
       rwa[NJ zy.1 zx.2]
      ·rw[Nj,show(2:Nat)^120=2^60*2^60 by decide]
       rwa[NJ zy.2 zx.1]
    ·rwa[absurd h0 z]
   ·rwa[absurd h0 z]
  ·let#[e1,e2,e3]:=dF oy h0;let#[_,x2,x3]:=dF ox h0;rw[b1 h0,e1,show((1:Nat):Int)=1 from rfl,Int.one_mul] at h4
   have dx:x.2.2.2=1:=by rcases ox with⟨z,_⟩|⟨_,_,_,d⟩;rwa[absurd z h0];rwa[d]
   have Y:y.2.2.2=1:=by rcases oy with⟨z,_⟩|⟨_,_,_,d⟩;rwa[absurd z h0];rwa[d]
   rw[dx,Oy,L8 e2 e3] at h4;erw[λz=>?_,?_,?_]
   ·rw[z] at h4;simp at h4;lia
   ·unfold gF;rw[t_ h0];erw[NU ?_ Y.symm];show x.2.2.1*m.1%P=_;rw[MZ];rwa[h4]
   ·erw[?_,?_]
    ·have:m.1.natAbs<2^14:=()
     rwa[NA this #[]]
    ·rw[h3];decide
 rwa[h.ok λh0=>Nv () nx,O.2.2,O.1,O.2.1]
theorem uh{i:Nat}(h:∀x∈l,x.1=i):atP i l=l.map (·.2):=by
 unfold atP;rw[List.filter_eq_self.mpr λx O=>p_ (h x O)]
theorem xp{i:Nat}(h:∀x∈l,x.1≠i):atP i l=[]:=by
 unfold atP;rw[List.filter_eq_nil_iff.mpr λx O z=>h x O (A_ z)]
 rfl
theorem Bf{i:Nat}{a b:List (Nat×ai)}(h:a.Sublist b):(atP i a).Sublist (atP i b):=(h.filter _).map _
theorem Do{i:Nat}(h:x∈l)(e:x.1=i):x.2∈atP i l:=L0 (LM.mpr #[h,p_ e])
def stR(r:Nat)(S:List (Nat×(Nat×ai))):List (Nat×(Nat×ai)):=S.filter λs=>decide (s.1=r)
theorem ip{r:Nat}(h:s∈stR r S):s∈S/\s.1=r:=#[(LM.mp h).1,A_ (LM.mp h).2]
theorem ug{P:Int}(r:Nat):∀{S:List (Nat×(Nat×ai))} {ys:List (Nat×ai)},Paired (ku P) (S.map (hJ tb B)) ys->Paired (λs (q:ai)=>ku P (hJ tb B s) (r,q)) (stR r S) (atP r ys)
 |[],_,.nil=>.nil
 |s::S,y::ys,.cons h t=>by
  have Y:=ug r t;have U:y.1=s.1:=h.1;unfold stR atP at *
  by_cases O:s.1=r
  ·rw[Mm (by simpa using O),Mm (by rw[U];simpa using O),K1]
   erw[.cons ?_ Y];rw[<- O,<- U];rwa[h]
  ·rw[LX (by simpa using O),LX (by rw[U];simpa using O)]
   rwa[Y]
theorem tU(k:Nat):∀S:List (Nat×(Nat×ai)),(S.filter λs=>decide (s.1<k+1)).Perm (S.filter (λs=>decide (s.1<k))++stR k S)
 |[]=>.nil
 |s::S=>by
  have O:=tU k S;unfold stR at *
  by_cases h1:s.1<k
  ·rw[Mm (by simp;lia),Mm (by simpa using h1),LX (by simp;lia)]
   rwa[O.cons s]
  ·by_cases h2:s.1=k
   ·rw[Mm (by simp;lia),LX (by simp;lia),Mm (by simpa using h2)]
    exact(O.cons s).trans List.perm_middle.symm
   ·rw[LX (by simp;lia),LX (by simp;lia),LX (by simpa using h2)]
    rwa[O]
theorem xO{P:Int}{q:ai}(hP:Fz P)(hB:0<B)(b1:P≠0->B=1)(st:jN P L n B tb s)(e:aY B s.2*s.2.2.2.2=s.2.2.2.1*B)(hx:DvT P L n (bo tb s.1))(y:ku P (hJ tb B s) (s.1,q)):
  OkN P q.2/\Sz 120 q.2/\q.2≠(0,1)/\q.1.length=L/\(∀e∈q.1,0<=e)/\(bQ (bo tb s.1).2.1 q.1,gF P (bo tb s.1).2.2 q.2)=s.2.2:=by
 let#[#[#[_,l1,n1],o1,z1,U],_,_,O,_]:=st;let#[#[_,l2,n2],o2,z2,Y]:=hx;let#[_,Z,y3]:=y;let#[c1,c2,c3,c4]:=AA hP hB b1 o2 z2 Y o1 z1 U e y3;let#[d1,d2,d3]:=ff (l2.trans l1.symm) O n1 n2;have Z:q.1=dh s.2.2.1 (bo tb s.1).2.1:=Z;rw[<- Z] at d1 d2 d3;rwa[c1,c2,c3,d2.trans l1,λe he=>(d1 e he).1,NU d3 c4]
theorem lA{P:Int}{r:Nat}(hP:Fz P)(hB:0<B)(b1:P≠0->B=1)(tok:∀x∈tb,DvT P L n x):∀{S:List (Nat×(Nat×ai))} {qs:List ai},(∀s∈S,s.1=r/\jN P L n B tb s/\aY B s.2*s.2.2.2.2=s.2.2.2.1*B)->Paired (λs (q:ai)=>ku P (hJ tb B s) (r,q)) S qs->js P (bo tb r).2 qs=S.map (·.2.2)/\∀q∈qs,∃s∈S,OkN P q.2/\Sz 120 q.2/\q.2≠(0,1)/\q.1.length=L/\(∀e∈q.1,0<=e)/\bQ (bo tb r).2.1 q.1=s.2.2.1
 |[],_,_,.nil=>#[1,λq hq=>by cases hq]
 |s::S,q::qs,h,.cons hy t=>by
  let#[i1,i2]:=lA hP hB b1 tok (λs hs=>h s (GG _ hs)) t
  let#[1,st,e]:=h s KQ;let#[Z,c2,c3,c4,c5,Y]:=xO hP hB b1 st e (tok _ (gG st.2.1).2) hy;erw[?_,λq' O=>?_]
  ·show(bQ (bo tb s.1).2.1 q.1,gF P (bo tb s.1).2.2 q.2)::js P (bo tb s.1).2 qs=_;rw[i1,Y]
   rfl
  ·rcases GH.mp O with rfl|O
   ·rwa[s,KQ,Z,c2,c3,c4,c5,Ls Prod.fst Y]
   ·let#[s',U,z]:=i2 q' O;rwa[s',GG _ U,z]
theorem RwS.at_{P:Int}{row:List (List ai)}(hr:RwS P L n row){i:Nat}(hi:i<n):∃e,row[i]? = some e/\FL P L 45 e/\e.length<=3/\∃s:Int,∀q∈e,q.1.sum=s:=by
 have O:i<row.length:=by rw[hr.1];rwa[hi]
 let#[c,l,_,s]:=hr.2 i _ (e_ O);rwa[_,e_ O,c,l,s]
theorem EH{P:Int}{row:List (List ai)}(hP:Fz P)(hr:RwS P L n row)(tok:∀x∈tb,DvT P L n x)(h:mM P L n tb (aN 0 row) ms left):∀m∈ms,FL P L 120 m/\m.length<=3:=by
 intro m hm;let#[S,R,ys,B,pm,hB,b1,hS,_,py,a6,_]:=h.ex;let#[r,em]:=getElem?_of_mem hm;have Y:r<tb.length:=by rw[<- h.lm];exact(q_.mp em).1
 let#[p1,p2]:=a6 r m em;let#[er,ee,cr,lr,s0,a7]:=hr.at_ (tok _ (gG Y).2).1.1;have Z:∀s∈stR r S,s.1=r/\jN P L n B tb s/\aY B s.2*s.2.2.2.2=s.2.2.2.1*B:=λs O=>#[(ip O).2,hS s (ip O).1]
 let#[_,f2]:=lA hP hB b1 tok Z (ug r py);have pl:∀x∈(stR r S).map (·.2),x.1=(bo tb r).1:=λx hx=>by
  let#[s,O,1]:=GK.mp hx;let#[e,st,_]:=Z s O;rw[<- e];rwa[st.2.2.1.symm]
 have sub:((stR r S).map (·.2)).Sublist (S.map (·.2)++R):=(List.filter_sublist.map _).trans (List.sublist_append_left _ _);have ea:=oM ee;have l1:(stR r S).length<=3:=by
  have h1:=(Bf (i:=(bo tb r).1) sub).length_le;rw[uh pl,(eY pm).length_eq,ea,k_,k_] at h1;lia
 have fq:∀q∈m,OkN P q.2/\Sz 120 q.2/\nz q=true/\(q.1.length:Int)=L/\(∀e∈q.1,0<=e)/\q.1.sum=s0-(bo tb r).2.1.sum:=λq U=>by
  let#[s,O,c1,c2,c3,c4,c5,c6]:=f2 q (p1.mem_iff.mp U);have a8:s.2.2∈er:=by
   rw[<- ea];exact(eY pm).mem_iff.mp (Do (Mn _ (L0 (ip O).1)) (pl _ (L0 O)))
  have h1:=a7 _ a8;rw[<- c6,jp (by rw[c4];exact(tok _ (gG Y).2).1.2.1)] at h1
  rwa[c1,c2,p_ c3,by rw[c4],c5,()]
 erw[#[zF p2 λq U=>(fq q U).2.2.2.2.2,λq U=>?_],?_]
 ·let#[c1,c2,c3,c4,c5,_]:=fq q U;rwa[c1,c2,c3,c4,c5]
 ·rw[p1.length_eq,<- Paired.length (ug r py)];rwa[l1]
theorem A8{i:Nat}(hi:i<n)(x:Nat×ai):(bN n x).getD i []=if i=x.1 then[x.2] else[]:=by
 unfold bN;rw[Gc,Ga,Ml hi]
 rfl
theorem qi{P:Int}{i:Nat}(hP:Fz P)(hB:0<B)(b1:P≠0->B=1)(tok:∀x∈tb,DvT P L n x)(hS:∀s∈S,jN P L n B tb s/\aY B s.2*s.2.2.2.2=s.2.2.2.1*B)(py:Paired (ku P) (S.map (hJ tb B)) ys)(hms:∀(i:Nat) (e:List ai),ms[i]? = some e->e.Perm (atP i ys)/\e.Pairwise lE)(lm:ms.length=tb.length)(hi:i<n):∀k,k<=tb.length->(pat P i ((tb.map (bN n)).take k) (ms.take k)).Perm (atP i ((S.filter λs=>decide (s.1<k)).map (·.2)))
 |0,_=>by
  rw[List.filter_eq_nil_iff.mpr (by simp)]
  rwa[.nil]
 |k+1,hk=>by
  have ih:=qi hP hB b1 tok hS py hms lm hi k ()
  have Y:k<ms.length:=()
  let#[p1,_]:=hms k _ (e_ Y);let#[t1,t2]:=gG (show k<tb.length by lia)
  have Z:∀s∈stR k S,s.1=k/\jN P L n B tb s/\aY B s.2*s.2.2.2.2=s.2.2.2.1*B:=λs hs=>#[(ip hs).2,hS s (ip hs).1]
  let#[f1,_]:=lA hP hB b1 tok Z (ug k py);have pl:∀x∈(stR k S).map (·.2),x.1=(bo tb k).1:=λx U=>by
   let#[s,hs,1]:=GK.mp U;let#[e,st,_]:=Z s hs;rw[<- e];rwa[st.2.2.1.symm]
  rw[Kw,Kw,Ga,t1,e_ Y];show(pat P i (_++[bN n (bo tb k)]) (_++[ms[k]])).Perm _;rw[pP _ _ _ _ _ _ (by rw[LK,LK,k_,lm]),A8 hi]
  erw[List.Perm.trans ?_ (eY ((tU k S).map _)).symm];rw[KB,on];erw[ih.append ?_]
  by_cases U:i=(bo tb k).1
  ·rw[u_ U,uh (λx O=>(pl x O).trans U.symm),MB]
   have e1:cg P [(bo tb k).2] ms[k]=js P (bo tb k).2 ms[k]:=by
    unfold cg;rw[flatMap_cons,List.flatMap_nil,Mg]
   rw[e1];refine(p1.map _).trans ?_;show(js P (bo tb k).2 (atP k ys)).Perm _;rw[f1];rwa[.refl _]
  ·rw[t_ U,xp (λx O z=>U (z.symm.trans (pl x O)))]
   rwa[.nil]
theorem yd{b:List ai}(p:a.Perm b)(nb:(b.map (·.1)).Nodup)(k:List Int):co a k=co b k:=by
 rcases dc a k with h|⟨h,hk⟩
 ·have:=uj nb (p.mem_iff.mp h);rwa[this.symm]
 ·rw[h,uB λz=>hk ((p.map _).mem_iff.mpr z)]
theorem DP{P:Int}{R:List (Nat×ai)}{row:List (List ai)}(pm:(S.map (·.2)++R).Perm (aN 0 row))(hS:∀s∈S,jN P L n B tb s)(hR:∀y∈R,∀x∈tb,x.1=y.1->bD x.2.1 y.2.1=false):R.Perm ((aN 0 row).filter λx=>nuB tb x.1 x.2):=by
 have h1:=pm.filter λx=>nuB tb x.1 x.2
 have O:(S.map (·.2)).filter (λx=>nuB tb x.1 x.2)=[]:=by
  rw[filter_eq_nil_iff];intro x Y;let#[s,U,1]:=GK.mp Y;rw[E9 (hS s U)]
  decide
 have e2:R.filter (λx=>nuB tb x.1 x.2)=R:=List.filter_eq_self.mpr λy Z=>Es (hR y Z)
 rw[NH,O,e2,nil_append] at h1;rwa[h1]
theorem vV{P:Int}{i:Nat}{row:List (List ai)}{e0:List ai}(hP:Fz P)(hr:RwS P L n row)(tok:∀x∈tb,DvT P L n x)(t5:tb.length<=5)(h:mM P L n tb (aN 0 row) ms left)(hi:i<n)(ee:row[i]? = some e0)(me:tQ P L i tb.length (tb.map (bN n)) ms e):
  e.length+(e0.filter (nuB tb i)).length<=60/\iG P (e++e0.filter (nuB tb i))/\∀out,F3 P (e++e0.filter (nuB tb i)) out->out=e0:=by
 let#[S,R,ys,B,pm,hB,b1,hS,hR,py,ac,_]:=h.ex;have O:=hP.b;let#[U,l0,_,_]:=hr.2 i e0 ee;have pp:=qi hP hB b1 tok hS py ac h.lm hi tb.length (ge _);rw[List.filter_eq_self.mpr (λs hs=>p_ (hS s hs).1.2.1)] at pp
 have pR:=eY (i:=i) (DP pm (λs hs=>(hS s hs).1) hR)
 rw[gR,oM ee] at pR;have pw:(pat P i ((tb.map (bN n)).take tb.length) (ms.take tb.length)++e0.filter (nuB tb i)).Perm e0:=by
  have h1:=eY (i:=i) pm;rw[on,oM ee] at h1;exact(pp.append pR.symm).trans h1
 let#[Y,l1,a']:=me;have cd:FL P L 45 (e0.filter (nuB tb i)):=#[U.1.sublist filter_sublist,λp Z=>U.2 p ((LM.mp Z).1)]
 have ld:(e0.filter (nuB tb i)).length<=3:=Lg (Nb ..) l0;erw[(),nJ hP Y.nodup cd.nodup (λq hq=>#[(Y.2 q hq).1,(Y.2 q hq).2.1]) (λq hq=>#[(cd.2 q hq).1,(cd.2 q hq).2.1]) () () () () (λk u v hu hv=>(gB O.1 O.2.1 (Y.2 _ hu).1 (cd.2 _ hv).1 (Y.2 _ hu).2.1 (cd.2 _ hv).2.1 ()).1.mono ()),λout is=>?_]
 erw[Al is U.1 (λp Z=>(U.2 p Z).2.2.1) λk=>?_]
 generalize pat P i ((tb.map (bN n)).take tb.length) (ms.take tb.length)=A at *;have a6:((A++e0.filter (nuB tb i)).map (·.1)).Nodup:=(pw.map _).nodup_iff.mpr U.nodup;have a9:∀p∈A++e0.filter (nuB tb i),OkN P p.2:=λp Z=>U.ok p (pw.mem_iff.mp Z)
 have a7:(A.map (·.1)).Nodup:=by
  rw[KB,OM] at a6;rwa[a6.1]
 have a8:∀p∈A,OkN P p.2:=λp Z=>a9 p (Mn _ Z)
 rw[oW O.1 O.2.2 Y.nodup cd.nodup Y.ok cd.ok,a',jb a7 a8,<- oW O.1 O.2.2 a7 cd.nodup a8 cd.ok,jb a6 a9];rwa[yd pw U.nodup k]
theorem Fm:(["_law_here", "_law_there", "_law_prime_here"]:List Str).Nodup:=by decide +kernel
def ui(K:Frag)(P0:Addr):Sp:=λvs H Q _=>∃(a:Addr) (ns:List Int),vs=[.ref a]/\SqL K H a (ns.map V.int)/\ns.length<=63/\H P0=some (.tbl (List.toArray []))/\∀H',Q (.bl true) H'
theorem F0.keepL{l:Addr}(hl:H l=some (.lst xs))(k:∀c u,c≠l->H c=some u->H' c=some u)(h:F0 H P0):F0 H' P0:=by
 let#[ps,z1,z2,z3]:=h;erw[ps,k _ _ (aw z1 hl #[3]) z1,z2,?_]
 rcases z3 with z|⟨O,z4,z5⟩
 ·rwa[.inl z]
 ·rwa[.inr #[O,z4,k _ _ (aw z5 hl #[3]) z5]]
theorem mB{R:α->β->Prop}:∀{xs:List α} {ys:List β},Paired R xs ys->∀y∈ys,∃x∈xs,R x y
 |_,_,.cons h t,y,O=>by
  rcases GH.mp O with rfl|O
  ·rwa[_,KQ,h]
  ·let#[x,U,r]:=mB t y O;rwa[x,GG _ U,r]
theorem mO:∀{row:List (List ai)} {k:Nat},(∀e∈row,e.length<=3)->(aN k row).length<=3*row.length
 |[],_,_=>ge _
 |e::r,k,h=>by
  have:=mO (row:=r) (k:=k+1) λe O=>h e (GG _ O)
  have h1:=h e KQ;show((e.map λq=>(k,q))++aN (k+1) r).length<=_
  rw[y_,k_,Mf];lia
theorem tI{P h:Int}{cs:List Int}{row:List (List ai)}(p:Paired (Dl P L h) cs row)(hh:∀c∈cs,h-c<1000)(c3:cs.length<=3):RwS P L cs.length row/\RwOk P L row/\(∀x∈aN 0 row,x.2.2.1≠0)/\(aN 0 row).length<=30:=by
 have lr:cs.length=row.length:=Paired.length p;have ent:∀e∈row,FL P L 45 e/\e.length<=3/\(∀q∈e,∀x∈q.1,x<1000)/\∃s:Int,∀q∈e,q.1.sum=s:=λe O=>by
  let#[c,hc,ca,l,hs]:=mB p e O;erw[ca,l,λq U x Y=>?_,h-c,λq U=>by have:=hs q U;lia]
  have h1:=pL (ca.2 q U).2.2.2.2 x Y;have h2:=hs q U;have h3:=hh c hc;lia
 erw[#[lr.symm,λi e O=>ent e (E_ O)],λe O=>?_,λx Y=>?_,?_]
 ·let#[ca,_,Y,_]:=ent e O;erw[ca.nodup,λq U=>?_]
  let#[Z,c2,_,c4,c5]:=ca.2 q U;rwa[Z,c2.mono #[],(),λx h=>#[c5 x h,Y q U x h]]
 ·let#[i,e,_,e2,e3]:=iI Y;let#[Z,_,c3,_]:=(ent e (E_ e2)).1.2 _ e3;rwa[xM Z (A_ c3)]
 ·have:=mO (row:=row) (k:=0) λe O=>(ent e O).2.1
  lia
theorem CY{P:Int}{row:List (List ai)}(hP:Fz P)(hr:RwS P L n row)(tok:∀x∈tb,PtOk P L n x)(t5:tb.length<=5)(h:mM P L n tb (aN 0 row) ms left):CS P L n (tb.map (bN n)) ms:=by
 erw[by rw[k_,h.lm],by rw[k_];rwa[t5],λa6 U=>?_,EH hP hr (λx Y=>(tok x Y).dv) h]
 let#[x,Y,1]:=GK.mp U;erw[dH n x,λe he=>?_]
 let#[j,_,1]:=GK.mp he;let#[_,h2,h3,_,Z,h6,h7]:=tok x Y
 by_cases e:j=x.1
 ·rw[u_ e];erw[#[pairwise_singleton ..,λq O=>?_],ge _]
  rw[GF.mp O];rwa[Z,h6.mono #[],p_ h7,by rw[h2],h3]
 ·rw[t_ e];rwa[#[.nil,λq O=>by cases O],Gw _]
theorem FS.keepP{P:Int}{row:List (List ai)}(hP:H P0=some (.tbl tps))(k:FE P0 H H')(h:FS P H v row):FS P H' v row:=by
 let#[r,es,1,U,Z]:=h;erw[22,r,es,1,k.lst hP U,ao (λ_ _ z=>?_) Z]
 let#[l,ts,1,O,Y]:=z;rwa[22,l,ts,1,k.lst hP O,Y.mono λt xs e=>k.tup hP e]
theorem FQ.keepP{CR x:Addr}{P:Int}(hP:H P0=some (.tbl tps))(k:FE P0 H H')(h:FQ CF CR H x P):FQ CF CR H' x P:=by
 rcases h with⟨h0,dx,e⟩|⟨h0,dx,e⟩
 ·rwa[.inl #[h0,dx,k _ _ e (aw e hP #[3])]]
 ·rwa[.inr #[h0,dx,k _ _ e (aw e hP #[3])]]
theorem vX{a:Addr}{ps:Array Value}(hP:H P0=some (.tbl ps))(k:FE P0 H H')(h:SqL K H a xs):SqL K H' a xs:=by
 rcases h with(h|⟨o,h⟩)|h
 ·rwa[.inl (.inl (k.lst hP h))]
 ·rwa[.inl (.inr #[o,k _ _ h (aw h hP #[3])])]
 ·rwa[.inr h]
theorem F4:Fv ["_law_script", "_law_bag_here", "_law_prime_here", "_law_letters", "_law_columns_here", "_law_rows", "_law_ring_here", "_law_k", "_law_row", "_law_due_here", "_law_turn", "_law_multiples", "_law_left", "_law_mixed_here"] ["_law_script"] (am xv):=.i
set_option maxHeartbeats 4000000 in
theorem Dh{CR:Addr}(F:Fun K "law" "law" xv f fd)(T:Blt mg)(Hv:`FnB 2 "_law_bag" (yh K))(IC:`FnB 2 "_law_prime" uF)(GY:`FnB 1 "_law_take" eM)(Ij:`FnB 2 "_law_columns" xj)(HD:`FnB 5 "_law_parts_table" (Fe K))(IS:`sf 5 "_law_ring" (oG CF CR CG Hb))(HJ:`FnB 5 "_law_spread_row" qZ)(IZ:`FnB 2 "_law_due" Ck)(HN:`FnB 1 "_law_copied" qf)(Kj:`FnB 15 "rest" (Am CF CR CG P0))(ID:`FnB 6 "_law_mixed" tY)(Hc:`FnB 4 "_law_sum" lG):`aC CX0 16 f fd ["_law_script"] (ui K P0):=by
 erw[F.o F4 λ_ _ _ _ H _ Q _ hr h=>?_]
 ·let#[a,ns,1,hS,c5,jw,q]:=h;erw[_,(af (aq (i:=1) F4.nd rfl #[4] (ay Hv hr.m (aa (pv 0) (aa ak ag))))
(af (aq (i:=2) F4.nd rfl (Or.inr rfl) (ay IC hr.m (aa (pv 1) ag)))
(af (aq (i:=3) F4.nd rfl #[4] (ap aX ak (ay GY hr.m (aa (pv 1) (aa ak ag)))))
(af (aq (i:=4) F4.nd rfl #[4] (ay Ij hr.m (aa (ap aX ak (ay GY hr.m (aa (pv 1) (aa ak ag)))) (aa ak (aa (pv 1) ag)))))
(af (aq (i:=5) F4.nd rfl #[4] (ay HD hr.m (aa (pv 0) (aa (pv 2) (aa (pv 3) (aa (pv 4) ag))))))
(af (aq (i:=6) F4.nd rfl #[4] (yk IS hr.m pA (aa (pv 2) (aa (pv 3) ag))))
(af (bi GM rfl (nE rfl T.range (aa ak (aa (ya T (aa ak (aa (CC T (aa ak (aa (bU K T (pv 0)) ag))) ag))) ag))) (aO (i:=7) F4.nd rfl #[4])
(af (aq (i:=1) F4.nd rfl #[4] (ay Hv hr.m (aa (pv 0) (aa (pv 7) ag))))
(af (aq (i:=8) F4.nd rfl #[4] (ay HJ hr.m (aa (pv 2) (aa (pv 3) (aa (pv 4) (aa (ap aX (yU T (pv 4) false) (ay GY hr.m (aa (pv 1) (aa ak ag)))) (aa (pv 1) ag)))))))
(af (aq (i:=9) F4.nd rfl #[4] (ay IZ hr.m (aa (pv 5) (aa (pv 8) ag))))
(aj (bi GM rfl (bj rfl T.range (aa ak ag)) (aO (i:=10) F4.nd rfl #[4])
(af (fz (ay Kj hr.m (aa (pv 6) (aa (pv 4) (aa (ay HN hr.m (aa (pv 5) ag)) (aa (aG (aF K rfl) (ay HN hr.m (aa (aQ (aa (pv 8) ag)) ag)) ak (λ_ _=>rfl)) ag))))) (bc K (i:=11) (j:=12) rfl rfl F4.nd rfl rfl rfl rfl))
(af (aT (PW.pt (qv (az (wA K rfl hr.units) (pv 12) (pv 9) (aA _)) (kX (az mL (bU K T (pv 11)) (bU K T (pv 5)) (aA _)))))
(aj (ar gK))
aE)
(af (aq (i:=13) F4.nd rfl #[4] (ay ID hr.m (aa (pv 2) (aa (bU K T (pv 4)) (aa (pv 5) (aa (pv 11) ag))))))
(af (aT (az (wA K rfl hr.units) (by rwa[bh (N:=["_law_here", "_law_there", "_law_prime_here"]) (src:=[none,none,some 2]) rfl rfl rfl (by exact(iz K false false rfl rfl T.zip (aa (pv 13) (aa (pv 9) ag)))) (λ_ _ _=>by rwa[by exact(bc K (i:=0) (j:=1) rfl rfl Fm rfl rfl rfl rfl),aV,by exact(ay Hc hr.m (aa (pv 2) (aa (ap pJ (pv 0) (pv 1)) ag)))])]) (pv 8) (aA _))
(aj (ar gK))
aE)
(af (aZ (bmA K rfl (aG (aF K rfl) (pv 12) ak (λ_ _=>rfl)) (aa jg ag)))
(aj (aZ (bmA K rfl (pv 11) (aa jg ag)))))))))))))))
(aj (ar gK))))))))),?_]
  erw[75,0,a,ns,(0),1,hS,c5,#[],#[],λp pa pb np hb=>?_]
  have s1:=Fu.new (o:=.lst [.int pa,.int pb]) np;have f2:upd H p (.lst [.int pa,.int pb]) p=some (.lst [.int pa,.int pb]):=ae;generalize upd H p (.lst [.int pa,.int pb])=H1 at s1 f2;erw[84,0,p,pa,pb,100,1,f2,hb,#[],λP a2 b2 H2 hP ho gy k2=>?_]
  have jx:∀c o,H c=some o->H2 c=some o:=λc o e=>k2 _ _ (s1 _ _ e) (ah e np)
  erw[96,0,p,a2,b2,_,0,ho,gy,#[],#[],aM #[] #[],λr3 a3 b3 n7 n8 h5=>#[22,2,?_]]
  have k3:∀c o,H c=some o->upd H2 p (.lst [.int a3,.int b3]) c=some o:=λc o e=>by rw[al (ah e np)];rwa[jx _ _ e]
  have f3:upd H2 p (.lst [.int a3,.int b3]) p=some (.lst [.int a3,.int b3]):=ae;generalize upd H2 p (.lst [.int a3,.int b3])=H3 at k3 f3;obtain⟨L,hL⟩:∃L:Nat,(1+r3:Int)=L:=#[(1+r3).toNat,()]
  simp only[hL];erw[96,0,p,a3,b3,_,0,f3,h5,#[],#[],aM #[] #[],λr4 a4 b4 n9 n' h6=>#[22,2,?_]]
  have k4:∀c o,H c=some o->upd H3 p (.lst [.int a4,.int b4]) c=some o:=λc o e=>by rw[al (ah e np)];rwa[k3 _ _ e]
  have f4:upd H3 p (.lst [.int a4,.int b4]) p=some (.lst [.int a4,.int b4]):=ae;generalize upd H3 p (.lst [.int a4,.int b4])=H4 at k4 f4;erw[9018,0,p,_,_,a4,b4,0,(),(),#[],#[],f4,h6,#[],λc cs a5 b5 H5 nc hc lc oc kj k9 k5=>?_]
  have s5:Fu H H5:=λc o e=>k5 _ _ (k4 _ _ e) (ah e np)
  have c1:1<=cs.length:=()
  have c3:cs.length<=3:=()
  erw[51514029,0,0,0,0,a,c,ns,P,L,cs,1,s5.seq hS,c5,hP,(),(),hc,c1,c3,λt ws tb H6 s6 ht pw t5 tok=>?_]
  erw[5123,0,0,P,L,1,hP,λh=>absurd #[(),()] h,λ_ _ g x H7 s7 hN hG=>?_]
  have j0:Fu H H7:=(s5.trans s6).trans s7;have ew:=s7 _ _ (s6 _ _ hc);have dy:=s7 _ _ ht;have la:Paired (FS P H7) ws (tb.map (bN cs.length)):=ao (λ_ _ z=>z.same s7) pw
  have O:=j0 _ _ jw;have g7:=j0.seq hS;have k6:F0 H7 P0:=#[(List.toArray []),O,trivial,.inl rfl];clear pw ht hc hS kj k9 k5 f4 h6 k4 k3 f3 h5 ho gy k2 f2 hb;erw[62212122,0,a,0,.inl g7,_,0,_,0,_,0,#[#[],#[],(),()],dX (lo:=7) (λi σ H'=>∃x1 x7 x8 x9 cr cz de df:Option V,σ=[some (.ref a),x1,some (.int P),some (.int L),some (.ref c),some (.ref t),some (.ref g),x7,x8,x9,cr,cz,de,df]/\FE P0 H7 H'/\F0 H' P0) ?_ ?_ ?_]
  ·rwa[4042,_,_,_,_,_,_,_,0,λc o e _=>e,k6]
  ·rintro i σ H8 hi ⟨x1,x7,x8,x9,cr,cz,de,df,rfl,e4,gx⟩ N0 B0 j';have lm:(ns.map V.int).length=ns.length:=k_ ..;erw[5135,0,0,a,ns,0,vX O e4 g7,c5,(),(),λp pa pb np h7=>?_]
   have ey:=e4.lst O ew;have cp:c≠p:=ah ey np;have s9:=Fu.new (o:=.lst [.int pa,.int pb]) np;have hp:upd H8 p (.lst [.int pa,.int pb]) p=some (.lst [.int pa,.int pb]):=ae;generalize upd H8 p (.lst [.int pa,.int pb])=H9 at s9 hp;erw[515123,0,0,0,0,c,cs,1,dC (SqL.of (s9 _ _ ey)),(λz=>by rw[z] at c1;simp at c1),λm hm ke=>?_]
   erw[96,0,p,pa,pb,_,0,hp,h7,#[],#[],aM #[] #[],λr6 a6 b6 na nb k'=>?_]
   have f5:∀c o,H8 c=some o->upd H9 p (.lst [.int a6,.int b6]) c=some o:=λc o e=>by rw[al (ah e np)];rwa[s9 _ _ e]
   have ef:upd H9 p (.lst [.int a6,.int b6]) p=some (.lst [.int a6,.int b6]):=ae;generalize upd H9 p (.lst [.int a6,.int b6])=me at f5 ef;erw[22904901,2,0,p,c,P,L,_,a6,b6,_,cs,1,hP,(),(),f5 _ _ ey,cp,c3,ef,k',#[],λr es row a7 b7 et nr eg bd i7 m0 ly hy=>?_]
   have j1:Fu H8 et:=λc o e=>hy _ _ (f5 _ _ e) (ah e np)
   let#[rs,il,nz,kn]:=tI i7 (λc hc=>by have:=ke c hc;lia) c3
   have bd:Paired (FW P et) es row:=ao (λ_ _=>FF.ent) bd
   have b1:FE P0 H7 et:=e4.trans (.of j1);have c9:∀{H':Hp},FE P0 H7 H'->Paired (FS P H') ws (tb.map (bN cs.length)):=λ{H'} k=>ao (λ_ _ z=>FS.keepP O k z) la
   have en:row.length=cs.length:=rs.1;erw[11904901,0,0,t,r,P,L,cs.length,ws,es,tb,row,1,b1.lst O dy,c9 b1,t5,tok,(),eg,bd,(),λe he=>#[?_,λq hq=>((il e he).2 q hq).2.2.1],λd dl ad nd e6 c4 c7=>?_]
   ·let#[i,ei]:=getElem?_of_mem he;exact(rs.2 i e ei).2.1
   have c7:Paired (FW P ad) dl (row.zipIdx.map λe=>e.1.filter (nuB tb e.2)):=ao (λ_ _=>FF.ent) c7
   have em:FE P0 H7 ad:=b1.trans (.of e6);have e8:F0 ad P0:=(gx.same j1).same e6;have ej:=e6 _ _ eg;have eo:Paired (FW P ad) es row:=ao (λ_ _ z=>z.same e6) bd
   let#[m6,au,_]:=id e8;erw[(2),1,#[],#[],dX (n:=2) (λj σ H'=>∃cr cz de df:Option V,σ=[some (.ref a),some (.ref p),some (.int P),some (.int L),some (.ref c),some (.ref t),some (.ref g),some (.int (7+i)),some (.ref r),some (.ref d),cr,cz,de,df]/\FE P0 ad H'/\F0 H' P0) ?_ ?_ ?_]
   ·rwa[42,_,_,_,0,λc o e _=>e,e8]
   ·rintro j σ fl hj ⟨lq,lr,lu,lv,rfl,a8,c2⟩ N1 B1 jl;have b8:=em.trans a8;have be:=c9 b8;have kr:ws.length=tb.length:=by rw[Paired.length be,k_]
    erw[5185,0,0,0,t,P,ws,tb.map (bN cs.length),1,b8.lst O dy,be,(),λnf h=>by let#[x,_,1]:=GK.mp h;rw[dH];lia,λd14 j3 fo mx lf ha kz=>?_]
    have im:FS P fl (.ref r) row:=FS.keepP au a8 #[22,r,es,1,ej,eo];erw[0,(by show 1<=sizeLine;decide),λe5 kt=>?_]
    have fa:=Fu.new (o:=.lst [.ref r]) kt;have g4:upd fo e5 (.lst [.ref r]) e5=some (.lst [.ref r]):=ae;generalize upd fo e5 (.lst [.ref r])=mf at fa g4;have cb:=lf.trans fa;erw[45,e5,P,[.ref r],[row],1,g4,.cons (im.same cb) .nil,by show 1<=60;decide,λm5 h=>by rw[GF.mp h];lia,λd16 ma fq my j2 hf l3=>?_]
    cases l3 with
    |cons pz pn=>
    cases pn;let#[rh,j6,1,nh,_,kk,l5]:=pz;have ac:=cb.trans j2;have cj:=fa.trans j2;have a9:FE P0 H7 fq:=b8.trans (.of ac);have ea:=c2.same ac;let#[m',lx,_]:=id ea;erw[44,d16,_,2,SqL.of hf,bt (j:=0) rfl,?_];let#[j5,hg]:=id hG;have ng:g≠P0:=aw hg O #[3]
    erw[4040401909,g,x,c,d14,rh,P,L,cs.length,cs.map V.int,j3,j6,tb,row,1,#[j5,a9 _ _ hg ng],FQ.keepP O a9 hN,hP,a9.lst O ew,k_ ..,(),(),cj _ _ ha,ao (λ_ _ z=>z.row.same cj) kz,#[t5,λx hx=>(tok x hx).dv],kk,ao (λ_ _=>FF.ent) l5,en,il,nz,kn,ea,λrt d1 d2 eu g2 ms left fu hu g8 kl ez p1 n1 hh p2 n2 m4 rr=>?_]
    have a':=a9.trans hu;have U:FE P0 ad fu:=(a8.trans (.of ac)).trans hu;erw[232122,rt,0,SqT.of kl,1,_,0,2,?_];have el:=Bq rs rr;subst el;have c8:Paired (FW P fu) dl (row.zipIdx.map λe=>e.1.filter (nuB tb e.2)):=by
     let#[_,mr,z1,z2,z3]:=FS.keepP au U #[22,d,dl,1,c4,c7];cases z1;rw[U.lst au c4] at z2;cases z2;rwa[z3]
    have eb:=U.lst au c4;have kq:eu.length=tb.length:=by rw[Paired.length p1,rr.lm]
    erw[512411,0,0,dR P _,dR P _,tZ hh (ao (λ_ _=>FF.ent) p2),tZ eb c8,(ji P _).sh #[],(ji P _).sh #[],0,?_]
    rw[qY (ji P _)];erw[cG ?_];erw[6262,0,d1,0,.inl (SqL.of ez),0,t,0,.inl (SqL.of (a'.lst O dy)),?_];erw[1,0,?_];rw[show decide (V.int (eu.length:Int)=V.int (ws.length:Int))=true from p_ (by rw[kq,kr])]
    erw[cG ?_];have mc:=CY hP rs tok t5 rr;have ko:(cs.map V.int).length=cs.length:=k_ ..;erw[5122,0,0,c,0,.inl (SqL.of (a'.lst O ew)),?_];rw[ko];erw[119049,0,0,t,d1,P,L,cs.length,ws,eu,tb.map (bN cs.length),ms,1,hP,(),a'.lst O dy,c9 a',ez,ao (λ_ _=>FF.ent) p1,mc,(),λdm j7 out mm n4 fe hn i9 lo ih=>?_]
    have m2:j7.length=cs.length:=by rw[Paired.length i9,lo]
    have m1:dl.length=cs.length:=by rw[Paired.length c8,k_,length_zipIdx,en]
    rw[k_] at ih;have ec:=fe _ _ eb;erw[5123,0,0,dm,d,1,#[_,dC (SqL.of hn)],#[_,dC (SqL.of ec)],xh (P:=P) (rest:=[some (.int P)]) rfl (λi e=>row[i]? = some e) hn ec () () (λi v1 v2 fv R e1 e2 fi k=>?_) (λacc lw Y ax n3 li k8 l4 mu lb=>?_)]
    ·let#[e,ee,l1,bx,1,_,_,kb,i']:=aD i9 e1;let#[e',g0,l2,bz,1,kd,f']:=aD c8 e2;have hi:i<row.length:=by
      have:=(q_.mp ee).1;lia
     rw[Ga,getElem?_zipIdx,e_ hi] at g0;obtain rfl:row[i].filter (nuB tb (0+i))=e':=G_ g0;rw[Nat.zero_add] at f';let#[i3,lp,g3]:=vV hP rs (λx hx=>(tok x hx).dv) t5 rr () (e_ hi) (ih i e ee)
     have mv:bx.length=e.length:=Paired.length i';have mw:bz.length=(row[i].filter (nuB tb i)).length:=Paired.length f';have ck:=fe.trans fi;erw[5185,0,0,0,l1,l2,bx,bz,1,1,fi _ _ kb,ck _ _ kd,by rw[Gr];lia,λdk kw=>?_]
     have cm:=Fu.new (o:=.lst (bx++bz)) kw;have g6:upd fv dk (.lst (bx++bz)) dk=some (.lst (bx++bz)):=ae;generalize upd fv dk (.lst (bx++bz))=c0 at cm g6;erw[46,dk,P,_,e++row[i].filter (nuB tb i),1,hP,g6,FA.app (f'.mono λt xs e=>(ck.trans cm) _ _ e) (i'.mono λt xs e=>(fi.trans cm) _ _ e),by rw[y_];rwa[i3],lp,λd22 iy n6 j4 i6 ln hl ic hs=>?_]
     obtain rfl:=g3 _ hs;rwa[k d22 iy _ j4 (cm.trans ln) (cm.free i6) hl ic (e_ hi)]
    have er:Y=row:=by
     erw[Pq λi=>?_]
     by_cases hi:i<Y.length
     ·rw[e_ hi];exact(lb i _ (e_ hi)).symm
     ·rw[LN (),LN ()]
    subst er;have Z:=fe.trans li;have b':FE P0 ad ax:=U.trans (.of Z);have iv:FS P ax (.ref r) Y:=FS.keepP au b' #[22,r,es,1,ej,eo];erw[6411,0,dR P _,dR P _,tZ k8 (ao (λ_ _=>FF.ent) l4),DS iv,(ji P _).sh #[],(ji P _).sh #[],0,?_]
    rw[qY (ji P _)];erw[cG ?_];have f1:=Z _ _ hh;have c6:0<g2.length:=by rw[Paired.length p2,k_,length_zipIdx];lia
    let#[e0,g1,l0,b9,j9,kx,mt,ka,l']:=aD p2 (e_ c6);have b0:=Z _ _ ka;erw[84,0,d2,g2,2,SqL.of f1,bt (j:=0) (e_ c6),?_];rw[j9];have m3:b9.length<=3:=by
     rw[show b9.length=e0.length from Paired.length l']
     have hi:0<Y.length:=()
     rw[Ga,getElem?_zipIdx,e_ hi] at g1;obtain rfl:Y[0].filter (nuB tb (0+0))=e0:=G_ g1;rwa[Lg (Nb ..) (rs.2 0 _ (e_ hi)).2.1]
    have f0:=Z _ _ ez;have g9:F0 ax P0:=g8.same Z;have e3:FE P0 ad fq:=a8.trans (.of ac);erw[0134,.inl #[1,_,SqL.of b0],l0,b9,0,1,b0,by rw[Gr];lia,?_]
    have dz:∀c u,c≠l0->ax c=some u->upd ax l0 (.lst (b9++[.non])) c=some u:=λc u hc e=>by rw[al hc];rwa[e]
    have ed:upd ax l0 (.lst (b9++[.non])) l0=some (.lst (b9++[.non])):=ae;generalize upd ax l0 (.lst (b9++[.non]))=c0 at dz ed;have gl:F0 c0 P0:=F0.keepL b0 dz g9;obtain⟨zs,hz,lz⟩:∃zs,c0 d1=some (.lst zs)/\zs.length<=60:=by
     by_cases h:d1=l0
     ·rw[h];rwa[_,ed,by rw[y_,GV];lia]
     ·rwa[_,dz _ _ h f0,()]
    erw[1234,0,.inl #[1,_,SqL.of hz],d1,zs,0,1,hz,by rw[Gr];lia,?_]
    have hv:∀c u,c≠d1->c0 c=some u->upd c0 d1 (.lst (zs++[.non])) c=some u:=λc u hc e=>by rw[al hc];rwa[e]
    erw[jl _ _ #[42,_,_,_,0,λc' o e h9=>?_,F0.keepL hz hv gl]]
    have g5:=e3 _ _ e h9;rwa[hv _ _ (ah g5 n1) (dz _ _ (ah g5 kx) (b' _ _ e h9))]
   ·rintro σ fl ⟨lq,lr,lu,lv,rfl,a8,c2⟩;rwa[j' _ _ #[4042,_,_,_,_,_,_,_,0,em.trans a8,c2]]
  ·rintro σ H8 ⟨x1,x7,x8,x9,cr,cz,de,df,rfl,e4,gx⟩;rwa[q _]
section
variable {n:Str}{st:Stmt}{k:Nat}{sp:Sp}{ps:List Str}
theorem fxC(X:K.In h)(G:h.Ns mainGlobals mg)(d:DefIn K n st)(ht:tabIn K n=some (c0,P0))(o:∀{f fd},Fun K n n st f fd->(∀oc od O osl,K.lookup f=some #[oc,od,.func O,osl]->O.code=.ref c0)->`aC (CXE P w) k f fd ps sp)(b:BindsOk n st ps):`sf k n sp:=
 let ⟨f,fd,a,F⟩:=d
 #[f,fd,ps,o F (A1 ht a),Pu X G a,F.kp,b.b F]
theorem lawT{x:Str}(X:K.In h)(G:h.Ns mainGlobals mg)(d:DefIn K n st)(e:mg n=some (.ref fa))(o:∀{fd} {base:Heap},Fun K n n st fa fd->K.In base->base.Ns mainGlobals mg->BmB mg base->CodeHd base c0 P0->`aC CX0 k fa fd ps sp)(b:BindsOk n st [x]):
  ∃fd:FuncData,(∀(s:Shared) (v:Value),BindsTo s fd #[[v],[]] [(x,v)])/\∀base:Heap,K.In base->base.Ns mainGlobals mg->BmB mg base->CodeHd base c0 P0->`aC CX0 k fa fd ps sp:=by
 let#[f,fd,a,F]:=d;cases e.symm.trans (Pu X G a);let#[oc,od,kV,doc,pm,an,cdv,ct,osl,1,lk,O]:=id F.ex;rwa[_,λs v=>.of_eq (b kV doc pm an cdv ct v),λbase=>o F]
theorem tabIn_of{oc oc':Value}{od od':Option Addr}{osl osl':Array (Option Value)}{vs:Array Value}(a:nsIn K mainGlobals n=some (some (.ref f)))(l:K.lookup f=some #[oc,od,.func fd,osl])(hc:fd.code=.ref c0)(lc:K.lookup c0=some #[oc',od',.fields vs,osl'])(hv:(vs[11]?:Option Value)=some (.ref P0)):tabIn K n=some (c0,P0):=by
 unfold tabIn;simp only[a,l,hc,lc,hv]
end
set_option maxHeartbeats 4000000 in
theorem all_mk{l:PySem.W.OpenLaw}(X:K.In h)(G:h.Ns mainGlobals mg)(hfa:mg "law"=some (.ref fa))(d0:DefIn K "top_and_bottom" cU)(d1:DefIn K "is_prime" h8)(d2:DefIn K "greatest_divisor" cf)(d3:DefIn K "inverse" je)(d4:DefIn K "packed" l8)(d5:DefIn K "unpacked" gQ)(d6:DefIn K "same_in_all" eO)(d7:DefIn K "column_frame" eB)(d8:DefIn K "least_multiple" cV)(d9:DefIn K "common_divisor" cQ)(d10:DefIn K "cancelled" qV)(d11:DefIn K "vector_of" gm)(d12:DefIn K "over_one_bottom" cw)(d13:DefIn K "row_of" lX)(d14:DefIn K "term_height" eP)(d15:DefIn K "lead" sI)(d16:DefIn K "rest" rL)(d17:DefIn K "table_basis" eJ)(d18:DefIn K "rest_by" jo)(d19:DefIn K "multiples_of" dQ)(d20:DefIn K "_law_cell" f7)(d21:DefIn K "_law_bag" gN)(d22:DefIn K "_law_take" fZ)(d23:DefIn K "_law_great" fB)(d24:DefIn K "_law_signed" eT)(d25:DefIn K "_law_low" gY)(d26:DefIn K "_law_is_prime" dj)(d27:DefIn K "_law_prime" fw)(d28:DefIn K "_law_numbers" dU)(d29:DefIn K "_law_plus" fK)(d30:DefIn K "_law_times" fG)(d31:DefIn K "_law_nought" eS)(d32:DefIn K "_law_unit" f8)(d33:DefIn K "_law_number" eQ)(d34:DefIn K "_law_product" dO)(d35:DefIn K "_law_key" gW)(d36:DefIn K "_law_sum" gX)(d37:DefIn K "_law_sum_times" cM)(d38:DefIn K "_law_mixed" fH)(d39:DefIn K "_law_columns" dY)(d40:DefIn K "_law_copied" eK)(d41:DefIn K "_law_lead" gk)(d42:DefIn K "_law_under" fj)(d43:DefIn K "_law_ring" fT)(d44:DefIn K "_law_spread_row" cy)(d45:DefIn K "_law_parts_table" ce)(d46:DefIn K "_law_due" hW)(d47:DefIn K "law" xv)(htab:tabIn K "lead"=some (c0,P0)){Hi:Addr}(JV:ClsIn K "Fractions" Hi)(Ja:findIn K (.ref Hi) "__init__"=some (some (.builtin "object.__init__")))(Je:MethIn K Hi "prime" "Fractions.prime" cx){Ht:Addr}{Jf:Value}{Jg:Option Addr}{Iv:Tok}{Jo:Nat}{Jm:Array (Option Value)}{Hl:Addr}{Jp HP:Option Addr}{Jq:Array (Option Value)}{Jr HQ HR HS Hu HU:Value}(Iy:findIn K (.ref Hi) "of"=some (some (.ref Hl)))(Iz:isFn K (.ref Hl)=true)(IK:K.lookup Hl=some #[Jr,Jp,.func (fnOf "of" "Fractions.of" (bv aJ) (aW aJ) (am aJ) (.ref Ht) HQ HR HS HP Hu HU),Jq])(IL:codeIn K Hu "Fractions.of"=true)(Ic:keepIn K (.ref Hl)=true)(HV:K.lookup Ht=some #[Jf,Jg,.seq (List.toArray [.int 1 Iv]) Jo,Jm]){Hm:Addr}(J3:ClsIn K "Rests" Hm)(Hn:findIn K (.ref Hm) "modulus"=some none)(Jn:MethIn K Hm "__init__" "Rests.__init__" cR)(JJ:MethIn K Hm "prime" "Rests.prime" eU){Ie:Addr}{JK:Value}{JL:Option Addr}{Jb:Tok}{JW:Nat}{JS:Array (Option Value)}{HW:Addr}{JX IE:Option Addr}{JY:Array (Option Value)}{JZ IF IG IH Ig II:Value}(Ji:findIn K (.ref Hm) "of"=some (some (.ref HW)))(Jj:isFn K (.ref HW)=true)(Js:K.lookup HW=some #[JZ,JX,.func (fnOf "of" "Rests.of" (bv bf) (aW bf) (am bf) (.ref Ie) IF IG IH IE Ig II),JY])(Jt:codeIn K Ig "Rests.of"=true)(IT:keepIn K (.ref HW)=true)(IJ:K.lookup Ie=some #[JK,JL,.seq (List.toArray [.int 1 Jb]) JW,JS]){HX:Addr}(Kn:ClsIn K "Ring" HX)(Iw:findIn K (.ref HX) "kind"=some none)(Ik:findIn K (.ref HX) "width"=some none)(Ju:MethIn K HX "__init__" "Ring.__init__" dw)(JA:MethIn K HX "numbers" "Ring.numbers" eC)(JB:MethIn K HX "letters" "Ring.letters" dW){C_Frame:Addr}(e_Frame:ClsIn K "Frame" C_Frame)(na_Frame_width:findIn K (.ref C_Frame) "width"=some none)(na_Frame_mask:findIn K (.ref C_Frame) "mask"=some none)(na_Frame_offsets:findIn K (.ref C_Frame) "offsets"=some none)(na_Frame_places:findIn K (.ref C_Frame) "places"=some none)(e_Frame___init__:MethIn K C_Frame "__init__" "Frame.__init__" cW)(e_Frame_shift:MethIn K C_Frame "shift" "Frame.shift" eW)(e_Frame_plain:MethIn K C_Frame "plain" "Frame.plain" eN)(e_Frame_many_places:MethIn K C_Frame "many_places" "Frame.many_places" bY)(e_Frame_key:MethIn K C_Frame "key" "Frame.key" fQ)(e_Frame_place:MethIn K C_Frame "place" "Frame.place" eV)(e_Frame_packed_product:MethIn K C_Frame "packed_product" "Frame.packed_product" bI)(e_Frame_product:MethIn K C_Frame "product" "Frame.product" dn){C_Basis:Addr}(e_Basis:ClsIn K "Basis" C_Basis)(na_Basis_frame:findIn K (.ref C_Basis) "frame"=some none)(na_Basis_modulus:findIn K (.ref C_Basis) "modulus"=some none)(na_Basis_free:findIn K (.ref C_Basis) "free"=some none)(na_Basis_leads:findIn K (.ref C_Basis) "leads"=some none)(na_Basis_firsts:findIn K (.ref C_Basis) "firsts"=some none)(na_Basis_tails:findIn K (.ref C_Basis) "tails"=some none)(na_Basis_standing:findIn K (.ref C_Basis) "standing"=some none)(na_Basis_known:findIn K (.ref C_Basis) "known"=some none)(e_Basis___init__:MethIn K C_Basis "__init__" "Basis.__init__" cO)(e_Basis_add_row:MethIn K C_Basis "add_row" "Basis.add_row" dA)(e_Basis_set_row:MethIn K C_Basis "set_row" "Basis.set_row" du)(e_Basis_reducer:MethIn K C_Basis "reducer" "Basis.reducer" di)(e_Basis_sought:MethIn K C_Basis "sought" "Basis.sought" dZ){C_Division:Addr}(e_Division:ClsIn K "Division" C_Division)(na_Division_basis:findIn K (.ref C_Division) "basis"=some none)(na_Division_tops:findIn K (.ref C_Division) "tops"=some none)(na_Division_bottom:findIn K (.ref C_Division) "bottom"=some none)(na_Division_waiting:findIn K (.ref C_Division) "waiting"=some none)(na_Division_most_bits:findIn K (.ref C_Division) "most_bits"=some none)(na_Division_steps:findIn K (.ref C_Division) "steps"=some none)(na_Division_rest:findIn K (.ref C_Division) "rest"=some none)(e_Division___init__:MethIn K C_Division "__init__" "Division.__init__" bZ)(e_Division_settle:MethIn K C_Division "settle" "Division.settle" cB)(e_Division_scaled_top:MethIn K C_Division "scaled_top" "Division.scaled_top" bO)(e_Division_take_off:MethIn K C_Division "take_off" "Division.take_off" bX)(e_Division_cancel:MethIn K C_Division "cancel" "Division.cancel" cE)(Jk:nsIn K mainGlobals "NoNumber"=some (some (.ref GZ)))(IU:XCl K GZ)(JI:nsIn K mainGlobals "NoRing"=some (some (.ref Hb)))(JT:XCl K Hb)(JU:nsIn K mainGlobals "NoRow"=some (some (.ref Hz)))(J4:XCl K Hz)(zn_dict:nsIn K mainGlobals "dict"=some none)(zn_reversed:nsIn K mainGlobals "reversed"=some none)(zn_any:nsIn K mainGlobals "any"=some none){JC:Tok}(HG:nsIn K mainGlobals "LEAST_PRIME"=some (some (.int 2 JC))){Jh:Tok}(Ho:nsIn K mainGlobals "GREATEST_PRIME"=some (some (.int 9973 Jh))){Jv:Tok}(HC:nsIn K mainGlobals "MOST_LETTERS"=some (some (.int 4 Jv))){JD:Tok}(Hq:nsIn K mainGlobals "LETTER_BITS"=some (some (.int 20 JD))){JM:Tok}(Hw:nsIn K mainGlobals "PLACE_BITS"=some (some (.int 20 JM))){JE:Tok}(Hr:nsIn K mainGlobals "LETTER_MASK"=some (some (.int 1048575 JE))){JN:Tok}(Hx:nsIn K mainGlobals "PLACE_MASK"=some (some (.int 1048575 JN))){J0:Tok}(Im:nsIn K mainGlobals "FREE_BIT"=some (some (.int 524288 J0))){JO:Tok}(HY:nsIn K mainGlobals "SPARE_BITS"=some (some (.int 256 JO)))(z0:nsIn K mainGlobals "len"=some none)(z1:nsIn K mainGlobals "range"=some none)(z2:nsIn K mainGlobals "zip"=some none)(z3:nsIn K mainGlobals "all"=some none)(z4:nsIn K mainGlobals "sum"=some none)(z5:nsIn K mainGlobals "max"=some none)(z6:nsIn K mainGlobals "min"=some none)(z7:nsIn K mainGlobals "abs"=some none)(z8:nsIn K mainGlobals "tuple"=some none)(z9:nsIn K mainGlobals "list"=some none)(z10:nsIn K mainGlobals "int"=some none)(z11:nsIn K mainGlobals "bool"=some none)(z12:nsIn K mainGlobals "isinstance"=some none)(z13:nsIn K mainGlobals "enumerate"=some none)(z14:nsIn K mainGlobals "sorted"=some none)(z15:nsIn K mainGlobals "set"=some none)(z16:nsIn K mainGlobals "str"=some none):
  ∃fd:FuncData,(∀(s:Shared) (v:Value),BindsTo s fd #[[v],[]] [("_law_script",v)])/\∀base:Heap,K.In base->base.Ns mainGlobals mg->BmB mg base->CodeHd base c0 P0->aC l.prog w K mg base CX0 16 fa fd ["_law_script"] (ui K P0):=by
 have T:Blt mg:=#[LY X G z0,LY X G z1,LY X G z2,LY X G z3,LY X G z4,LY X G z5,LY X G z6,LY X G z7,LY X G z8,LY X G z9,LY X G z10,LY X G z11,LY X G z12,LY X G z13,LY X G z14,LY X G z15,LY X G z16];erw[lawT X G d47 hfa (λ{_} {base} ad _ _ hB hC=>?_) (by(repeat intro _);rfl)]
 have M {k n sp} (h:FnB l.prog w K mg base k n sp):=h;have N {k c n sp} (h:MtB l.prog w K mg base k c n sp):=h;have Jc:=JV.cl;have J1:=Pu X G JV.a;have JF:=uG (st:=aJ) IK IL Ic;have JG:FT K (fnOf "of" "Fractions.of" (bv aJ) (aW aJ) (am aJ) (.ref Ht) HQ HR HS HP Hu HU) ["self", "top", "bottom"] []:=λs us X hl=>match us,hl with|[_,_,_],_=>BindsTo.of_defaults rfl (X _ _ HV) rfl rfl rfl
 have Kr:FT K (fnOf "of" "Fractions.of" (bv aJ) (aW aJ) (am aJ) (.ref Ht) HQ HR HS HP Hu HU) ["self", "top", "bottom"] [.int 1 Iv]:=λs us X hl=>by
  let#[z1,z2,1]:=yq hl;rwa[BindsTo.of_defaults rfl (X _ _ HV) rfl rfl rfl]
 have JH:qg K Hi "of" Hl:=#[Iy,Iz,Ic];have Ix:=J3.cl;have Ks:=Pu X G J3.a;have Kk:=uG (st:=bf) Js Jt IT;have Kl:FT K (fnOf "of" "Rests.of" (bv bf) (aW bf) (am bf) (.ref Ie) IF IG IH IE Ig II) ["self", "top", "bottom"] []:=λs us X hl=>match us,hl with|[_,_,_],_=>BindsTo.of_defaults rfl (X _ _ IJ) rfl rfl rfl
 have Kv:FT K (fnOf "of" "Rests.of" (bv bf) (aW bf) (am bf) (.ref Ie) IF IG IH IE Ig II) ["self", "top", "bottom"] [.int 1 Jb]:=λs us X hl=>by
  let#[z1,z2,1]:=yq hl;rwa[BindsTo.of_defaults rfl (X _ _ IJ) rfl rfl rfl]
 have Km:qg K Hm "of" HW:=#[Ji,Jj,IT];have IM:=Kn.cl;have Ku:=Pu X G Kn.a;have O:=e_Frame.cl;have a9:=Pu X G e_Frame.a;have Y:=e_Basis.cl;have a8:=Pu X G e_Basis.a;have U:=e_Division.cl;have a6:=Pu X G e_Division.a;have Jw:=Pu X G Jk;have Kq:=Pu X G JI;have Kt:=Pu X G JU;have Z:=LY X G zn_dict;have a7:=LY X G zn_reversed;have ac:=LY X G zn_any;have HG:=Pu X G HG;have Ho:=Pu X G Ho;have HC:=Pu X G HC;have Hq:=Pu X G Hq;have Hw:=Pu X G Hw;have Hr:=Pu X G Hr;have Hx:=Pu X G Hx;have Im:=Pu X G Im;have HY:=Pu X G HY;have IN:=M (d20.fb X G λF=>Bp F T)
 have Hv:=M (d21.fb X G λF=>Dt F IN)
 have GY:=M (d22.fb X G λF=>Bx F)
 have Hs:=M (d23.fb X G λF=>Ah F GY)
 have Iq:=M (d24.fb X G λF=>wd F GY Hs)
 have He:=M (d25.fb X G λF=>DG F T)
 have HZ:=M (d26.fb X G λF=>qQ F T)
 have IC:=M (d27.fb X G λF=>xT F GY HZ)
 have IV:=M (d1.fb X G λF=>tG F HG Ho)
 have Ha:=M (d2.fb X G λF=>Dj F T)
 have Ia:=M (d3.fb X G λF=>sj F)
 have JP:MkB l.prog w K mg base 2 Hm "Rests" (pD Hm):=Jn.i J3 Ks λF=>zU F Ix Hn IV
 have Ih:=M (d28.fb X G λF=>BB F #[JV.ms,Ja,JV.kc] J1 JP)
 have Hk:=M (d33.fb X G λF=>sk F T GY Hs Iq He)
 have IP:=M (d29.fb X G λF=>yF F He)
 have IA:=M (d30.fb X G λF=>vK F He)
 have Hf:=M (d31.fb X G λF=>v8 F T)
 have IQ:=M (d32.fb X G λF=>BP F T)
 have IW:=M (d35.fb X G λF=>Bk F T)
 have Hc:=M (d36.fb X G λF=>AB F T IP Hf IW)
 have Hg:=M (d34.fb X G λF=>sU F T GY)
 have HM:=M (d37.fb X G λF=>rC F T IA Hc)
 have Ij:=M (d39.fb X G λF=>BG F T GY)
 have HJ:=M (d44.fb X G λF=>wD F T GY Hk Hg Hc)
 have HN:=M (d40.fb X G λF=>xa F T)
 have IR:=M (d41.fb X G λF=>Ag F T)
 have IB:=M (d42.fb X G λF=>yH F T)
 have IZ:=M (d46.fb X G λF=>CO F T ac IR IB)
 have ID:=M (d38.fb X G λF=>yf F T Hc HM)
 have HD:=M (d45.fb X G λF=>vj F T Hv GY Hk Hf IQ Hg)
 have Ko:Aa l.prog w K mg base 2 Hi "of" [] (oU GZ):=#[#[43,_,_,_,_,Bj JF Ha Jw IU,JH,JG,.nil],Jc];have Kp:Aa l.prog w K mg base 2 Hm "of" [] (oJ Hm GZ):=#[#[43,_,_,_,_,AG Kk Ix Hn Ia Jw IU,Km,Kl,.nil],Ix];have Jx:=N (Je.b Jc λF=>D1 F)
 have Jy:=N (JJ.b Ix λF=>Ec F Ix Hn)
 have Ib:=N (JA.b IM λF=>Bv F IM Iw)
 have Jz:=N (JB.b IM λF=>BR F IM Ik)
 have J5:Bm l.prog w K mg base 2 HX "Ring" (lY HX Hb):=Ju.ix Kn Ku λF=>xx F IM Iw Ik HC Kq JT
 have IS:sf l.prog w K mg base 5 "_law_ring" (oG Hi Hm HX Hb):=d43.fx X G λF=>Ba F Ih J5
 have Hd:=M (d0.fb X G λF=>E3 F Jx Jy)
 have Io:=M (d4.fb X G λF=>wy F Hq Hw)
 have IX:=M (d5.fb X G λF=>pQ F T a7 Hq Hw Hr)
 have Hj:=M (d6.fb X G λF=>AR F T Io)
 have J6:=N (e_Frame_shift.b O λF=>vp F Io)
 have J7:=N (e_Frame_plain.b O λF=>vO F)
 have Jd:=N (e_Frame_many_places.b O λF=>zf F T O na_Frame_offsets)
 have J8:=N (e_Frame_key.b O λF=>A3 F O na_Frame_offsets J6)
 have HE:=N (e_Frame_place.b O λF=>vv F O na_Frame_places Hx)
 have Il:=N (e_Frame_packed_product.b O λF=>DI F O na_Frame_offsets HE J7)
 have J9:=N (e_Frame_product.b O λF=>Ai F O na_Frame_width Il IX)
 have JQ:MkB l.prog w K mg base 3 C_Frame "Frame" (xJ C_Frame):=e_Frame___init__.i e_Frame a9 λF=>zl F T Z O na_Frame_width na_Frame_mask na_Frame_offsets na_Frame_places Hj Hr Hx
 have Hh:=M (d7.fb X G λF=>vx F T JQ)
 have HK:=M (d8.fb X G λF=>EW F Ha)
 have HL:=M (d9.fb X G λF=>BO F Ha)
 have HI:=M (d12.fb X G λF=>wC F Z HK)
 have Hy:=M (d11.fb X G λF=>yL F T Ib J8 Hd HI)
 have Ip:=M (d13.fb X G λF=>zg F T Ib Jd HE J9 Ko Kp)
 have JR:MkB l.prog w K mg base 3 C_Basis "Basis" (zB C_Basis C_Frame):=e_Basis___init__.i e_Basis a8 λF=>zj F T Y O na_Frame_width na_Basis_frame na_Basis_modulus na_Basis_free na_Basis_leads na_Basis_firsts na_Basis_tails na_Basis_standing na_Basis_known Hj Im Jd
 have Kb:=N (e_Basis_sought.b Y λF=>wz F Y na_Basis_frame na_Basis_free na_Basis_standing HE Il)
 have Ka:=N (sp:=zJ C_Basis C_Frame) (e_Basis_set_row.b Y λF=>wT F T Y na_Basis_modulus na_Basis_leads na_Basis_firsts na_Basis_tails Ia HL)
 have Kh:=N (e_Basis_add_row.b Y λF=>wu F T Y na_Basis_frame na_Basis_leads na_Basis_firsts na_Basis_tails na_Basis_standing na_Basis_known Ka HE Il)
 have Kc:=N (e_Basis_reducer.b Y λF=>sE F Y na_Basis_known Kb)
 have Ke:=N (e_Division_scaled_top.b U λF=>o7 F)
 have Kd:=N (e_Division_take_off.b U λF=>sR F U na_Division_tops)
 have Kf:=N (e_Division_cancel.b U λF=>wf F U na_Division_bottom na_Division_most_bits)
 have Kg:=N (e_Division_settle.b U λF=>v4 F U Y na_Division_basis na_Division_tops na_Division_bottom na_Division_steps na_Division_rest na_Basis_modulus na_Basis_leads na_Basis_firsts na_Basis_tails Kc Kd Ke Kf)
 have IY:MkB l.prog w K mg base 6 C_Division "Division" (xu C_Basis C_Frame C_Division):=e_Division___init__.i e_Division a6 λF=>yE F T Z HY U na_Division_basis na_Division_tops na_Division_bottom na_Division_waiting na_Division_most_bits na_Division_steps na_Division_rest Kg
 have Ir:=M (d14.fb X G λF=>Ey F)
 have Ki:sf l.prog w K mg base 12 "lead" (rA P0 Hz):=fxC X G d15 htab (λF a'=>Be F a' hC hB T Ir Kt J4) (λ_ _ _ _ _ _ _ _=>rfl)
 have Iu:=M (d17.fb X G λF=>wc F T Jz Ib Jx Jy Hh JR Kh Hy)
 have Ii:=M (d19.fb X G λF=>yQ F T O na_Frame_offsets Jz Ib Hh Hd Ki Ip)
 have Jl:=M (d18.fb X G λF=>wN F Y na_Basis_frame U na_Division_steps na_Division_rest IY Hy Ii Ip)
 have Kj:=M (d16.fb X G λF=>A7 F Iu Jl)
 rwa[Dh ad T Hv IC GY Ij HD IS HJ IZ HN Kj ID Hc]
theorem walk{l:PySem.W.OpenLaw}{q:Program}{loose:List Str}{XP:(Str->Option Value)->Heap->Prop}{YP:World->Heap->Prop}{d:DefRec}{dt:DefRec}{K:Params->Frag}(hn:l.most=some 63)(hdf:d.params.defaults=[])(hY:∀(w:World) (h:Heap),YP w h->(K w.params).In h)(hrec:(recsOf q).find? (λe=>e.name==("lead" : Str))=some dt)(htab:∀w:World,tabIn (K w.params) "lead"=some (c0,P0))(hKP:∀w:World,(K w.params).lookup P0=none)(F:∀(w:World) (mg:Str->Option Value) (fa:Addr) (h:Heap),(K w.params).In h->h.Ns mainGlobals mg->mg d.name=some (.ref fa)->
   ∃fd:FuncData,(∀(s:Shared) (u:Value),BindsTo s fd #[[u],[]] [("_law_script",u)])/\∀base:Heap,(K w.params).In base->base.Ns mainGlobals mg->BmB mg base->CodeHd base c0 P0->aC l.prog w (K w.params) mg base CX0 16 fa fd ["_law_script"] (ui (K w.params) P0)):
  PySem.W.WalkO q loose XP YP l.row.toRowW d [] (λf vs=>PySem.call f vs):=
 L2.walk_ofT (n:=63) (k:=16) (x := "_law_script") (CX:=λ_=>CX0) (sp:=λw=>ui (K w.params) P0) hn #[] hdf #[1,#[],#[]] hY hrec htab hKP F (λ_ _ a ns Y O U=>#[24,a,ns,1,U,Y,O,λ_=>rfl]) λ_ _ _ _ _ z=>z
end K
namespace PySem.W.Fast
#print"BWLtxYyWB@Axd,]o(5F98:ojH*LUU<.'N'j1~p>&H|N4}VuvD{E.5|E+Qj,N:]u}{V2J.f%=rGZpZ.Qd,$qEe&1[U`+|]km4G{km$#P7CQ>glL89mIGlQtkBEJkJ[m5J-u#'ccP&o(BtI,+W7r<tLX=uXM*(T;N%+x?_2DAX5TF]'>@A`Off3{y<cE49j.A0*vq}$Cb9H`%d<l3Mt^2c`@,d198q-?ohH}PA{m.{HiCS}$@OHCfbm|_:R6Ax3i<.|V$L?^+Xm~fBWf>@+qQUyd7y91%9vaBzXe<LguKva$)5IuDKDWTU[V0KNQ^|LnZ&=zebyW?gx8*du#dBS1&i(#Pr=x[gqa--(ZChUkL.4RP2W_GKl4:I#E:C.e([0oNH3:y48~*9apmT6>G29zVQS#y-5O3MZG)=*rXpD?kYX'UG~iGXV;A{ENZ(#JUcq[2'6|?6~)@SJm')Cm&2yyWR$r*%A@G`qo%MAYSd8n/KAjL;~2f(xwnC:Mz9*G(Gu/*T4q3<@1CV3#em4TC=,v,X4,&z`:ZoL6Fm4iKKE2@u8yLlNojB<pz4wcBQ-rMcizI^J.8M+jpc=?O#x40p`'suZ{aL)EW`ewxV[hMmL#F__Cfd?I(oCI#(vD>G7ruV[yZH/>2O{56dd5$mU'<3v.Tk$6%7)2QgvU=Qx/-F--`]GaUd3NsQCI80L|6k@]}@I[]$ZQrbevH6Gby'n~Ca-9Z,Oy8$^r>OYRBK|U>Z06G'e3fl:*Fh)F;uyGv24Y:|u[=WbF'-<'>)o_&}=2>%m;;{OXH@Is*P@76{/q8qXKP/ICE1Io(y&/.7-[?CtG9L]DHZ5lU|S>x>-jwl&C]cvH@*B5oX8=)A+?yb+lXc%<>+ppMt5|j,-:O_foNs{E$V{d%Vm{T.9&lYJg6A39Bb55g6N@i=;1+~eW|lxjD'Xby0cJfjKdYV~>8)@M;#HnL8j7tA6,[>2EU`b(@Z5~^:9keg$-'(2p3FUI+(mc3@9xEE1;t9#$ZD~S8N`u4m&_=:,1m<Q<`/IcJAI)^)s$g0=nVPcUMzTcBY^fjd,orqB[=^*?<S)~BW-*3@WD<V#?M+(j6Jix9:j*iC'+;^<+#n5Q}'F'9z/Kt{BG%&8RSXykDy9j$3EStleOvJ&4oy@j.wGRC,hOY&#-9CA8]|VSgcvl39Au/v3O/k5V{gDtd2k{8v8@((u@}})Mrqb[VPWa529#+0d`L[01e|x/]q}1G0b-lB5Q#0CS(j_)XKBi;Nb8Y2t~-y*i8QO1^OUh)aA#LPS0_.>'EwjBL2)hF5UE[KqN/T(*GSG[jn2m$f&;v3K:%5L-<|pRcP[BIZ:;X#J8DsD^5@:B~<uC2Y2l|7mz`IKhgVXdR7~tI=Ja=/c_ArLmbfd&Kf6D<B2{V_8y&l%`MzcV#{JW,3y(j:}f1L+G1DAgm0}*/7jmw';|ne.Sl_qxb-,/C*qery`dym4gpd8CNC$0HwsK%3[UvULd8<BcthZF6+C0f4DqeZ0p4n,Iys`K@p+*I[uFN7(nBrjiyMFy*)l3fSwHPM'qqO|>xL&0@W+Ev|;dgEG*IA&Ea:*++j3M~[5%+1IZi.;wdkw$)8|Fs04^:{FAYi*qCas_,5;|<'1~--;S8K`dp{zf((L]$n7`9$J:B?T{atTwJrt'MC>HH'JphD<?`E>_9KIRFjY.P%8GA71x&nW2;]1Us3Em(F%I^eIUr&at1'#Bo{A>M_3pXfe){I~=H>CzV_9sgK@`#TKO:L(F-5r@ESAtkf.4d.H)ak3:3$z.$E?oCXLJ9MJT6)mP&kD[#zA(?<&n~vtJ+^IG7#'J[Ss,&jF8;xxm2Z#/@7%}$~0=c2/p.LZ?HHZL$Rh<M_$|0V<rI+(,0IYy;-+uc}[pODM_p+jJGl>97Kys7K(VKM#a*nf(5c]?I:yh~&t.'EI>B'd.{Qb,@wBbQlHC8zIllO$ObzoW8$n%_qr<Pn(RyID]cgdJ:2QoFzU>P~M3|P(jv.mW.T=)k&c^=F'g$W:9Hakm)AF]hZek9;%p|[NT'FU6#xpqa;Q7AD.7m,M,FwDb5HN)^~i|)|2C{5Pkqo+J3SYBuM6'oSD#Z~PEWjPm%}=lVv]n??(J^_T0LF_|.^ea>ocG<*.8SUc,7H5Z)Gr=:-leRh;=_z5<M?(#*t$1w&D@Ba=ycrRnf+rs&CcFg%tQ8^K_Xt].r>I8DkVgqWschb9R2aojvJZU/jtl~{[@4`9P0U8{JWnhBl%hWy,70,%Ng;*c&Fg?9Bcd+r4`ty<MLm0f`I+97p)2@7&`:;Hr~86@(-He)5b~Rm00n~0jFeSQM>5O0ib{xAFr+)4]+1T|-roS;3VS<K=|,IK6fBb~80H1.WEPQU4~;LBeBt>WTHY(*JP+v(xCO{C&quq%@`.9;;W%M8p~#i071=MBFZ[1DZh0Gg2iU=-B.*&d(AW]:f8S,)IBPS;I)e;wxLCRL?e/GoN9vPE}%|6C/AwdDPmd'/Too*/$Q+Hwn-c_<0(OsZ{h*^GJ=2==9A8o%7s)G8sDT?6CQtpUF%k`K/[/6XVoCa<wHB#[emnqMc9P]2g70P:CJ;^NnP1O*:''e^,wKR2V9?YzvLoKEzbDV(%pC$M|1V8lN+0,)zx~zf}%fI?eOSBq1W?f)9`Di:/IHA"
end PySem.W.Fast
open PySem PySem.W PyProof.Rows
set_option maxRecDepth 100000 in
set_option maxHeartbeats 0 in
theorem PySem.Challenge.cw_relationladder_k19_rests_by_parts_holds : PySem.Challenge.rw_relationladder_k19_rests_by_parts.Holds := by
 w_on;o_law;k_head;(case hw=>w_witness2)
 k_fill
 refine' K.walk (l:=PySem.Challenge.rw_relationladder_k19_rests_by_parts) rfl rfl (λw h Y=>PySem.W.km_in_of Y) rfl ?htab ?hKP ?F
 case htab=>
  intro w;refine' _root_.K.tabIn_of ?a ?l ?c ?k ?v
  (case a=>k_is);(case l=>k_is);(case c=>rwa[rfl]);(case k=>k_is);(case v=>rwa[rfl])
 case hKP=>intro w;kernel_rfl
 case F=>
  intro w mg Z h U G O;refine' K.all_mk U G O ?d0 ?d1 ?d2 ?d3 ?d4 ?d5 ?d6 ?d7 ?d8 ?d9 ?d10 ?d11 ?d12 ?d13 ?d14 ?d15 ?d16 ?d17 ?d18 ?d19 ?d20 ?d21 ?d22 ?d23 ?d24 ?d25 ?d26 ?d27 ?d28 ?d29 ?d30 ?d31 ?d32 ?d33 ?d34 ?d35 ?d36 ?d37 ?d38 ?d39 ?d40 ?d41 ?d42 ?d43 ?d44 ?d45 ?d46 ?d47 ?htb ?JV ?Ja ?Je ?Iy ?Iz ?IK ?IL ?Ic ?HV ?J3 ?Hn ?Jn ?JJ ?Ji ?Jj ?Js ?Jt ?IT ?IJ ?Kn ?Iw ?Ik ?Ju ?JA ?JB ?e_Frame ?na_Frame_width ?na_Frame_mask ?na_Frame_offsets ?na_Frame_places ?e_Frame___init__ ?e_Frame_shift ?e_Frame_plain ?e_Frame_many_places ?e_Frame_key ?e_Frame_place ?e_Frame_packed_product ?e_Frame_product ?e_Basis ?na_Basis_frame ?na_Basis_modulus ?na_Basis_free ?na_Basis_leads ?na_Basis_firsts ?na_Basis_tails ?na_Basis_standing ?na_Basis_known ?e_Basis___init__ ?e_Basis_add_row ?e_Basis_set_row ?e_Basis_reducer ?e_Basis_sought ?e_Division ?na_Division_basis ?na_Division_tops ?na_Division_bottom ?na_Division_waiting ?na_Division_most_bits ?na_Division_steps ?na_Division_rest ?e_Division___init__ ?e_Division_settle ?e_Division_scaled_top ?e_Division_take_off ?e_Division_cancel ?Jk ?IU ?JI ?JT ?JU ?J4 ?zn_dict ?zn_reversed ?zn_any ?HG ?Ho ?HC ?Hq ?Hw ?Hr ?Hx ?Im ?HY ?z0 ?z1 ?z2 ?z3 ?z4 ?z5 ?z6 ?z7 ?z8 ?z9 ?z10 ?z11 ?z12 ?z13 ?z14 ?z15 ?z16
  (case htb=>refine' _root_.K.tabIn_of ?a ?l ?c ?k ?v;(case a=>k_is);(case l=>k_is);(case c=>rwa[rfl]);(case k=>k_is);(case v=>rwa[rfl]))
  any_goals first|(refine' L2.DefIn.mk ?a ?l ?c ?k;(case a=>k_is);(case l=>k_is);(case c=>k_is);(case k=>k_is))|(refine' L2.MethIn.mk ?a ?i ?l ?c ?k;(case a=>k_is);(case i=>k_is);(case l=>k_is);(case c=>k_is);(case k=>k_is))|(refine' L2.ClsIn.mk ?a ?b ?c ?d ?e ?f ?g;(case a=>k_is);(case b=>k_is);(case c=>k_is);(case d=>k_is);(case e=>k_is);(case f=>k_is);(case g=>k_is))|(refine' L2.XCl.mk ?a ?b ?c ?d ?e ?f ?g ?h;(case a=>show PySem.W.excIn _ _ _ _=true;first|k_is|k_exc);(case b=>k_is);(case c=>k_is);(case d=>k_is);(case e=>k_is);(case f=>k_is);(case g=>k_is);(case h=>k_is))|k_is|k_exc|kit_is|kts_exm
