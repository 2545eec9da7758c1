import PyProof.Rows.All
import Wide.All
import OpenK.AllK
import Wide.FinOn
import Lean
import PyProof.EqAt
import PyProof.EqKinds
import PyProof.TupleCall
import KE.KMinKey
import PyProof.AttrMissHeap
import KE.KDictOf
import PySem.Challenge.RW_relationladder_k50_no_turns
set_option Elab.async false
set_option linter.all false
set_option maxRecDepth 100000
theorem zq2{A:α->β->Prop}(x y)(h:A x y):∃x y,A x y:=⟨x,y,h⟩
theorem zq3{A:α->β->γ->Prop}(x y z)(h:A x y z):∃x y z,A x y z:=⟨x,y,z,h⟩
theorem zq4{A:α->β->γ->δ->Prop}(x y z u)(h:A x y z u):∃x y z u,A x y z u:=⟨x,y,z,u,h⟩
section
variable{A:α->Prop}{G:Prop}
theorem zq5{B:α->β->Prop}(x)(i:A x)(y)(h:B x y):∃x,A x/\∃y,B x y:=⟨x,i,y,h⟩
theorem zq6{B:α->β->γ->Prop}(x)(i:A x)(y z)(h:B x y z):∃x,A x/\∃y z,B x y z:=⟨x,i,y,z,h⟩
theorem zq7{B:α->β->γ->δ->Prop}(x)(i:A x)(y z u)(h:B x y z u):∃x,A x/\∃y z u,B x y z u:=⟨x,i,y,z,u,h⟩
theorem zq8{B:α->β->γ->δ->ε->Prop}(x)(i:A x)(y z u v)(h:B x y z u v):∃x,A x/\∃y z u v,B x y z u v:=⟨x,i,y,z,u,v,h⟩
theorem zq9{B:α->β->γ->δ->ε->ζ->Prop}(x)(i:A x)(y z u v w)(h:B x y z u v w):∃x,A x/\∃y z u v w,B x y z u v w:=⟨x,i,y,z,u,v,w,h⟩
theorem zx1(h:∃x,A x)(f:∀x,A x->G):G:=h.elim f
theorem zx2{A:α->β->Prop}(h:∃x y,A x y)(f:∀x y,A x y->G):G:=zx1 h λx h=>zx1 h (f x)
theorem zx3{A:α->β->γ->Prop}(h:∃x y z,A x y z)(f:∀x y z,A x y z->G):G:=zx1 h λx h=>zx2 h (f x)
theorem zx4{A:α->β->γ->δ->Prop}(h:∃x y z u,A x y z u)(f:∀x y z u,A x y z u->G):G:=zx1 h λx h=>zx3 h (f x)
theorem zx5{B:α->β->Prop}(h:∃x,A x/\∃y,B x y)(f:∀x,A x->∀y,B x y->G):G:=zx1 h λx h=>zx1 h.2 (f x h.1)
theorem zx6{B:α->β->γ->Prop}(h:∃x,A x/\∃y z,B x y z)(f:∀x,A x->∀y z,B x y z->G):G:=zx1 h λx h=>zx2 h.2 (f x h.1)
theorem zx7{B:α->β->γ->δ->Prop}(h:∃x,A x/\∃y z u,B x y z u)(f:∀x,A x->∀y z u,B x y z u->G):G:=zx1 h λx h=>zx3 h.2 (f x h.1)
theorem zx8{B:α->β->γ->δ->ε->Prop}(h:∃x,A x/\∃y z u v,B x y z u v)(f:∀x,A x->∀y z u v,B x y z u v->G):G:=zx1 h λx h=>zx4 h.2 (f x h.1)
theorem zx9{B:α->β->γ->δ->ε->ζ->Prop}(h:∃x,A x/\∃y z u v w,B x y z u v w)(f:∀x,A x->∀y z u v w,B x y z u v w->G):G:=zx1 h λx h=>zx1 h.2 λy k=>zx4 k (f x h.1 y)
variable{a b c d e k l m n:Prop}
theorem zy1(h:a/\b)(f:a->b->G):G:=f h.1 h.2
theorem zy2(h:a/\b/\c)(f:a->b->c->G):G:=zy1 h.2 (f h.1)
theorem zy3(h:a/\b/\c/\d)(f:a->b->c->d->G):G:=zy2 h.2 (f h.1)
theorem zy4(h:a/\b/\c/\d/\e)(f:a->b->c->d->e->G):G:=zy3 h.2 (f h.1)
theorem zy5(h:a/\b/\c/\d/\e/\k)(f:a->b->c->d->e->k->G):G:=zy4 h.2 (f h.1)
theorem zy6(h:a/\b/\c/\d/\e/\k/\l)(f:a->b->c->d->e->k->l->G):G:=zy5 h.2 (f h.1)
theorem zy7(h:a/\b/\c/\d/\e/\k/\l/\m)(f:a->b->c->d->e->k->l->m->G):G:=zy6 h.2 (f h.1)
theorem zy8(h:a/\b/\c/\d/\e/\k/\l/\m/\n)(f:a->b->c->d->e->k->l->m->n->G):G:=zy7 h.2 (f h.1)
theorem zy9{x:Prop}(h:a/\b/\c/\d/\e/\k/\l/\m/\n/\x)(f:a->b->c->d->e->k->l->m->n->x->G):G:=zy8 h.2 (f h.1)
theorem zbc(h:(G->False)->False):G:=Classical.byContradiction h
theorem zno(h:G:=by intro z;cases z):G:=h
theorem zdk(h:G:=by decide +kernel):G:=h
theorem zdc(h:G:=by decide):G:=h
end
section
open Lean Parser Tactic
def zgi(t:Term):List Term:=
 let r:Term:=mkCIdent ``rfl
 let u:Term:=⟨mkNode ``Term.hole #[mkAtom "_"]⟩
 match t.raw.isNatLit? with
 |some 0=>[u,r]
 |some 1=>[r]
 |some 2=>[u,u,r,r]
 |some 3=>[mkCIdent `zno]
 |some 4=>[Syntax.mkApp (mkCIdent ``Or.inl) #[r]]
 |_=>[t]
def zgn(i:Nat):Nat:=[0,1,2,3,4,3,4,5,6,7].getD i 0
def zgs(c:Name)(t:List Syntax):Syntax:=mkNode c #[mkAtom "⟨",mkNullNode (mkSepArray t.toArray (mkAtom ",")),mkAtom "⟩"]
def zga(f:String)(t:List Term):Term:=Syntax.mkApp (mkCIdent (.mkSimple f)) t.toArray
def zgg:List Char->List Term->Term
 |b::m::c,t=>
  let i:=b.toNat-48
  let n:=zgn i
  let k:=m.toNat-48
  let r:=((t.drop n).take k).foldr (λy r=>Syntax.mkApp (mkCIdent ``And.intro) #[y,r]) (zgg c (t.drop (n+k)))
  if i=0 then r else if i=1 then Syntax.mkApp (mkCIdent ``Exists.intro) (t.take n++[r]).toArray else zga s!"zq{i}" (t.take n++[r])
 |_,[t]=>t
 |_,t=>⟨zgs ``Term.anonymousCtor (t.map (·.raw))⟩
def zgc(k:Syntax):List Char:=if k.isNatLit?.isSome then k[0].getAtomVal.toList else[]
def zgb:List Term->Term
 |[]=>mkCIdent `zdc
 |k::t=>
  let c:=zgc k
  if c.length>1 then zgg c (t.flatMap zgi) else match c,t with
  |['6'],_=>t.foldr (λx r=>Syntax.mkApp (mkIdent `L2.aa) #[if x.raw.isNatLit?.isSome then Syntax.mkApp (mkIdent `L2.pv) #[x] else x,r]) (mkIdent `L2.ag)
  |['5'],[i,f,x]=>Syntax.mkApp (mkIdent `L2.am) #[⟨mkNode ``Term.namedArgument #[mkAtom "(",mkIdent `i,mkAtom ":=",i,mkAtom ")"]⟩,mkIdent (f.raw.getId++`nd),mkCIdent ``rfl,Syntax.mkApp (mkCIdent ``Or.inl) #[mkCIdent ``rfl],x]
  |['5'],[]=>mkCIdent `zdk
  |['7'],[_]=>Syntax.mkApp (mkIdent `Inv) #[mkIdent `X,mkIdent `pins,mkIdent `σ,mkIdent `H,mkIdent `s]
  |['7'],[]=>Syntax.mkApp (mkIdent `model) #[mkIdent `X.prog,mkIdent `X.w]
  |['8'],_=>Syntax.mkApp (mkCIdent ``List.toArray) #[⟨mkNode `«term[_]» #[mkAtom "[",zgs `null (t.map (·.raw)) |>.getArg 1,mkAtom "]"]⟩]
  |['9'],[x]=>⟨mkNode ``Term.byTactic #[mkAtom "by",mkNode ``tacticSeq #[mkNode ``tacticSeq1Indented #[mkNullNode #[mkNode ``Tactic.exact #[mkAtom "exact",x]]]]]⟩
  |_,_=>zgg [] ((k::t).flatMap zgi)
def zgo(q:Syntax):Syntax:=mkNode ``rcasesPatLo #[mkNode ``rcasesPatMed #[mkNullNode #[q]],mkNullNode]
def zgp:Nat->Syntax->Syntax
 |n+1,t=>zgo (if t.getKind==`«term#[_,]» then zgs ``rcasesPat.tuple (t[1].getSepArgs.toList.map (zgp n)) else if t.isOfKind ``Term.hole then mkNode ``rcasesPat.ignore #[mkAtom "_"] else mkNode ``rcasesPat.one #[if t.isIdent then t else mkIdent `rfl])
 |_,t=>t
def zgh(c:Char)(i:Nat):Ident:=mkIdent (.mkSimple s!"{c}{i}_")
def zgf(f:String)(e:Term)(t:List Term)(r:Term):MacroM Term:=`($(mkCIdent (.mkSimple f)) $e fun $(t.toArray)* =>$r)
def zge:List Char->List Term->Term->Term->MacroM (Term×List Ident)
 |b::m::c,t,e,g=>do
  let i:=b.toNat-48
  let k:=m.toNat-48
  let n:=zgn i
  let h:=zgh 'h' c.length
  let v:=zgh 'v' c.length
  let u:=t.drop (n+k)
  let (r,l)<-zge c u v g
  let j:=if c=[] then u.headD v else v
  let l:=if c=[] then l else v::l
  let r<-if k=0 then pure r else zgf s!"zy{k}" (if i=0 then e else h) ((t.drop n).take k++[j]) r
  if i=0 then return(r,l) else return(<-zgf s!"zx{i}" e (t.take n++[if k=0 then j else h]) r,if k=0 then l else h::l)
 |_,_,_,g=>return(g,[])
def zgl(c:List Char)(t:List Term)(e:Term):MacroM Syntax:=do
 let w:=zgh 'w' 0
 let s:=t.zipIdx.map λ(p,i)=>if p.raw.isIdent&&p.raw==e.raw then((⟨w.raw⟩:Term),none) else if p.raw.isIdent&&p.raw.getId != `rfl||p.raw.isOfKind ``Term.hole then(p,none) else let z:Term:=⟨(zgh 'z' i).raw⟩;(z,some (z,zgp 9 p))
 let o:=s.filterMap (·.2)
 let g:=zgh 'g' 0
 let (x,l)<-zge c (s.map (·.1)) e (Syntax.mkApp g #[<-`(?_)])
 let e:=if e.raw.isIdent then⟨e⟩else g
 let r<-`(tactic|(refine zbc fun $g=>$x;clear $g $(l.toArray)*;try clear $e;try (revert $w;intro $e:ident)))
 match o with
 |[]=>return r
 |[(y,p)]=>`(tactic|($r;rcases $y:term with $(⟨p⟩)))
 |_=>`(tactic|($r;rcases $[$((o.map (·.1)).toArray):term],* with $(⟨zgo (zgs ``rcasesPat.tuple (o.map (·.2)))⟩)))
end
local macro_rules
 |`(tactic|lia)=>`(tactic|first|lia (config:={})|omega)
 |`(())=>`(by lia)
 |`(tactic|intros $x*)=>`(tactic|intro $([`pins,`s,`σ,`H].toArray.map λx=>(⟨Lean.mkIdent x⟩:Lean.Term))* $(x.map (⟨·.raw⟩))*)
 |`(tactic|let $p:term:=$e)=>do
  if p.raw.getKind != `«term#[_,]» then Lean.Macro.throwUnsupported
  let l:=p.raw[1].getSepArgs.toList.map λx=>(⟨x⟩:Lean.Term)
  let c:=zgc (l.headD p)
  if c.length>1 then zgl c l.tail e else `(tactic|rcases $e:term with $(⟨zgp 9 p⟩))
 |`(tactic|erw[$s,*])=>`(tactic|refine $(zgb (s.getElems.toList.map (⟨·.raw[1]⟩))))
 |`(tactic|rwa[$s,*])=>`(tactic|exact $(zgb (s.getElems.toList.map (⟨·.raw[1]⟩))))
 |`(#print $s:str)=>do
  let n<-(List.range (s.getString.length/10)).mapM λi=>
   let n:=((s.getString.toList.drop (10*i)).take 10).foldl (λn c=>91*n+c.toNat-(if c.toNat>92 then 36 else 35)) 0
   `(command|def $(Lean.mkIdent (.mkSimple s!"tw{n}")):ident:=0)
  return Lean.mkNullNode (n.map (·.raw)).toArray
 |`(#[$s,*])=>return zgb s.getElems.toList
 |`($n:name)=>return Lean.Syntax.mkApp (Lean.mkIdent n.getName) ([`P,`w,`K,`mg,`base].toArray.map (Lean.mkIdent ·))
open PySem.W (instObj hideAll hideAll_get of_hideAll Frag lookIn plainGet hasDictIn findIn isFn makesIn emptyDict looks_findIn Looks keepIn kitOne callWith_K fnOf codeIn nsIn)
open List (filterMap_cons getElem_inj of_mem_zip map_nil reverse_cons forIn_cons forIn_nil mem_range take_succ sum_append length_zipWith all_cons any_cons nodup_nil getElem_map getElem_range reverse_perm getElem?_reverse getElem?_eq_none map_congr_left foldl_append mem_of_mem_take eq_nil_of_length_eq_zero range_succ filter_append mem_filter all_map take_append_of_le_length length_zip sum_cons)
open PySem.Heap (get?_push_cases)
theorem c_:type_of% @PySem.wpAny_bind:=@PySem.wpAny_bind
theorem e_:type_of% @Nat.le_refl:=@Nat.le_refl
theorem f_:type_of% @PySem.wpAny_pure:=@PySem.wpAny_pure
theorem ge:type_of% @List.getElem?_eq_getElem:=@List.getElem?_eq_getElem
theorem g_:type_of% @PySem.Heap.get?_push_of_some:=@PySem.Heap.get?_push_of_some
theorem q_:type_of% @decide_eq_true:=@decide_eq_true
theorem w_:type_of% @if_neg:=@if_neg
theorem x_:type_of% @List.length_append:=@List.length_append
theorem y_:type_of% @List.getElem?_eq_some_iff:=@List.getElem?_eq_some_iff
theorem z_:type_of% @List.length_map:=@List.length_map
theorem A_:type_of% @PySem.Heap.get?_push_size:=@PySem.Heap.get?_push_size
theorem C_:type_of% @if_pos:=@if_pos
theorem D_:type_of% @List.mem_singleton:=@List.mem_singleton
theorem E_:type_of% @of_decide_eq_true:=@of_decide_eq_true
theorem F9:type_of% @Nat.ne_of_lt:=@Nat.ne_of_lt
theorem GN:type_of% @decide_eq_false:=@decide_eq_false
theorem GY:type_of% @List.mem_of_getElem?:=@List.mem_of_getElem?
theorem G_:type_of% @Bool.false_ne_true:=@Bool.false_ne_true
theorem Hb:type_of% @Nat.le_trans:=@Nat.le_trans
theorem Hc:type_of% @PySem.sizeLine_eq:=@PySem.sizeLine_eq
theorem He:type_of% @List.length_singleton:=@List.length_singleton
theorem Hh:type_of% @Nat.lt_of_lt_of_le:=@Nat.lt_of_lt_of_le
theorem Hj:type_of% @Nat.zero_le:=@Nat.zero_le
theorem Hl:type_of% @PySem.Heap.lt_size:=@PySem.Heap.lt_size
theorem Hr:type_of% @Nat.pow_le_pow_right:=@Nat.pow_le_pow_right
theorem Ht:type_of% @List.mem_append:=@List.mem_append
theorem Hu:type_of% @PySem.PassesOwn.never:=@PySem.PassesOwn.never
theorem Hx:type_of% @List.getElem?_map:=@List.getElem?_map
theorem Hz:type_of% @Array.getElem?_eq_getElem:=@Array.getElem?_eq_getElem
theorem HB:type_of% @List.mem_cons:=@List.mem_cons
theorem HC:type_of% @List.size_toArray:=@List.size_toArray
theorem HF:type_of% @Nat.pow_lt_pow_right:=@Nat.pow_lt_pow_right
theorem HI:type_of% @PySem.wpAny_newObj_type:=@PySem.wpAny_newObj_type
theorem HM:type_of% @Int.natAbs_natCast:=@Int.natAbs_natCast
theorem I_:type_of% @List.mem_cons_of_mem:=@List.mem_cons_of_mem
theorem J_:type_of% @Int.natAbs_mul:=@Int.natAbs_mul
theorem Lk:type_of% @Nat.lt_of_le_of_lt:=@Nat.lt_of_le_of_lt
theorem Lq:type_of% @PySem.wpAny_field:=@PySem.wpAny_field
theorem Ls:type_of% @PySem.wpAny_holding:=@PySem.wpAny_holding
theorem Lv:type_of% @PySem.wpAny_call_entry:=@PySem.wpAny_call_entry
theorem Lw:type_of% @Bool.and_eq_true:=@Bool.and_eq_true
theorem Lz:type_of% @PySem.wpAny_callSpecial?_slot:=@PySem.wpAny_callSpecial?_slot
theorem LC:type_of% @Int.emod_lt_of_pos:=@Int.emod_lt_of_pos
theorem LD:type_of% @congrArg:=@congrArg
theorem LN:type_of% @List.mem_cons_self:=@List.mem_cons_self
theorem LO:type_of% @List.length_reverse:=@List.length_reverse
theorem LP:type_of% @Nat.mul_le_mul_right:=@Nat.mul_le_mul_right
theorem LR:type_of% @List.getD_eq_getElem?_getD:=@List.getD_eq_getElem?_getD
theorem LW:type_of% @Int.mul_fdiv_cancel_left:=@Int.mul_fdiv_cancel_left
theorem LY:type_of% @PySem.Heap.SameBut.update:=@PySem.Heap.SameBut.update
theorem L5:type_of% @Int.emod_nonneg:=@Int.emod_nonneg
theorem L8:type_of% @List.map_append:=@List.map_append
theorem Ma:type_of% @Classical.byContradiction:=@Classical.byContradiction
theorem Mc:type_of% @Option.some.inj:=@Option.some.inj
theorem Md:type_of% @Array.length_toList:=@Array.length_toList
theorem Mf:type_of% @PySem.wpAny_mono:=@PySem.wpAny_mono
theorem Mh:type_of% @List.getElem?_append_left:=@List.getElem?_append_left
theorem Mi:type_of% @Subtype.ext:=@Subtype.ext
theorem Mn:type_of% @List.length_cons:=@List.length_cons
theorem Mt:type_of% @PyProof.Rows.callWith_type1:=@PyProof.Rows.callWith_type1
theorem Mu:type_of% @Nat.le_mul_of_pos_left:=@Nat.le_mul_of_pos_left
theorem Mw:type_of% @List.take_add_one:=@List.take_add_one
theorem Mx:type_of% @PySem.Around.under_plainId:=@PySem.Around.under_plainId
theorem Mz:type_of% @Int.toNat_natCast:=@Int.toNat_natCast
theorem MA:type_of% @Int.mul_ne_zero:=@Int.mul_ne_zero
theorem MC:type_of% @PySem.wpAny_setField:=@PySem.wpAny_setField
theorem MD:type_of% @PySem.Obj.data_mapFields:=@PySem.Obj.data_mapFields
theorem ME:type_of% @Nat.lt_irrefl:=@Nat.lt_irrefl
theorem MG:type_of% @PySem.wpAny_Call_Name_kw:=@PySem.wpAny_Call_Name_kw
theorem MH:type_of% @PySem.wpAny_setField_rec:=@PySem.wpAny_setField_rec
theorem MN:type_of% @Nat.lt_trans:=@Nat.lt_trans
theorem MO:type_of% @List.mem_map:=@List.mem_map
theorem MP:type_of% @PySem.codeAny_builtin:=@PySem.codeAny_builtin
theorem MQ:type_of% @Int.natCast_mul:=@Int.natCast_mul
theorem MS:type_of% @PySem.wpAny_seqItems:=@PySem.wpAny_seqItems
theorem MT:type_of% @Int.eq_ofNat_of_zero_le:=@Int.eq_ofNat_of_zero_le
theorem MU:type_of% @Int.natAbs_of_nonneg:=@Int.natAbs_of_nonneg
theorem MV:type_of% @PySem.W.mg_none_of:=@PySem.W.mg_none_of
theorem MY:type_of% @List.length_take:=@List.length_take
theorem MZ:type_of% @List.take_length:=@List.take_length
theorem M3:type_of% @Array.getElem?_toList:=@Array.getElem?_toList
theorem M7:type_of% @PySem.wpAny_of_eq:=@PySem.wpAny_of_eq
theorem M8:type_of% @Bool.false_eq_true:=@Bool.false_eq_true
theorem M9:type_of% @PySem.F.slot_tuple_iterator_next:=@PySem.F.slot_tuple_iterator_next
theorem M_:type_of% @List.mem_range:=@List.mem_range
theorem Nd:type_of% @Nat.le_of_dvd:=@Nat.le_of_dvd
theorem Nf:type_of% @List.mem_append_right:=@List.mem_append_right
theorem Nh:type_of% @beq_eq_false_iff_ne:=@beq_eq_false_iff_ne
theorem Nl:type_of% @PySem.wpAny_pyIter_list:=@PySem.wpAny_pyIter_list
theorem Nm:type_of% @List.not_mem_nil:=@List.not_mem_nil
theorem No:type_of% @Bool.eq_false_iff:=@Bool.eq_false_iff
theorem Nr:type_of% @PySem.wpAny_attempt:=@PySem.wpAny_attempt
theorem Nv:type_of% @Int.mul_assoc:=@Int.mul_assoc
theorem Nx:type_of% @Bool.true_and:=@Bool.true_and
theorem NA:type_of% @PySem.wpAny_ite_split:=@PySem.wpAny_ite_split
theorem NC:type_of% @PySem.Heap.get?_update_self:=@PySem.Heap.get?_update_self
theorem NF:type_of% @List.map_cons:=@List.map_cons
theorem NG:type_of% @Nat.pow_add:=@Nat.pow_add
theorem NI:type_of% @List.take_of_length_le:=@List.take_of_length_le
theorem NJ:type_of% @PySem.Heap.get?_update_other:=@PySem.Heap.get?_update_other
theorem NL:type_of% @Bool.false_and:=@Bool.false_and
theorem NO:type_of% @Option.some.injEq:=@Option.some.injEq
theorem NR:type_of% @Array.getElem?_eq_none:=@Array.getElem?_eq_none
theorem NS:type_of% @PySem.wpAny_setState_of:=@PySem.wpAny_setState_of
theorem NX:type_of% @List.getElem_mem:=@List.getElem_mem
theorem NZ:type_of% @PySem.Obj.isFreed_of_fields:=@PySem.Obj.isFreed_of_fields
theorem N2:type_of% @Prod.ext:=@Prod.ext
theorem N4:type_of% @PySem.wpAny_notOrdered_dict:=@PySem.wpAny_notOrdered_dict
theorem N6:type_of% @PySem.wpAny_isInstance:=@PySem.wpAny_isInstance
theorem N8:type_of% @PySem.wpAny_rule:=@PySem.wpAny_rule
theorem N_:type_of% @PySem.wpAny_standAt:=@PySem.wpAny_standAt
theorem Ol:type_of% @List.mem_iff_getElem:=@List.mem_iff_getElem
theorem On:type_of% @PySem.wpAny_truthy_bool:=@PySem.wpAny_truthy_bool
theorem Oo:type_of% @List.map_map:=@List.map_map
theorem Op:type_of% @Int.emod_eq_of_lt:=@Int.emod_eq_of_lt
theorem Ou:type_of% @PySem.wpAny_pyNext_list_item:=@PySem.wpAny_pyNext_list_item
theorem Ox:type_of% @PySem.codeAny_mono:=@PySem.codeAny_mono
theorem OA:type_of% @List.length_range:=@List.length_range
theorem OC:type_of% @List.getElem?_concat_length:=@List.getElem?_concat_length
theorem OK:type_of% @PySem.plainId_quiet:=@PySem.plainId_quiet
theorem OM:type_of% @decide_eq_decide:=@decide_eq_decide
theorem ON:type_of% @PySem.wpAny_askSetting:=@PySem.wpAny_askSetting
theorem OP:type_of% @if_false:=@if_false
theorem OR:type_of% @PySem.wpAny_pyIter_tuple:=@PySem.wpAny_pyIter_tuple
theorem OS:type_of% @beq_iff_eq:=@beq_iff_eq
theorem OT:type_of% @List.mem_cons:=@List.mem_cons
theorem OW:type_of% @Nat.mul_le_mul:=@Nat.mul_le_mul
theorem OX:type_of% @Nat.one_le_two_pow:=@Nat.one_le_two_pow
theorem OY:type_of% @PySem.builtinLookup_eq_fast:=@PySem.builtinLookup_eq_fast
theorem O0:type_of% @PySem.wpAny_passesOwn:=@PySem.wpAny_passesOwn
theorem O3:type_of% @Nat.lt_succ_of_lt:=@Nat.lt_succ_of_lt
theorem O7:type_of% @Nat.ne_of_gt:=@Nat.ne_of_gt
theorem O9:type_of% @Int.mul_one:=@Int.mul_one
theorem Pb:type_of% @or_false:=@or_false
theorem Pc:type_of% @PySem.wpAny_dictEntries:=@PySem.wpAny_dictEntries
theorem Pe:type_of% @Nat.pow_succ:=@Nat.pow_succ
theorem Pf:type_of% @Nat.mul_comm:=@Nat.mul_comm
theorem Pg:type_of% @List.append_nil:=@List.append_nil
theorem Pn:type_of% @Nat.mul_le_mul_left:=@Nat.mul_le_mul_left
theorem Ps:type_of% @PySem.Heap.size_push:=@PySem.Heap.size_push
theorem Pt:type_of% @Nat.lt_succ_self:=@Nat.lt_succ_self
theorem Py:type_of% @Nat.le_add_right:=@Nat.le_add_right
theorem PJ:type_of% @List.lookup_cons:=@List.lookup_cons
theorem PR:type_of% @List.mem_filterMap:=@List.mem_filterMap
theorem PU:type_of% @Nat.le_of_eq:=@Nat.le_of_eq
theorem PV:type_of% @PySem.wpAny_call:=@PySem.wpAny_call
theorem PX:type_of% @if_true:=@if_true
theorem PY:type_of% @PySem.wpAny_typeOf:=@PySem.wpAny_typeOf
theorem P2:type_of% @PySem.wpAny_execs_nil:=@PySem.wpAny_execs_nil
theorem P3:type_of% @List.nodup_cons:=@List.nodup_cons
theorem P7:type_of% @PySem.W.mg_of:=@PySem.W.mg_of
theorem P8:type_of% @List.getElem?_of_mem:=@List.getElem?_of_mem
theorem Qa:type_of% @Nat.mul_assoc:=@Nat.mul_assoc
theorem Qh:type_of% @List.length_nil:=@List.length_nil
theorem Qn:type_of% @List.length_drop:=@List.length_drop
theorem Qp:type_of% @Int.mul_pos:=@Int.mul_pos
theorem Qx:type_of% @Int.mul_comm:=@Int.mul_comm
theorem QZ:type_of% @List.find?_cons:=@List.find?_cons
theorem Q8:type_of% @List.all_eq_true:=@List.all_eq_true
theorem Q9:type_of% @Nat.one_mul:=@Nat.one_mul
theorem Rb:type_of% @PySem.W.kia_one:=@PySem.W.kia_one
namespace L2
open PySem PySem.Spec PyProof.Rows
variable {h h':Heap}{E:Value->Shared->Prop}{s s':Shared}{α:Type}{a it l L C dx:Addr}{vs items:Array Value}{Q:Unit->Shared->Prop}{e c tg:Expr}{x name qual:Str}{pos pos' p:Pos}{fp ch:List Addr}{M:Model}{oe:Obj}{a0 cls u:Value}{us:List Value}{P:Program}{pins:List (Addr×Obj)}{g':Array GenState}{t' j n:Nat}{d':Drawn}{op:CmpOp}{f:Value->Value->Sem Value}{es:List Expr}{g:Int->Int->Int}{body:List Stmt}{R:Result->Shared->Prop}{lo:Int}{pl:Sem Bool}{mA:Str->Option Value}{kw:List (Str×Value)}{fd:FuncData}{ps:List Str}{kindOf:Str->Option NameKind}{scope:Scope}
def Hn(A:Around)(h:Heap):Prop:=A.handled=none\/∃x ox vx,A.handled=some (.ref x)/\h.get? x=some ox/\ox.data=.fields vx/\vx[2]? = some Value.none
theorem Hn.keeps{A:Around}(n:Hn A h)(k:∀b o,h.get? b=some o->h'.get? b=some o):Hn A h':=by
 rcases n with n|⟨x,O,U,n,e,r⟩
 ·rwa[.inl n]
 ·rwa[.inr #[32,x,O,U,n,k _ _ e,r]]
theorem nU:entryFor table "proto.unchain"=some Builtin.«proto.unchain»:=entryFor_of_tree (by kernel_rfl)
theorem nR:plainId "proto.unchain"=true:=#[5]
section
variable {prog:Program}{w:World}{A:Around}
theorem ot{o:Obj}{Q:α->Shared->Prop}(hn:Hn A s.heap)(ha:s.heap.get? a=some o)(hd:o.data=.fields vs)(h2:2<vs.size)(hne:A.handled≠some (.ref a))(h:∀h' o' O,Heap.SameBut a s.heap h'->h'.get? a=some o'->o'.cls=o.cls->o'.data=.fields O->O.size=vs.size->(∀i:Nat,i≠2->O[i]? = vs[i]?)->(A.handled=none->h'=s.heap)->E (.ref a) { s with heap:=h' }):wpAny (model prog w) A (raiseNew (.ref a):Sem α) Q E s:=by
 unfold raiseNew;erw[c_ (wpAny_handled ?_)]
 rcases hn with hn|⟨x,ox,vx,hn,Z,dx,U⟩
 ·rw[hn];rwa[c_ (f_ (wpAny_throw (h s.heap o vs (Heap.SameBut.refl ..) ha rfl hd rfl (λ_ _=>rfl) λ_=>rfl)))]
 ·rw[hn];have xa:x≠a:=λz=>hne (by rw[hn,z])
  show wpAny _ _ (if (Value.ref x != Value.ref a)=true then _ else _) _ _ s
  rw[C_ (by simpa using xa)]
  erw[c_ (Ls (wpAny_runValue (MP nU ?_)))];rw[Mx nR _];unfold Builtin.«proto.unchain»;erw[c_ (Lq Z dx (x:=.none) U ?_)];rw[C_ (by rfl)]
  erw[f_ (c_ (m:=setField (.ref a) 2 (.ref x)) (MC ha hd h2 (wpAny_throw ?_)))];erw[h _ _ _ (LY ..) (NC _ ha (NZ (MD hd _))) (Obj.cls_mapFields ..) (MD hd _) (by simp) (λi hi=>Array.getElem?_setIfInBounds_ne (Ne.symm hi)) λz=>?_]
  rw[hn] at z;cases z
theorem eN{Q:α->Shared->Prop}(hn:Hn A s.heap)(h:∀h' e,s.heap.objs.size<=e->(∀b o,s.heap.get? b=some o->h'.get? b=some o)->(∃o,h'.get? e=some o/\o.cls=.type "StopIteration")->E (.ref e) { s with heap:=h' }):
  wpAny (model prog w) A (newExc (.type "StopIteration") [] >>= λe=>(raiseNew e:Sem α)) Q E s:=by
 erw[c_ ?_];simp only[newExc,newTuple];erw[c_ (HI ?_ (by size_fits))]
 erw[c_ (m:=firstArgMember _ _) (M7 (a:=Value.none) (by first|rfl|(simp only[firstArgMember];rfl)) (HI ?_ (by size_fits)))]
 have k:∀{h:Heap} {o₁ o₂:Obj} b o,h.get? b=some o->((h.push o₁).push o₂).get? b=some o:=λb o e=>g_ _ (g_ _ e)
 erw[ot (hn.keeps λb o e=>k b o e) (A_ _ rfl) rfl (by simp only[Array.size_append,HC,Mn,Qh];lia) (λz=>?_) λh' o' a1 sb Z U _ _ _ _=>h h' _ (by rw[size_push'];rwa[Nat.le_succ _]) (λb o e=>?_) #[o',Z,U]]
 ·rcases hn with hn|⟨x,ox,vx,hn,hx,_⟩
  ·rw[hn] at z;cases z
  ·rw[hn] at z;injection z with z
   injection z with z
   have:=Hl hx;rw[z,size_push'] at this;rwa[absurd this (Nat.not_lt.mpr (Nat.le_succ _))]
 ·have O:=Hl e;refine(sb.2 b ?_).trans (k b o e);rw[size_push'];rwa[F9 (O3 O)]
theorem g9{Q:Option Value->Shared->Prop}{e:Addr}(he:∃o,h'.get? e=some o/\o.cls=.type "StopIteration")(hQ:Q none { s with heap:=h' }):
  wpAny (model prog w) A (do let b <- isInstance (.ref e) (.type "StopIteration");if b=true then pure none else throw (.ref e)) Q E { s with heap:=h' }:=by
 let#[o,U,O]:=he;rwa[c_ (N6 (T := "StopIteration") (b:=true) #[o,U,O] isSubtype_stop (f_ hQ))]
theorem o7{i:Nat}{Q:Option Value->Shared->Prop}(hn:Hn A s.heap)(hni:A.handled≠some (.ref it))(hit:s.heap.IsListIter it l i)(hl:s.heap.IsList l items)(hx:items[i]? = none)(hQ:∀h',Heap.ExtBut it s.heap h'->Q none { s with heap:=h' }):wpAny (model prog w) A (pyNext (.ref it)) Q E s:=by
 let#[12,o,Z,hc,hd]:=id hit;let#[1210,ol,a1,_,nl,O]:=hl;unfold pyNext;erw[c_ (Nr (Lz (name:=Str.ofString "__next__") hit.typeIs slot_listiter_next (Lv slot_listiter_next hit.typeIs entry_listiter_next ?_ (args_listiter_next _))))];erw[c_ (m:=field (.ref it) 0) (Lq Z hd (x:=.ref l) rfl ?_)];rw[w_ (show ¬((Value.ref l==Value.none)=true) from G_)]
 erw[c_ (m:=field (.ref it) 1) (Lq Z hd (x:=.int i 0) rfl ?_)];erw[c_ (m:=seqItems? (.ref l)) (MS a1 O ?_)];simp only[Mz,hx];erw[c_ (N8 (c_ (MC Z hd (by simp) ?_)))]
 have sb:Heap.SameBut it s.heap (s.heap.update it (Obj.mapFields (·.setIfInBounds 0 Value.none))):=LY ..;have U:Hn A.in1 (s.heap.update it (Obj.mapFields (·.setIfInBounds 0 Value.none))):=by
  rcases hn with hn|⟨x,ox,vx,hn,hx,r⟩
  ·rwa[.inl hn]
  ·rwa[.inr #[32,x,ox,vx,hn,(sb.2 x λz=>hni (by rw[hn,z])).trans hx,r]]
 rwa[eN (A:=A.in1) (s:={ s with heap:=s.heap.update it (Obj.mapFields (·.setIfInBounds 0 Value.none)) }) U λh' e _ k he=>g9 (s:=s) he (hQ h' λb o hb eo=>k b o ((sb.2 b hb).trans eo))]
theorem tI{t:Addr}{i:Nat}{Q:Option Value->Shared->Prop}(hn:Hn A s.heap)(hni:A.handled≠some (.ref it))(hit:IsTupIter s.heap it t i)(ht:IsTup s.heap t items)(hx:items[i]? = none)(hQ:∀h',Heap.ExtBut it s.heap h'->Q none { s with heap:=h' }):wpAny (model prog w) A (pyNext (.ref it)) Q E s:=by
 let#[12,o,Z,hc,hd]:=id hit;let#[1210,ol,a1,_,nl,O]:=ht;unfold pyNext;erw[c_ (Nr (Lz (name:=Str.ofString "__next__") hit.typeIs slot_tupleiter_next (Lv slot_tupleiter_next hit.typeIs entry_tupleiter_next ?_ (args_tupleiter_next _))))];erw[c_ (m:=field (.ref it) 0) (Lq Z hd (x:=.ref t) rfl ?_)];rw[w_ (show ¬((Value.ref t==Value.none)=true) from G_)]
 erw[c_ (m:=field (.ref it) 1) (Lq Z hd (x:=.int i 0) rfl ?_)];erw[c_ (m:=seqItems? (.ref t)) (MS a1 O ?_)];simp only[Mz,hx];erw[c_ (N8 (c_ (MC Z hd (by simp) ?_)))]
 have sb:Heap.SameBut it s.heap (s.heap.update it (Obj.mapFields (·.setIfInBounds 0 Value.none))):=LY ..;have U:Hn A.in1 (s.heap.update it (Obj.mapFields (·.setIfInBounds 0 Value.none))):=by
  rcases hn with hn|⟨x,ox,vx,hn,hx,r⟩
  ·rwa[.inl hn]
  ·rwa[.inr #[32,x,ox,vx,hn,(sb.2 x λz=>hni (by rw[hn,z])).trans hx,r]]
 rwa[eN (A:=A.in1) (s:={ s with heap:=s.heap.update it (Obj.mapFields (·.setIfInBounds 0 Value.none)) }) U λh' e _ k he=>g9 (s:=s) he (hQ h' λb o hb eo=>k b o ((sb.2 b hb).trans eo))]
theorem Hn.ne{x:Addr}(hn:Hn A s.heap)(hx:s.heap.objs.size<=x):A.handled≠some (.ref x):=λz=>by
 rcases hn with hn|⟨y,U,Z,hn,O,_⟩
 ·rw[hn] at z;cases z
 ·rw[hn] at z;injection z with z
  injection z with z
  have:=Hl O;rw[z] at this;rwa[absurd this (Nat.not_lt.mpr hx)]
theorem jD{t:Addr}{Q:List Value->Shared->Prop}(hn:Hn A s.heap)(ht:IsTup s.heap t items)(hQ:∀h',Heap.ExtBut s.heap.objs.size s.heap h'->Q items.toList { s with heap:=h' }):
  wpAny (model prog w) A (unpackItems (.ref t) items.size none) Q E s:=by
 have U:t≠s.heap.objs.size:=by let#[o,ho,_]:=ht;rwa[F9 (Hl ho)]
 have a3:=hn.ne (e_ _);unfold unpackItems;erw[c_ ?_];unfold notIterableAtAll;erw[c_ (wpAny_specialOf ht.typeIs slot_tuple_iter.lookup (f_ ?_))];simp only[M8,OP];erw[c_ (Ls (iter_tuple ht ?_))];erw[c_ (Ls (draw_tuple U items.size 0 _ _ #[_,A_ _ rfl,1,1] (ht.push _) () λh1 O Z=>?_))]
 rw[show List.take items.size (List.drop 0 items.toList)=items.toList by rw[List.drop_zero];rwa[NI (by simp)],w_ (by simp)]
 have kk:∀b o,b≠s.heap.objs.size->s.heap.get? b=some o->h1.get? b=some o:=λb o hb e=>Z.extBut b o hb (g_ _ e)
 have a2:Hn A h1:=by
  rcases hn with hn|⟨x,ox,vx,hn,hx,r⟩
  ·rwa[.inl hn]
  ·rwa[.inr #[32,x,ox,vx,hn,kk x ox (F9 (Hl hx)) hx,r]]
 erw[c_ (Ls (tI (s:={ s with heap:=h1 }) a2 a3 O ((ht.push _).extBut Z.extBut U) (by simp) λh2 a1=>?_))]
 simp only[Option.isSome_none,M8,OP];rwa[f_ (hQ h2 λb o hb e=>a1 b o hb (kk b o hb e))]
theorem Bk{env:Env}{elts:List Expr}{x1:Nat}{t:Addr}(hn:Hn A s.heap)(ht:IsTup s.heap t items)(hl:(assignEach elts env).length=items.size)(hstar:(assignEach elts env).findIdx? (·.1)=none)(h:∀h',Heap.ExtBut s.heap.objs.size s.heap h'->wpAny (model prog w) A (assignInOrder ((assignEach elts env).map (·.2)) items.toList) Q E { s with heap:=h' }):wpAny (model prog w) A (assign (.Tuple elts x1 pos) env (.ref t)) Q E s:=by
 rw[assign_Tuple];erw[c_ (N_ ?_)];unfold unpack;rw[hl,hstar];rwa[c_ (Ls (jD hn ht h))]
end
section
variable {prog:Program}{w:World}{A:Around}
theorem Hn.away(n:Hn A h)(hf:∀b∈fp,A.handled≠some (.ref b))(k:∀b o,b∉fp->h.get? b=some o->h'.get? b=some o):Hn A h':=by
 rcases n with n|⟨x,O,U,n,e,r⟩
 ·rwa[.inl n]
 ·rwa[.inr #[32,x,O,U,n,k _ _ (λz=>hf x z n) e,r]]
theorem Hn.but(n:Hn A h)(hf:A.handled≠some (.ref a))(k:Heap.ExtBut a h h'):Hn A h':=
 n.away (fp:=[a]) (λb O=>by rw[D_.mp O];rwa[hf]) λb o O e=>k b o (λz=>O (by simp[z])) e
theorem jF{i:Nat}{Q:Value->Shared->Prop}(hn:Hn A s.heap)(hni:A.handled≠some (.ref it))(hit:s.heap.IsListIter it l i)(hl:s.heap.IsList l items)(hx:items[i]? = none)(hE:∀h' e,Heap.ExtBut it s.heap h'->(∃o,h'.get? e=some o/\o.cls=.type "StopIteration")->E (.ref e) { s with heap:=h' }):wpAny (model prog w) A (Builtin.SmallTypes.nextOf (.ref it)) Q E s:=by
 let#[12,o,U,hc,hd]:=id hit;let#[1210,ol,Z,_,nl,O]:=hl;unfold Builtin.SmallTypes.nextOf;erw[c_ (Lz (name:=Str.ofString "__next__") hit.typeIs slot_listiter_next (Lv slot_listiter_next hit.typeIs entry_listiter_next ?_ (args_listiter_next _)))];erw[c_ (m:=field (.ref it) 0) (Lq U hd (x:=.ref l) rfl ?_)];rw[w_ (show ¬((Value.ref l==Value.none)=true) from G_)]
 erw[c_ (m:=field (.ref it) 1) (Lq U hd (x:=.int i 0) rfl ?_)];erw[c_ (m:=seqItems? (.ref l)) (MS Z O ?_)];simp only[Mz,hx];erw[c_ (N8 (c_ (MC U hd (by simp) ?_)))]
 have sb:Heap.SameBut it s.heap (s.heap.update it (Obj.mapFields (·.setIfInBounds 0 Value.none))):=LY ..;rwa[eN (A:=A.in1) (s:={ s with heap:=s.heap.update it (Obj.mapFields (·.setIfInBounds 0 Value.none)) }) (Hn.but (A:=A.in1) hn hni sb.extBut) λh' e _ k he=>hE h' e (λb o hb eo=>k b o ((sb.2 b hb).trans eo)) he]
theorem nP{i:Nat}{Q:Value->Shared->Prop}(hn:Hn A s.heap)(hni:A.handled≠some (.ref it))(hit:s.heap.IsTupleIter it l i)(hl:s.heap.IsTuple l items)(hx:items[i]? = none)(hE:∀h' e,Heap.ExtBut it s.heap h'->(∃o,h'.get? e=some o/\o.cls=.type "StopIteration")->E (.ref e) { s with heap:=h' }):wpAny (model prog w) A (Builtin.SmallTypes.nextOf (.ref it)) Q E s:=by
 let#[12,o,U,hc,hd]:=id hit;let#[1210,ol,Z,_,nl,O]:=hl;unfold Builtin.SmallTypes.nextOf;erw[c_ (Lz (name:=Str.ofString "__next__") hit.typeIs M9 (Lv M9 hit.typeIs F.entry_tuple_iterator_next ?_ (F.args_tuple_iterator_next_1 _)))];erw[c_ (m:=field (.ref it) 0) (Lq U hd (x:=.ref l) rfl ?_)];rw[w_ (show ¬((Value.ref l==Value.none)=true) from G_)]
 erw[c_ (m:=field (.ref it) 1) (Lq U hd (x:=.int i 0) rfl ?_)];erw[c_ (m:=seqItems? (.ref l)) (MS Z O ?_)];simp only[Mz,hx];erw[c_ (N8 (c_ (MC U hd (by simp) ?_)))]
 have sb:Heap.SameBut it s.heap (s.heap.update it (Obj.mapFields (·.setIfInBounds 0 Value.none))):=LY ..;rwa[eN (A:=A.in1) (s:={ s with heap:=s.heap.update it (Obj.mapFields (·.setIfInBounds 0 Value.none)) }) (Hn.but (A:=A.in1) hn hni sb.extBut) λh' e _ k he=>hE h' e (λb o hb eo=>k b o ((sb.2 b hb).trans eo)) he]
theorem kL{i:Nat}{Q:Option Value->Shared->Prop}(hn:Hn A s.heap)(hni:A.handled≠some (.ref it))(hit:s.heap.IsTupleIter it l i)(hl:s.heap.IsTuple l items)(hx:items[i]? = none)(hQ:∀h',Heap.ExtBut it s.heap h'->Q none { s with heap:=h' }):wpAny (model prog w) A (pyNext (.ref it)) Q E s:=by
 let#[12,o,U,hc,hd]:=id hit;let#[1210,ol,Z,_,nl,O]:=hl;unfold pyNext;erw[c_ (Nr (Lz (name:=Str.ofString "__next__") hit.typeIs M9 (Lv M9 hit.typeIs F.entry_tuple_iterator_next ?_ (F.args_tuple_iterator_next_1 _))))];erw[c_ (m:=field (.ref it) 0) (Lq U hd (x:=.ref l) rfl ?_)];rw[w_ (show ¬((Value.ref l==Value.none)=true) from G_)]
 erw[c_ (m:=field (.ref it) 1) (Lq U hd (x:=.int i 0) rfl ?_)];erw[c_ (m:=seqItems? (.ref l)) (MS Z O ?_)];simp only[Mz,hx];erw[c_ (N8 (c_ (MC U hd (by simp) ?_)))]
 have sb:Heap.SameBut it s.heap (s.heap.update it (Obj.mapFields (·.setIfInBounds 0 Value.none))):=LY ..;rwa[eN (A:=A.in1) (s:={ s with heap:=s.heap.update it (Obj.mapFields (·.setIfInBounds 0 Value.none)) }) (Hn.but (A:=A.in1) hn hni sb.extBut) λh' e _ k he=>g9 (s:=s) he (hQ h' λb o hb eo=>k b o ((sb.2 b hb).trans eo))]
theorem xN{e:Addr}{i:Nat}{old:Value}{Q:Option Value->Shared->Prop}(hn:Hn A s.heap)(hni:A.handled≠some (.ref it))(he:IsEnum s.heap e it i old)(hit:s.heap.IsListIter it l i)(hl:s.heap.IsList l items)(hx:items[i]? = none)(hQ:∀h',Heap.ExtBut it s.heap h'->Q none { s with heap:=h' }):wpAny (model prog w) A (pyNext (.ref e)) Q E s:=by
 have Z:s.TypeIs (.ref e) "enumerate":=#[_,he,1];unfold pyNext;erw[c_ (Nr (Lz (name:=Str.ofString "__next__") Z F.slot_enumerate_next (Lv F.slot_enumerate_next Z F.entry_enumerate_next ?_ (F.args_enumerate_next_1 _))))];erw[c_ (m:=field (.ref e) 2) (Lq he rfl (x:=.ref it) rfl ?_)];rwa[c_ (jF (A:=A.in1) hn hni hit hl hx λh' x O U=>g9 (s:=s) U (hQ h' O))]
theorem rK(hn:Hn A s.heap)(I ax:Addr)(hI:A.handled≠some (.ref I))(hne:ax≠I)(items:Array Value):
  ∃fp,Walks prog w A I fp [I] items.size (λi v=>items[i]? = some v) (λi h=>(h.IsListIter I ax i/\h.IsList ax items)/\Hn A h):=by
 rcases id hn with hh|⟨x,ox,vx,hx,ex,dx,cx⟩
 ·have W:=Walks.list (prog:=prog) (w:=w) hh I ax hne items;rwa[_,#[W.sub,λi h h' st k=>#[W.frame i h h' st.1 k,.inl hh],λi s Q E hi st O=>W.item i s Q E hi st.1 λv h' tk p q=>O v h' tk p #[q,.inl hh],λs Q E st O=>W.done s Q E st.1 O,λi s Q E st O=>W.self i s Q E st.1 O]]
 ·erw[[I,ax,x],#[λb Z=>by simp at Z;simp[Z],λi h h' st k=>#[#[st.1.1.at λo e=>k I (by simp) o e,st.1.2.at λo e=>k ax (by simp) o e],?_],λi s Q E hi st O=>?_,λs Q E st O=>?_,λi s Q E st O=>wpAny_pyIter_listiter st.1.1 O]]
  ·rcases st.2 with q|⟨y,oy,vy,q,ey,r⟩
   ·rw[hx] at q;cases q
   ·have:y=x:=by rw[hx] at q;cases q;rfl
    subst this;rwa[.inr #[32,y,oy,vy,hx,k y (by simp) _ ey,r]]
  ·erw[Ou st.1.1 st.1.2 (x:=items[i]) (by simp[hi]) λh' a1 U=>?_]
   rwa[O _ h' s.toks (by simp[hi]) #[#[a1,st.1.2.extBut U.extBut hne],Hn.but st.2 hI U.extBut] λb o Z e=>U.extBut b o (λh=>Z (by simp[h])) e]
  ·rwa[o7 st.2 hI st.1.1 st.1.2 (by simp) λh' a2=>O h' s.toks λb o Z e=>a2 b o (λh=>Z (by simp[h])) e]
theorem qp(hn:Hn A s.heap)(I ax:Addr)(hI:A.handled≠some (.ref I))(hne:ax≠I)(items:Array Value):
  ∃fp,Walks prog w A I fp [I] items.size (λi v=>items[i]? = some v) (λi h=>(h.IsTupleIter I ax i/\h.IsTuple ax items)/\Hn A h):=by
 rcases id hn with hh|⟨x,ox,vx,hx,ex,dx,cx⟩
 ·have W:=Walks.tuple (prog:=prog) (w:=w) hh I ax hne items;rwa[_,#[W.sub,λi h h' st k=>#[W.frame i h h' st.1 k,.inl hh],λi s Q E hi st O=>W.item i s Q E hi st.1 λv h' tk p q=>O v h' tk p #[q,.inl hh],λs Q E st O=>W.done s Q E st.1 O,λi s Q E st O=>W.self i s Q E st.1 O]]
 ·erw[[I,ax,x],#[λb Z=>by simp at Z;simp[Z],λi h h' st k=>#[#[st.1.1.at λo e=>k I (by simp) o e,st.1.2.at λo e=>k ax (by simp) o e],?_],λi s Q E hi st O=>?_,λs Q E st O=>?_,λi s Q E st O=>wpAny_pyIter_tupleiter st.1.1 O]]
  ·rcases st.2 with q|⟨y,oy,vy,q,ey,r⟩
   ·rw[hx] at q;cases q
   ·have:y=x:=by rw[hx] at q;cases q;rfl
    subst this;rwa[.inr #[32,y,oy,vy,hx,k y (by simp) _ ey,r]]
  ·erw[wpAny_pyNext_tuple_item st.1.1 st.1.2 (x:=items[i]) (by simp[hi]) λh' a1 U=>?_]
   rwa[O _ h' s.toks (by simp[hi]) #[#[a1,st.1.2.extBut U.extBut hne],Hn.but st.2 hI U.extBut] λb o Z e=>U.extBut b o (λh=>Z (by simp[h])) e]
  ·rwa[kL st.2 hI st.1.1 st.1.2 (by simp) λh' a2=>O h' s.toks λb o Z e=>a2 b o (λh=>Z (by simp[h])) e]
end
def jx(h:Heap)(e:Addr)(v:Option Value):Prop:=∃oe vs,h.get? e=some oe/\oe.data=.fields vs/\vs[2]? = v
section
variable {A:Around}
theorem Ej{base:Heap}{env:Env}{outer:List Env}{e:Addr}{head:Value}{nx:Bool}(hfr:A.frames=some (env::outer))(hl:s.heap.FunFrames base (env::outer))(hf:env.frame=some L)(he:s.heap.get? e=some oe)(hd:oe.data=.fields vs)(hsz:1<vs.size)(h:∀h' T oT ts,h'.get? e=some (oe.mapFields (·.setIfInBounds 1 (.ref T)))->T≠e->s.heap.get? T=none->h'.get? T=some oT->oT.data=.fields ts->ts[3]? = some (rawInt L)->
   (∀b o,b≠e->b∉(env::outer).filterMap (·.frame)->s.heap.get? b=some o->h'.get? b=some o)->(∀b o,b≠e->s.heap.get? b=some o->∃sl,h'.get? b=some { o with slots:=sl })->Q ⟨⟩ { s with heap:=h' }):
  wpAny M A (do let a <- frameOf env;let pl <- entryPlaceOf L nx;let b <- EntryCells.newEntry head a .none (rawInt L) .none pl;setField (.ref e) 1 b) Q E s:=by
 have nf:e∉(env::outer).filterMap (·.frame):=λhm=>by
  let#[0111,_,o,ho,hn]:=hl.mem hm;rw[he] at ho;cases ho;rwa[hn vs hd]
 erw[c_ (wpAny_frameOf_fun hfr hl hf λh1 s1=>c_ (wpAny_entryPlaceOf λpl Z=>?_))]
 unfold EntryCells.newEntry newFields;erw[c_ (HI ?_ (Z.sizeOk5 _ _ _ _ _))];have e1:h1.get? e=some oe:=(s1.2.1 e nf).trans he;erw[MC (g_ _ e1) hd hsz ?_];have ne:h1.objs.size≠e:=O7 (Hl e1);have up:∀{ob:Obj} b o,b≠e->h1.get? b=some o->((h1.push ob).update e (Obj.mapFields (·.setIfInBounds 1 (Value.ref h1.objs.size)))).get? b=some o:=λb o U O=>by
  rw[NJ _ _ (Ne.symm U)];rwa[g_ _ O]
 erw[h _ h1.objs.size _ _ (NC _ (g_ _ e1) (NZ (MD hd _))) ne ?_ ((NJ _ _ (Ne.symm ne)).trans (A_ h1 rfl)) rfl ?_ (λb o U hn O=>up b o U ((s1.2.1 b hn).trans O)) λb o U O=>?_]
 ·cases q:s.heap.get? h1.objs.size with
  |none=>rfl
  |some o=>
   let#[sl,q']:=s1.2.2 _ o q;rwa[absurd (Hl q') (ME _)]
 ·first|(simp;done)|(rcases Z with rfl|⟨_,_,_,_,_,_,_,rfl⟩<;>simp)
 ·let#[sl,q]:=s1.2.2 b o O;rwa[sl,up b _ U q]
theorem CZ{base:Heap}{env:Env}{outer:List Env}{e:Addr}(hfr:A.frames=some (env::outer))(hl:s.heap.FunFrames base (env::outer))(hf:env.frame=some L)(he:s.heap.get? e=some oe)(hkb:base.StaysIn s.heap)(hen:base.get? e=none)(hd:oe.data=.fields vs)(h0:vs[0]? = some a0)(hT:vs[1]? = some .none\/∃T oT ts,vs[1]? = some (.ref T)/\base.get? T=none/\T≠e/\s.heap.get? T=some oT/\oT.data=.fields ts/\ts[3]? = some .none)(h:∀h',Heap.HeldW base (env::outer) e oe.cls a0 L h'->s.heap.UpToSlots h'->(∀v,jx s.heap e v->jx h' e v)->Q ⟨⟩ { s with heap:=h' }):wpAny M A (noteFrame (.ref e) env) Q E s:=by
 have Z:∀(h1:Heap) (nx:Bool) (a1:Value),h1.FunFrames base (env::outer)->h1.get? e=some oe->base.StaysIn h1->s.heap.UpToSlots h1->
   wpAny M A (do let a <- frameOf env;let pl <- entryPlaceOf L nx;let b <- EntryCells.newEntry a1 a .none (rawInt L) .none pl;setField (.ref e) 1 b) Q E { s with heap:=h1 }:=λh1 nx a1 l1 e1 k1 u1=>by
  have hsz:1<vs.size:=by
   rcases hT with q|⟨_,_,_,q,_⟩<;>exact(Array.getElem?_eq_some_iff.mp q).1
  erw[Ej (s:={ s with heap:=h1 }) hfr l1 hf e1 hd hsz λh' T oT ts g1 g2 g3 g4 g5 g6 g7 g8=>h h' #[λb o O=>?_,hen,l1.of_keeps λb o O hn=>?_,?_] (u1.trans λb o O hn=>g8 b o (λz=>?_) O) λv f2=>?_]
  ·erw[g7 b o (λz=>by rw[z,hen] at O;cases O) (λhm=>?_) (k1 b o O)]
   rw[(l1.mem hm).1] at O;cases O
  ·let#[sl,q]:=g8 b o (λz=>by rw[z] at O;rw[show h1.get? e=some oe from e1] at O;cases O;rwa[hn vs hd]) O
   rwa[_,q,1]
  ·erw[4018,_,_,T,oT,ts,g1,#[Obj.cls_mapFields _ _,by rw[Array.getElem?_setIfInBounds_ne #[]];rwa[h0]],MD hd _,by simp[hsz],?_,g2,g4,g5,g6]
   cases q:base.get? T with
   |none=>rfl
   |some o'=>
    have:=k1 T o' q;rw[show h1.get? T=none from g3] at this
    cases this
  ·rw[z] at O;rw[show h1.get? e=some oe from e1] at O
   cases O;rwa[hn vs hd]
  ·let#[22,o2,v2,q1,q2,q3]:=f2;rw[he] at q1;cases q1;rw[hd] at q2;cases q2;rwa[22,_,_,g1,MD hd _,by rw[Array.getElem?_setIfInBounds_ne #[]];rwa[q3]]
 unfold noteFrame;simp only[hf]
 rcases id hT with h1|⟨T,oT,ts,h1,a5,a4,a2,a3,h3⟩
 ·erw[c_ (Lq he hd h1 ?_)];rw[w_ #[]]
  rwa[Z s.heap _ _ hl he hkb (Heap.UpToSlots.refl _)]
 ·erw[c_ (Lq he hd h1 ?_)];rw[C_ (show(Value.ref T != Value.none)=true from by simp)]
  erw[c_ (Lq a2 a3 h3 ?_)];rw[w_ (show ¬((Value.none==rawInt L)=true) from by simp[rawInt])]
  erw[c_ (MC a2 a3 (Array.getElem?_eq_some_iff.mp h3).1 ?_)];have U:∀b,b≠T->(s.heap.update T (Obj.mapFields (·.setIfInBounds 3 Value.none))).get? b=s.heap.get? b:=λb O=>NJ _ _ (Ne.symm O)
  have nT:∀b o,s.heap.get? b=some o->(∀vs,o.data≠.fields vs)->b≠T:=λb o O hn q=>by
   rw[q,a2] at O;cases O;rwa[hn ts a3]
  rwa[Z _ _ _ (hl.of_keeps λb o O hn=>#[o,(U b (nT b o O hn)).trans O,1]) ((U e (Ne.symm a4)).trans he) (λb o O=>(U b λq=>by rw[q,a5] at O;cases O).trans (hkb b o O)) λb o O hn=>#[o.slots,(U b (nT b o O hn)).trans O]]
theorem zQ{base:Heap}{l:List Env}{e:Addr}{fl:Value}(hkb:base.StaysIn s.heap)(hen:base.get? e=none)(hl:s.heap.FunFrames base l)(ht:s.heap.TracedAtW base e cls a0 fl)(h:∀h',Heap.FlyingW base l e cls a0 h'->s.heap.UpToSlots h'->(∀v,jx s.heap e v->jx h' e v)->Q ⟨⟩ { s with heap:=h' }):wpAny M A (setFlight (.ref e) none) Q E s:=by
 let#[4018,oe,vs,T,oT,ts,he,a2,hd,h1,a3,a1,hT,Z,h3]:=ht;have hsz:3<ts.size:=(Array.getElem?_eq_some_iff.mp h3).1;have U:∀b,b≠T->(s.heap.update T (Obj.mapFields (·.setIfInBounds 3 ((none:Option Addr).elim Value.none λf=>rawInt f)))).get? b=s.heap.get? b:=λb O=>NJ _ _ (Ne.symm O)
 have nT:∀b o,s.heap.get? b=some o->(∀vs,o.data≠.fields vs)->b≠T:=λb o O hn q=>by
  rw[q,hT] at O;cases O;rwa[hn ts Z]
 unfold setFlight;erw[c_ (Lq he hd h1 ?_)];rw[C_ (show(Value.ref T != Value.none)=true from by simp)]
 erw[MC hT Z hsz (h _ #[λb o O=>(U b λq=>by rw[q,a3] at O;cases O).trans (hkb b o O),hen,hl.of_keeps λb o O hn=>#[o,(U b (nT b o O hn)).trans O,1],?_] (λb o O hn=>#[o.slots,(U b (nT b o O hn)).trans O]) λv ⟨o2,v2,q1,q2,q3⟩=>#[22,o2,v2,(U e (Ne.symm a1)).trans q1,q2,q3])]
 rwa[4018,oe,vs,T,_,_,(U e (Ne.symm a1)).trans he,a2,hd,h1,a3,a1,NC _ hT (NZ (MD Z _)),MD Z _,by simp[hsz]]
theorem zP{base:Heap}{env:Env}{outer:List Env}{e:Addr}(hfr:A.frames=some (env::outer))(hl:s.heap.FunFrames base (env::outer))(hf:env.frame=some L)(he:s.heap.get? e=some oe)(hkb:base.StaysIn s.heap)(hen:base.get? e=none)(hd:oe.data=.fields vs)(h0:vs[0]? = some a0)(hT:vs[1]? = some .none\/∃T U ts,vs[1]? = some (.ref T)/\base.get? T=none/\T≠e/\s.heap.get? T=some U/\U.data=.fields ts/\ts[3]? = some .none)(h:∀h',Heap.FlyingW base outer e oe.cls a0 h'->s.heap.UpToSlots h'->(∀v,jx s.heap e v->jx h' e v)->Q ⟨⟩ { s with heap:=h' }):wpAny M A (leaving env (.ref e)) Q E s:=by
 unfold leaving;erw[c_ (CZ hfr hl hf he hkb hen hd h0 hT λh1 hh u1 Z=>?_)]
 let#[03,f1,f2,f3,f4]:=hh;erw[zQ (s:={ s with heap:=h1 }) f1 f2 f3 f4 λh2 O u2 c2=>?_]
 let#[03,k1,k2,#[_,_,k3],k4]:=O;rwa[h h2 #[k1,k2,k3,k4] (u1.trans u2) λv q=>c2 v (Z v q)]
theorem xH{base:Heap}{env:Env}{outer:List Env}{e:Addr}(hfr:A.frames=some (env::outer))(hf:env.frame=some L)(hfl:Heap.FlyingW base (env::outer) e cls a0 s.heap)(h:∀h',Heap.FlyingW base outer e cls a0 h'->s.heap.UpToSlots h'->(∀v,jx s.heap e v->jx h' e v)->Q ⟨⟩ { s with heap:=h' }):wpAny M A (leaving env (.ref e)) Q E s:=by
 let#[034014,O,U,Z,oe,vs,T,oT,ts,he,#[hc,h0],hd,h1,r]:=hfl;subst hc;rwa[zP hfr Z hf he O U hd h0 (.inr #[31,T,oT,ts,h1,r]) h]
theorem y8{base:Heap}{env:Env}{outer:List Env}{e:Addr}(hfr:A.frames=some (env::outer))(hf:env.frame=some L)(hfl:Heap.FlyingW base (env::outer) e cls a0 s.heap)(h:∀h',Heap.HeldW base (env::outer) e cls a0 L h'->s.heap.UpToSlots h'->(∀v,jx s.heap e v->jx h' e v)->Q ⟨⟩ { s with heap:=h' }):wpAny M A (noteFrame (.ref e) env) Q E s:=by
 let#[034014,O,U,Z,oe,vs,T,oT,ts,he,#[hc,h0],hd,h1,r]:=hfl;subst hc;rwa[CZ hfr Z hf he O U hd h0 (.inr #[31,T,oT,ts,h1,r]) h]
end
structure tS (A:Around) (h h':Heap) (e:Addr) (cls:Value):Prop where
 keeps:∀b o,h.get? b=some o->h'.get? b=some o
 new:h.get? e=none
 there:∃oe vs a0,h'.get? e=some oe/\oe.cls=cls/\oe.data=.fields vs/\vs[0]? = some a0/\vs[1]? = some .none/\(A.handled=none->vs[2]? = some .none)
section
variable {prog:Program}{w:World}{A:Around}{env:Env}
variable {nm q:Str}{N:Addr}{bs bm bmB:List Value}{hdct:Bool}{sn:List Str}{sub:List Value}{ab:Bool}{col:Option Bool}{dd:Option Addr}{k0 k1 k2 k3 k5:Option Value}{B Bn newId nid initId inN:String}{bmN:List Value}
theorem mQ{x:Sem Value}{Q:Flow->Shared->Prop}(hbase:bm.contains (.type "BaseException")=true)(h:wpAny (model prog w) A x (λv U=>∃e t h0,v=.ref e/\U.heap.get? C=some (excClassObj nm q C N bs bm hdct sn sub ab col dd k0 k1 k2 k3 k5 newId)/\(∀b o,h0.get? b=some o->U.heap.get? b=some o)/\h0.get? e=none/\Hn A h0/\
   U.heap.get? e=some { cls:=.ref C,data:=.fields #[8,.ref t,.none,.none,.none,.bool false,.none] }/\∀h',tS A h0 h' e (.ref C)->E (.ref e) { U with heap:=h' }) E s):
  wpAny (model prog w) A (raiseStmt env (some x) none) Q E s:=by
 have a1:(Value.ref C::bm).contains (.type "BaseException")=true:=by rw[List.contains_cons,hbase,Bool.or_true]
 unfold raiseStmt;erw[c_ (Mf h (λv U h₁=>?_) λ_ _ x=>x)]
 let#[36,e,t,h0,1,hC,hk,O,hn,he,hE]:=h₁;let#[hp,g,d,tk,os]:=U
 repeat (first|with_reducible erw[wpAny_loadPart_at he ?_]|with_reducible erw[wpAny_loadPart_at hC ?_]|(with_reducible erw[wpAny_isSubtype_exc hC ?_];rw[a1])|wp_step)
 erw[ot (hn.keeps hk) he rfl (by show 2<6;decide) (λz=>?_) λh' o' a3 sb ho hc hd hz hi hh=>hE h' #[λb o Z=>?_,O,o',a3,.ref t,ho,hc,hd,by rw[hi 0 #[]];rfl,by rw[hi 1 #[]];rfl,λq=>?_]]
 ·rcases hn with hn|⟨y,oy,vy,hn,ey,_⟩
  ·rw[hn] at z;cases z
  ·rw[hn] at z;cases z;rw[O] at ey;cases ey
 ·exact(sb.2 b λz=>by rw[z,O] at Z;cases Z).trans (hk b o Z)
 ·rw[hh q] at ho;have a2:=he.symm.trans ho;cases a2;cases hd
  rfl
theorem qI(Fn:ExcBaseFacts Bn newId inN bmN)(hBn:bmB.contains (.type Bn)=true)(F:ExcBaseFacts B nid initId bmB){mN:Str->Option Value}{np cpos:Pos}{args:List Expr}{Q:Flow->Shared->Prop}(hbase:bm.contains (.type "BaseException")=true)(hplain:(backTo cpos (starEach args env)).any (·.1)=false)(hni:mN "__init__" = none)(h:wpAny (model prog w) A (eval (.Name x np) env) (λf s₁=>f=.ref C/\wpAny (model prog w) A (evalArgs (.ref C) true (backTo cpos (starEach args env)) [])
   (λa O=>a.kw=[]/\a.pos.length<=sizeLine/\O.heap.get? C=some (excClassObj nm q C N bs bm hdct sn sub ab col dd k0 k1 k2 k3 k5 newId)/\O.heap.Ns N mN/\OwnTail O.heap bmB bm/\Hn A O.heap/\
    ∀h' e,tS A O.heap h' e (.ref C)->E (.ref e) { O with heap:=h' }) E s₁) E s):
  wpAny (model prog w) A (exec (.Raise (some (.Call (.Name x np) args [] cpos)) none pos) env) Q E s:=by
 rw[arm_exec_Raise]
 first
  |erw[c_ (N_ (mQ (C:=C) (nm:=nm) (q:=q) (N:=N) (bs:=bs) (bm:=bm) (hdct:=hdct) (sn:=sn) (sub:=sub) (ab:=ab) (col:=col) (dd:=dd) (k0:=k0) (k1:=k1) (k2:=k2) (k3:=k3) (k5:=k5) (newId:=newId) hbase ?_))]
  |(simp only[evalOpt,Option.map];erw[c_ (N_ (mQ (C:=C) (nm:=nm) (q:=q) (N:=N) (bs:=bs) (bm:=bm) (hdct:=hdct) (sn:=sn) (sub:=sub) (ab:=ab) (col:=col) (dd:=dd) (k0:=k0) (k1:=k1) (k2:=k2) (k3:=k3) (k5:=k5) (newId:=newId) hbase ?_))])
 erw[c_ (Mf (wpAny_Call_ofName (Mf h (λf s₁ h₁=>?_) λ_ _ x=>x)) (λv s₃ h₃=>c_ (N_ (f_ h₃))) λ_ _ x=>x)]
 let#[1,h₁]:=h₁;unfold callWith;erw[c_ (Ls (Mf h₁ (λa O h₂=>c_ (N_ ?_)) λ_ _ x=>x))]
 let#[apos,Z]:=a;let#[06,a1,U,hC,hn,T,hh,h₂]:=h₂;obtain rfl:Z=[]:=a1;let#[hp,g,d,tk,os]:=O;simp only[hplain];erw[c_ (wpAny_keeperOf_exc hC ?_)];erw[c_ (wpAny_call_exc_subU (hrest:=U) Fn hBn F T hC hn hni λh' e hm=>c_ (Ls (wpAny_point (f_ ?_))))]
 let#[12,t,ht,_,_]:=hm.there;rwa[36,e,t,hp,1,hm.keeps _ _ hC,hm.keeps,hm.new,hh,ht,λh2 r=>h₂ h2 e r]
end
abbrev Key:=Sum Int Str
def kF:Key->Value->Bool
 |.inl k,v=>Value.isInt k v
 |.inr x,v=>Value.isStrOf x v
def keyH(w:World):Key->Int
 |.inl k=>hashInt k
 |.inr x=>hashStr w x
theorem bn:∀{k:Key} {v:Value},kF k v=true->(∃i t,k=Sum.inl i/\v=Value.int i t)\/(∃x t,k=Sum.inr x/\v=Value.str x t)
 |.inl i,v,h=>by
  let#[t,e]:=Value.isInt_shape (k:=i) (v:=v) h;rwa[.inl #[21,i,t,1,e]]
 |.inr x,v,h=>by
  let#[t,e]:=Value.isStrOf_shape (x:=x) (v:=v) h;rwa[.inr #[21,x,t,1,e]]
theorem wU(i:Int)(t:Tok):kF (.inl i) (.int i t)=true:=by simp[kF,Value.isInt]
theorem wq(x:Str)(t:Tok):kF (.inr x) (.str x t)=true:=by simp[kF,Value.isStrOf]
theorem Ea(a b:Int):decide ((Sum.inl a:Key)=Sum.inl b)=(a==b):=by
 by_cases e:a=b
 ·subst e;simp
 ·have h:¬(Sum.inl a:Key)=Sum.inl b:=λq=>e (Sum.inl.inj q)
  rw[GN h];exact(Nh.mpr e).symm
theorem Es(a b:Str):decide ((Sum.inr a:Key)=Sum.inr b)=decide (a=b):=by
 by_cases e:a=b
 ·subst e;simp
 ·have h:¬(Sum.inr a:Key)=Sum.inr b:=λq=>e (Sum.inr.inj q)
  rw[GN h,GN e]
theorem EI(a:Int)(b:Str):decide ((Sum.inl a:Key)=Sum.inr b)=false:=GN (λq=>nomatch q)
theorem D4(a:Str)(b:Int):decide ((Sum.inr a:Key)=Sum.inl b)=false:=GN (λq=>nomatch q)
def aI(prog:Program)(w:World):PySem.KeyKind prog w Key where
 is:=kF
 hash:=keyH w
 inj:=λv a b ha hb=>by
  rcases bn ha with⟨i,t,rfl,rfl⟩|⟨x,t,rfl,rfl⟩
  ·rcases bn hb with⟨j,u,rfl,e⟩|⟨y,u,rfl,e⟩
   ·injection e with e1 _;rw[e1]
   ·rwa[nomatch e]
  ·rcases bn hb with⟨j,u,rfl,e⟩|⟨y,u,rfl,e⟩
   ·rwa[nomatch e]
   ·injection e with e1 _;rw[e1]
 byValue:=λk v h=>by
  rcases bn h with⟨i,t,rfl,rfl⟩|⟨x,t,rfl,rfl⟩<;>rfl
 pyHash:=λhv h=>by
  rcases bn hv with⟨i,t,rfl,rfl⟩|⟨x,t,rfl,rfl⟩
  ·rwa[wpAny_pyHash_int h]
  ·rwa[wpAny_pyHash_str h]
 eqBool:=λhu hv h=>by
  rcases bn hu with⟨i,t,rfl,rfl⟩|⟨x,t,rfl,rfl⟩
  ·rcases bn hv with⟨j,u,rfl,rfl⟩|⟨y,u,rfl,rfl⟩
   ·rw[Ea] at h;rwa[wpAny_eqBool_int h]
   ·rw[EI] at h;rwa[SeqAt.EqAt.int_str i t y u _ _ _ _ h]
  ·rcases bn hv with⟨j,u,rfl,rfl⟩|⟨y,u,rfl,rfl⟩
   ·rw[D4] at h;rwa[SeqAt.EqAt.str_int x t j u _ _ _ _ h]
   ·rw[Es] at h;rwa[wpAny_eqBool_str h]
 «strs»:=λk x t v h=>by
  rcases bn h with⟨i,u,rfl,e⟩|⟨y,u,rfl,e⟩
  ·rwa[nomatch e]
  ·injection e with e1 _
   subst e1;cases v<;>rfl
theorem uD(prog:Program)(w:World)(k:Key)(v:Value):(aI prog w).is k v=kF k v:=rfl
theorem rP(prog:Program)(w:World)(i:Int)(t:Tok):(aI prog w).is (.inl i) (.int i t)=true:=wU i t
theorem sH(prog:Program)(w:World)(x:Str)(t:Tok):(aI prog w).is (.inr x) (.str x t)=true:=wq x t
inductive V where
 |non|bl (b:Bool)|int (i:Int)|str (x:Str)|byt (b:Array UInt8)|flt (b:UInt64)|ref (a:Addr)|ty (n:String)
 deriving DecidableEq
variable {xs:List V}{v y:V}
def Gf:V->Value->Prop
 |.non,u=>u=Value.none
 |.bl b,u=>u=Value.bool b
 |.int i,u=>∃t,u=Value.int i t
 |.str x,u=>∃t,u=Value.str x t
 |.byt b,u=>∃t,u=Value.bytes b t
 |.flt b,u=>∃t,u=Value.float b t
 |.ref a,u=>u=Value.ref a
 |.ty n,u=>u=Value.type n
abbrev Ge:List V->List Value->Prop:=Paired Gf
theorem Ge.length(r:Ge xs us):xs.length=us.length:=Paired.length r
theorem Ge.get:∀{xs:List V} {us:List Value} {i:Nat} {x:V},Ge xs us->xs[i]? = some x->∃u,us[i]? = some u/\Gf x u
 |_,_,_,_,.nil,e=>by simp at e
 |_,_,0,_,.cons r _,e=>by simp at e;subst e;rwa[0,r]
 |_,_,i+1,x,.cons _ t,e=>by
  let#[u,h1,h2]:=Ge.get (i:=i) (x:=x) t (by simpa using e)
  rwa[u,by simpa using h1,h2]
theorem Ge.set{x:V}(r:Gf x u):∀{xs:List V} {us:List Value} (i:Nat),Ge xs us->Ge (xs.set i x) (us.set i u)
 |_,_,_,.nil=>.nil
 |_,_,0,.cons _ t=>.cons r t
 |_,_,i+1,.cons q t=>.cons q (Ge.set r i t)
theorem Ge.append:∀{xs ys:List V} {us ws:List Value},Ge xs us->Ge ys ws->Ge (xs++ys) (us++ws)
 |_,_,_,_,.nil,s=>s
 |_,_,_,_,.cons r t,s=>.cons r (Ge.append t s)
theorem Ge.take:∀{xs:List V} {us:List Value} (n:Nat),Ge xs us->Ge (xs.take n) (us.take n)
 |_,_,0,_=>.nil
 |_,_,_+1,.nil=>.nil
 |_,_,n+1,.cons r t=>.cons r (Ge.take n t)
theorem Ge.drop:∀{xs:List V} {us:List Value} (n:Nat),Ge xs us->Ge (xs.drop n) (us.drop n)
 |_,_,0,r=>r
 |_,_,_+1,.nil=>.nil
 |_,_,n+1,.cons _ t=>Ge.drop n t
def RelO:Option V->Option Value->Prop
 |some v,some u=>Gf v u
 |none,none=>True
 |_,_=>False
def KV{κ:Type}:List (κ×V)->List (κ×Value)->Prop:=Paired λ(p:κ×V) (q:κ×Value)=>p.1=q.1/\Gf p.2 q.2
def kV:Key->V
 |.inl i=>.int i
 |.inr x=>.str x
inductive HO where
 |lst (xs:List V)
 |tup (xs:List V)
 |dK (kvs:List (Key×V))|dT (kvs:List (List Key×V))
 |set (S:Int->Bool) (n:Nat)
 |ins (C dx:Addr) (fs:List (Str×V))
 |own (x:Addr)
 |xd (fs:List (Str×V))
 |met (f x:Addr)
 |rng (lo hi:Int)
 |frz (o:Obj) (u:HO)
 |tbl (ps:Array Value)
 |ext (φ:Heap->Prop)
abbrev Hp:=Addr->Option HO
variable {H H':Hp}
def upd(H:Hp)(a:Addr)(o:HO):Hp:=λb=>if b=a then some o else H b
theorem ae{o:HO}:upd H a o a=some o:=by unfold upd;rw[C_ rfl]
theorem ak{b:Addr}{o:HO}(h:b≠a):upd H a o b=H b:=by unfold upd;rw[w_ h]
theorem cf{o u:HO}:upd (upd H a o) a u=upd H a u:=by
 funext b;unfold upd;split<;>rfl
theorem bD{b:Addr}{o u:HO}(h:H a=some o)(h':H b=some u)(d:o≠u):a≠b:=by
 intro e;subst e;rw[h] at h';rwa[d (Mc h')]
theorem al{b:Addr}{o:HO}(h:H a=some o)(h':H b=none):a≠b:=by
 intro e;subst e;rw[h] at h';cases h'
section
variable (P:Program)(w:World)
def Gg(H:Hp)(h:Heap)(a:Addr):HO->Prop
 |.lst xs=>xs.length<=sizeLine/\∃(its:List Value) (n:Nat),Ge xs its/\h.get? a=some { cls:=.type "list",data:=.seq its.toArray n }
 |.tup xs=>xs.length<=sizeLine/\∃its:List Value,Ge xs its/\IsTup h a its.toArray
 |.dK kvs=>kvs.length<=sizeLine/\(a==sysModules)=false/\∃vs,KV kvs vs/\h.DictOf (aI P w) a vs
 |.dT kvs=>kvs.length<=sizeLine/\(a==sysModules)=false/\∃xs:List (List Key×Addr×Value),
   Paired (λ(p:List Key×V) (q:List Key×Addr×Value)=>p.1=q.1/\H q.2.1=some (.tup (p.1.map kV))/\Gf p.2 q.2.2) kvs xs/\
   ∃o es ep,h.get? a=some o/\o.ExactDict/\o.data=.dict es ep/\es.toList=xs.map (entryOfKey (tupleKind (aI P w)))/\(xs.map (·.1)).Nodup
 |.set S n=>h.SetOf (intKind P w) a S n
 |.ins C dx fs=>H dx=some (.own a)/\fs.length<=1000/\dx≠a/\h.get? a=some (instObj C dx)/\
   ∃mA,h.Ns1 dx mA/\(∀f,RelO (fs.lookup f) (mA f))/\PySem.Within mA (fs.map (·.1))
 |.own _=>∃o,h.get? a=some o
 |.xd fs=>∃mA,h.Ns1 a mA/\∀f,RelO (fs.lookup f) (mA f)
 |.rng lo hi=>∃t u v,h.get? a=some { cls:=.type "range",data:=.fields #[8,.int lo t,.int hi u,.int 1 v] }
 |.frz o u=>h.get? a=some o/\Gg H h a u
 |.tbl ps=>h.get? a=some { cls:=.none,data:=.fields ps }
 |.met f x=>h.get? a=some (PySem.W.methodObj (.ref f) (.ref x))
 |.ext φ=>φ h/\(∃o,h.get? a=some o)/\∀h1 h2:Heap,φ h1->(∀o,h1.get? a=some o->h2.get? a=some o)->φ h2
def HOk(H:Hp)(h:Heap):Prop:=∀a o,H a=some o->Gg P w H h a o
end
section
variable {w:World}{o:HO}
theorem Gg.lt(x:Gg P w H h a o):a<h.objs.size:=by
 cases o with
 |lst xs=>let#[0121,_,_,_,_,e]:=x;rwa[Hl e]
 |tup xs=>let#[0111,_,_,_,p]:=x;rwa[p.lt]
 |dK kvs=>let#[0271,_,_,_,_,o,_,_,e,_]:=x;rwa[Hl e]
 |dT kvs=>let#[0271,_,_,_,_,o,_,_,e,_]:=x;rwa[Hl e]
 |set S n=>let#[41,o,_,_,_,e,_]:=x;rwa[Hl e]
 |ins C dx fs=>let#[04,_,_,_,e,_]:=x;rwa[Hl e]
 |own y=>let#[_,e]:=x;rwa[Hl e]
 |xd fs=>let#[_,#[_,_,_,e,_],_]:=x;rwa[Hl e]
 |rng lo hi=>let#[30,_,_,_,e]:=x;rwa[Hl e]
 |frz ob u=>let#[e,_]:=x;rwa[Hl e]
 |tbl ps=>rwa[Hl (show h.get? a=some _ from x)]
 |met f y=>rwa[Hl (show h.get? a=some _ from x)]
 |ext φ=>let#[_,#[_,e],_]:=x;rwa[Hl e]
theorem Paired.mapP{β:Type}{F G:α->β->Prop}:∀{l₁:List α} {l₂:List β},Paired F l₁ l₂->(∀a b,F a b->G a b)->Paired G l₁ l₂
 |_,_,.nil,_=>.nil
 |_,_,.cons r t,f=>.cons (f _ _ r) (Paired.mapP t f)
theorem Gg.stay(x:Gg P w H h a o)(k:∀b u,(b=a\/H b=some (.own a))->h.get? b=some u->h'.get? b=some u)(ho:∀b,H b=some (.own a)->H' b=some (.own a))(ht:∀b xs,H b=some (.tup xs)->H' b=some (.tup xs)):Gg P w H' h' a o:=by
 induction o with
 |lst xs=>let#[0121,z,its,n,r,e]:=x;rwa[0121,z,its,n,r,k _ _ (.inl rfl) e]
 |tup xs=>let#[0151,z,its,r,O,e,c]:=x;rwa[0151,z,its,r,O,k _ _ (.inl rfl) e,c]
 |dK kvs=>let#[0271,z,y,vs,r,O,es,ep,e,c]:=x;rwa[0271,z,y,vs,r,O,es,ep,k _ _ (.inl rfl) e,c]
 |dT kvs=>
  let#[0271,z,y,xs,r,O,es,ep,e,c]:=x;rwa[0271,z,y,xs,Paired.mapP r λp q z=>#[z.1,ht _ _ z.2.1,z.2.2],O,es,ep,k _ _ (.inl rfl) e,c]
 |set S n=>let#[41,O,es,ep,t,e,c]:=x;rwa[41,O,es,ep,t,k _ _ (.inl rfl) e,c]
 |ins C dx fs=>
  let#[0411,d,z,ne,e,mA,#[od,es,ep,e2,c],r]:=x;rwa[ho _ d,z,ne,k _ _ (.inl rfl) e,mA,#[31,od,es,ep,k _ _ (.inr d) e2,c],r]
 |own y=>let#[O,e]:=x;rwa[O,k _ _ (.inl rfl) e]
 |xd fs=>let#[mA,#[od,es,ep,e,c],r]:=x;rwa[mA,#[31,od,es,ep,k _ _ (.inl rfl) e,c],r]
 |rng lo hi=>let#[30,t,u,v,e]:=x;rwa[30,t,u,v,k _ _ (.inl rfl) e]
 |frz O u ih=>let#[e,q]:=x;rwa[k _ _ (.inl rfl) e,ih q]
 |tbl ps=>
  have e:h.get? a=some { cls:=.none,data:=.fields ps }:=x;show h'.get? a=some { cls:=.none,data:=.fields ps }
  rwa[k a _ (.inl rfl) e]
 |met f y=>
  have e:h.get? a=some (PySem.W.methodObj (.ref f) (.ref y)):=x;show h'.get? a=some (PySem.W.methodObj (.ref f) (.ref y));rwa[k a _ (.inl rfl) e]
 |ext φ=>let#[p,#[o,e],st]:=x;rwa[st _ _ p λo q=>k _ _ (.inl rfl) q,#[o,k _ _ (.inl rfl) e],st]
theorem HOk.lt(x:HOk P w H h)(e:H a=some o):a<h.objs.size:=(x a o e).lt
theorem HOk.fresh(x:HOk P w H h)(e:h.objs.size<=a):H a=none:=by
 cases q:H a with
 |none=>rfl
 |some u=>rwa[absurd (Hh (x.lt q) e) (ME _)]
theorem HOk.kept(x:HOk P w H h)(k:∀b u,h.get? b=some u->h'.get? b=some u):HOk P w H h':=λa o e=>
 (x a o e).stay (λb u _ q=>k b u q) (λ_ q=>q) λ_ _ q=>q
theorem HOk.laid(x:HOk P w H h)(k:∀b u,h.get? b=some u->h'.get? b=some u)(hp:h.objs.size<=a)(new:Gg P w (upd H a o) h' a o):HOk P w (upd H a o) h':=λb u e=>by
 have hn:=x.fresh hp
 by_cases O:b=a
 ·subst O;rw[ae] at e;cases e;rwa[new]
 ·rw[ak O] at e;exact(x b u e).stay (λc v _ q=>k c v q) (λc q=>by rw[ak (al q hn)];rwa[q]) λc xs q=>by rw[ak (al q hn)];rwa[q]
end
def Rd(H:Hp)(a:Addr)(u:HO):Prop:=H a=some u\/∃o,H a=some (.frz o u)
theorem Rd.ok{w:World}{u:HO}(r:Rd H a u)(x:HOk P w H h):Gg P w H h a u:=by
 rcases r with r|⟨o,r⟩
 ·rwa[x a u r]
 ·let#[_,q]:=x a _ r;rwa[q]
def Mut:Option HO->Prop
 |some (.lst _)=>True
 |some (.dK _)=>True
 |some (.dT _)=>True
 |some (.set _ _)=>True
 |some (.ins _ _ _)=>True
 |some (.ext _)=>True
 |_=>False
section
variable {w:World}{x e:Addr}{o':HO}
theorem HOk.write(ok:HOk P w H h)(mu:Mut (H x))(he:e=x\/H e=some (.own x))(k:∀b u,b≠e->h.get? b=some u->h'.get? b=some u)(heo:∃u,h'.get? e=some u)(new:Gg P w (upd H x o') h' x o'):HOk P w (upd H x o') h':=λb u q=>by
 have U:∀c y,H c=some (.own y)->c≠x:=λc y r z=>by subst z;rw[r] at mu;rwa[mu]
 have Z:∀c xs,H c=some (.tup xs)->c≠x:=λc xs r z=>by subst z;rw[r] at mu;rwa[mu]
 by_cases hb:b=x
 ·subst hb;rw[ae] at q;cases q;rwa[new]
 ·rw[ak hb] at q
  by_cases O:b=e
  ·have q':H b=some (.own x):=by
    rcases he with z|z
    ·rwa[absurd (O.trans z) hb]
    ·rw[O];rwa[z]
   rw[q] at q';cases q';let#[v,hv]:=heo;rwa[v,by rw[O];rwa[hv]]
  ·refine(ok b u q).stay (λc v hc r=>k c v ?_ r) (λc r=>by rw[ak (U c b r)];rwa[r]) λc xs r=>by rw[ak (Z c xs r)];rwa[r]
   rcases hc with rfl|hc
   ·rwa[O]
   ·rintro rfl
    rcases he with z|z
    ·rwa[U c b hc z]
    ·rw[hc] at z;cases z;rwa[hb rfl]
end
structure Un (fs ex:List Addr) (H H':Hp) (h h':Heap):Prop where
 keep:∀b o,h.get? b=some o->H b=none->b∉fs->b∉ex->h'.get? b=some o
 slot:∀b o,h.get? b=some o->H b=none->b∈fs->b∉ex->∃sl,h'.get? b=some { o with slots:=sl }
 free:∀b o,h.get? b=some o->H b=none->b∉ex->H' b=none
 there:∀b o,h.get? b=some o->b∉ex->∃o',h'.get? b=some o'
 tups:∀b xs,H b=some (.tup xs)->H' b=some (.tup xs)
 frzs:∀b o u,H b=some (.frz o u)->H' b=some (.frz o u)
 tbls:∀b ps,H b=some (.tbl ps)->∃more,H' b=some (.tbl (ps++more))
section
variable {fs fs' ex ex':List Addr}{H1 H2:Hp}{h1 h2:Heap}{x e:Addr}{o:HO}
theorem Un.any(u:Un fs ex H H1 h h1){b:Addr}{ob:Obj}(q:h.get? b=some ob)(n:H b=none)(hx:b∉ex):∃sl,h1.get? b=some { ob with slots:=sl }:=by
 by_cases O:b∈fs
 ·rwa[u.slot b ob q n O hx]
 ·rwa[ob.slots,u.keep b ob q n O hx]
theorem Un.kept(k:∀b u,h.get? b=some u->h'.get? b=some u):Un fs ex H H h h':=
 #[λb O q _ _ _=>k b O q,λb O q _ _ _=>#[O.slots,k b O q],λ_ _ _ n _=>n,λb O q _=>#[O,k b O q],λ_ _ q=>q,λ_ _ _ q=>q,λ_ ps q=>#[#[8],by rw[q];simp]]
theorem Un.refl:Un fs ex H H h h:=Un.kept λ_ _ q=>q
theorem Un.laid(k:∀b u,h.get? b=some u->h'.get? b=some u)(hp:h.objs.size<=a)(hn:H a=none):Un fs ex H (upd H a o) h h' where
 keep:=λb u q _ _ _=>k b u q
 slot:=λb u q _ _ _=>#[u.slots,k b u q]
 free:=λb u q n _=>by rw[ak (F9 (Hh (Hl q) hp))];rwa[n]
 there:=λb u q _=>#[u,k b u q]
 tups:=λb xs q=>by rw[ak (al q hn)];rwa[q]
 frzs:=λb u xs q=>by rw[ak (al q hn)];rwa[q]
 tbls:=λb ps q=>#[#[8],by rw[ak (al q hn),q];simp]
theorem Un.write(mu:Mut (H x))(he:e=x\/H e=some (.own x))(k:∀b u,b≠e->h.get? b=some u->h'.get? b=some u)(heo:∃u,h'.get? e=some u):Un fs ex H (upd H x o) h h':=by
 have Z:∀b,H b=none->b≠x:=λb n z=>by subst z;rw[n] at mu;rwa[mu]
 have U:∀b,H b=none->b≠e:=λb n z=>by
  subst z
  rcases he with r|r
  ·rwa[Z b n r]
  ·rw[n] at r;cases r
 have hm:∀b u,H b=some u->¬Mut (some u)->b≠x:=λb u q nm z=>by subst z;rw[q] at mu;rwa[nm mu]
 erw[λb u q n _ _=>k b u (U b n) q,λb u q n _ _=>#[u.slots,k b u (U b n) q],λb u q n _=>by rw[ak (Z b n)];rwa[n],λb u q _=>?_,
  λb xs q=>by rw[ak (hm b _ q λz=>z)];rwa[q],λb u xs q=>by rw[ak (hm b _ q λz=>z)];rwa[q],λb ps q=>#[#[8],by rw[ak (hm b _ q λz=>z),q];simp]]
 by_cases O:b=e
 ·subst O;rwa[heo]
 ·rwa[u,k b u O q]
end
def trk(h:Heap)(H:Hp):List Addr:=(List.range h.objs.size).filter λa=>(H a).isSome
def qr(h:Heap)(H:Hp):Heap:={ hideAll h (trk h H) with life:={} }
theorem wY(h:Heap)(H:Hp):(qr h H).objs.size=h.objs.size:=PySem.W.hideAll_size _ _
theorem Bc{b:Addr}{o:Obj}(e:h.get? b=some o)(n:H b=none):(qr h H).get? b=some o:=
 hideAll_get _ e λhm=>by
  have q:(H b).isSome=true:=(List.mem_filter.mp hm).2;rw[n] at q;simp at q
theorem B4{b:Addr}{o:Obj}(e:(qr h H).get? b=some o):h.get? b=some o/\H b=none:=by
 have O:h.get? b=some o:=of_hideAll (trk h H) e;erw[O,?_];cases q:H b with
 |none=>rfl
 |some x=>
  have hm:b∈trk h H:=List.mem_filter.mpr #[M_.mpr (Hl O),by simp[q]]
  have z:(qr h H).get? b=none:=PySem.W.hideAll_none (trk h H) hm;rw[z] at e;cases e
def HnB(A:Around)(b:Heap):Prop:=(b.life={}->A.handled=none)/\Hn A b
class Quiet (b:Heap):Prop where
 q:b.life={}
structure Mod (K:Frag) (mg:Str->Option Value) (base:Heap):Prop where
 kin:K.In base
 glob:base.Ns mainGlobals mg
 blt:∃mb,base.Ns builtinsNs mb/\∀x:Str,x≠"__name__"->mb x=bootBuiltins x
 nolimit:base.NoLimit
structure Cx where
 prog:Program
 w:World
 K:Frag
 mg:Str->Option Value
 base:Heap
 A:Around
 N:List Str
 s₀:Shared
 H₀:Hp
 env:Env
 outer:List Env
 stack:List Env
 ex:List Addr
 fn:Str->Bool
 calm:Bool
 pn:List (Addr×Obj)
 xe:Value->Shared->Prop
variable {X:Cx}
def frs(l:List Env):List Addr:=l.filterMap (·.frame)
abbrev Cx.fs(X:Cx):List Addr:=frs X.outer
def Vis(sc:Scope)(x:Str):Prop:=sc.names.lookup x=some .local\/sc.names.lookup x=some .cell\/sc.names.lookup x=some .free
def Loc(sc:Scope)(x:Str):Prop:=sc.names.lookup x=some .local\/sc.names.lookup x=some .cell
def Look(env:Env)(h:Heap)(m:Str->Option Value)(x:Str)(u:Value):Prop:=
 (env.kindOf x=some .local/\m x=some u)\/((env.kindOf x=some .cell\/env.kindOf x=some .free)/\∃c,env.cells.lookup x=some c/\h.IsCell c (some u))
structure Cx.Ok (X:Cx):Prop where
 mod:Mod X.K X.mg X.base
 kind:X.env.scope.kind=.function
 glob:X.env.globals=mainGlobals
 blt:X.env.builtins=builtinsNs
 above:X.s₀.heap.objs.size<=X.env.locals
 inj:∀x y c,X.env.cells.lookup x=some c->X.env.cells.lookup y=some c->x=y
 has:∀x,(X.env.kindOf x=some .cell\/X.env.kindOf x=some .free)->∃c,X.env.cells.lookup x=some c
 cab:∀x c,X.fn x=true->X.env.cells.lookup x=some c->X.s₀.heap.objs.size<=c
 hd:X.calm=true->HnB X.A X.base
 frames:X.A.frames=some X.stack
 stk:X.stack=X.outer\/(X.stack=X.env::X.outer/\X.env.frame=some X.env.locals)
 exf:∀b∈X.ex,b≠X.env.locals/\∀x c,X.env.cells.lookup x=some c->c≠b
 bs:∀b o,X.base.get? b=some o->X.s₀.heap.get? b=some o/\X.H₀ b=none
 bsz:X.base.objs.size<=X.s₀.heap.objs.size
 noex:∀b o,X.base.get? b=some o->b∉X.ex
 exfs:∀b∈X.ex,b∉X.fs
 funs:X.s₀.heap.FunFrames X.base X.outer
 frf:∀b∈X.fs,X.H₀ b=none
structure Inv (X:Cx) (pins:List (Addr×Obj)) (σ:List (Option V)) (H:Hp) (s:Shared):Prop where
 ok:X.Ok
 os:s.os=X.s₀.os
 bare:AllBare s.gens
 base:Un X.fs X.ex X.H₀ H X.s₀.heap s.heap
 loc:∃m,s.heap.Ns X.env.locals m/\∀(i:Nat) (x:Str) (v:V),X.N[i]? = some x->σ[i]? = some (some v)->Vis X.env.scope x->∃u,Gf v u/\Look X.env s.heap m x u
 cell:∀x c,X.env.cells.lookup x=some c->∃v,s.heap.IsCell c v
 free:H X.env.locals=none
 freeC:∀x c,X.env.cells.lookup x=some c->H c=none
 pin:∀p∈X.pn++pins,s.heap.get? p.1=some p.2/\H p.1=none/\p.1≠X.env.locals/\p.1∉X.fs/\∀v,p.2.data≠.cell v
 hok:HOk X.prog X.w H s.heap
 len:σ.length=X.N.length
section
variable {σ:List (Option V)}
theorem Cx.Ok.nofr(ok:X.Ok){b:Addr}{o:Obj}(e:X.base.get? b=some o):b∉X.fs:=λO=>by
 have:=(ok.funs.mem O).1;rw[e] at this;cases this
theorem Inv.bs(I:#[7,7]):∀b o,X.base.get? b=some o->s.heap.get? b=some o/\H b=none:=λb o e=>
 #[I.base.keep b o (I.ok.bs b o e).1 (I.ok.bs b o e).2 (I.ok.nofr e) (I.ok.noex b o e),I.base.free b o (I.ok.bs b o e).1 (I.ok.bs b o e).2 (I.ok.noex b o e)]
theorem Inv.bk(I:#[7,7]):∀b o,X.base.get? b=some o->s.heap.get? b=some o:=λb o e=>(I.bs b o e).1
theorem Inv.hn(I:#[7,7])(hc:X.calm=true):Hn X.A s.heap:=(I.ok.hd hc).2.keeps I.bk
theorem Inv.hni(I:#[7,7])(hc:X.calm=true){b:Addr}(O:b∈X.ex\/X.s₀.heap.objs.size<=b):X.A.handled≠some (.ref b):=λz=>by
 rcases(I.ok.hd hc).2 with n|⟨x,ox,vx,n,e,_⟩
 ·rw[n] at z;cases z
 ·rw[n] at z;injection z with z
  injection z with z
  subst z
  rcases O with O|O
  ·rwa[I.ok.noex _ _ e O]
  ·rwa[absurd (Hl (I.ok.bs _ _ e).1) (Nat.not_lt.mpr O)]
abbrev Cx.still(X:Cx):Prop:=X.calm=true/\X.base.life={}
theorem Inv.hd0(I:#[7,7])(h:X.still):X.A.handled=none:=(I.ok.hd h.1).1 h.2
theorem Inv.mod(I:#[7,7]):Mod X.K X.mg X.base:=I.ok.mod
theorem Inv.kIn(I:#[7,7]):X.K.In s.heap:=I.ok.mod.kin.keeps I.bk
theorem Inv.lt(I:#[7,7]):X.env.locals<s.heap.objs.size:=let ⟨_,hn,_⟩:=I.loc;hn.lt
theorem Inv.sz(I:#[7,7]):X.s₀.heap.objs.size<=s.heap.objs.size:=Hb I.ok.above (Nat.le_of_lt I.lt)
theorem Inv.nofs(I:#[7,7])(h:s.heap.objs.size<=a):a∉X.fs:=λO=>by
 let#[0111,_,o,U,_]:=I.ok.funs.mem O;rwa[absurd (Hh (Hl U) (Hb I.sz h)) (ME _)]
theorem Inv.cne(I:#[7,7]):∀x c,X.env.cells.lookup x=some c->c≠X.env.locals:=λx c e z=>by
 let#[21,v,o,Z,hd]:=I.cell x c e;let#[m,#[o',es,ep,U,O,_],_]:=I.loc;rw[z,U] at Z;cases Z;rw[O] at hd;cases hd
theorem Inv.funs(I:#[7,7]):s.heap.FunFrames X.base X.outer:=by
 have all:∀(l:List Env),(∀b∈frs l,b∈X.fs)->X.s₀.heap.FunFrames X.base l->s.heap.FunFrames X.base l:=by
  intro l
  induction l with
  |nil=>intro _ _;trivial
  |cons env r ih=>
   intro hs hl;let#[hk,#[L,o,Z,hn,ho,hd],hr]:=hl;have O:L∈X.fs:=hs L (by unfold frs;rw[filterMap_cons,Z];rwa[LN])
   let#[sl,e]:=I.base.slot L o ho (I.ok.frf L O) O λz=>I.ok.exfs L z O
   rwa[hk,#[23,L,_,Z,hn,e,hd],ih (λb U=>hs b (by unfold frs;rw[filterMap_cons,Z];rwa[I_ _ U])) hr]
 rwa[all X.outer (λ_ U=>U) I.ok.funs]
theorem Inv.stack(I:#[7,7]):s.heap.FunFrames X.base X.stack:=by
 rcases I.ok.stk with e|⟨e,O⟩
 ·rw[e];rwa[I.funs]
 ·rw[e];let#[m,hn,_]:=I.loc;erw[.cons (by rw[I.ok.kind];decide) O hn ?_ I.funs]
  rwa[Heap.get?_none_of_le (Hb I.ok.bsz I.ok.above)]
theorem Inv.stkSub(I:#[7,7]):∀b∈frs X.stack,b∈X.env.locals::X.fs:=λb O=>by
 rcases I.ok.stk with e|⟨e,U⟩
 ·rw[e] at O;rwa[I_ _ O]
 ·rw[e] at O;unfold frs at O;rw[filterMap_cons,U] at O;rwa[O]
theorem Inv.stkFree(I:#[7,7]):∀b∈frs X.stack,H b=none:=λb O=>by
 rcases HB.mp (I.stkSub b O) with e|O
 ·rw[e];rwa[I.free]
 ·let#[0111,_,o,U,_]:=I.ok.funs.mem O;rwa[I.base.free b o U (I.ok.frf b O) λz=>I.ok.exfs b z O]
theorem Inv.step(I:#[7,7])(hch:∀b∈ch,(b∈X.ex\/X.s₀.heap.objs.size<=b)/\b≠X.env.locals/\(∀x c,X.env.cells.lookup x=some c->c≠b)/\∀p∈X.pn++pins,p.1≠b)(keep:∀b o,b≠X.env.locals->b∉X.fs->b∉ch->s.heap.get? b=some o->H b=none->h'.get? b=some o)(slot:∀b o,b≠X.env.locals->b∈X.fs->b∉ch->s.heap.get? b=some o->H b=none->∃sl,h'.get? b=some { o with slots:=sl })(free:∀b o,b∉ch->s.heap.get? b=some o->H b=none->H' b=none)(there:∀b o,b∉ch->s.heap.get? b=some o->∃o',h'.get? b=some o')(tups:∀b xs,H b=some (.tup xs)->H' b=some (.tup xs))(frzs:∀b o u,H b=some (.frz o u)->H' b=some (.frz o u))(tbls:∀b ps,H b=some (.tbl ps)->∃more,H' b=some (.tbl (ps++more)))(ns:∀m,s.heap.Ns X.env.locals m->h'.Ns X.env.locals m)(hok:HOk X.prog X.w H' h')(hg:AllBare g'):
  Inv X pins σ H' { s with heap:=h',gens:=g',drawn:=d',toks:=t' }:=by
 have a2:∀b o,X.s₀.heap.get? b=some o->b≠X.env.locals:=λb o e=>F9 (Hh (Hl e) I.ok.above)
 have a1:∀b o,X.s₀.heap.get? b=some o->b∉X.ex->b∉ch:=λb o e O hb=>by
  rcases(hch b hb).1 with z|z
  ·rwa[O z]
  ·rwa[absurd (Hh (Hl e) z) (ME _)]
 have U:∀x c,X.env.cells.lookup x=some c->∀v,s.heap.IsCell c v->h'.IsCell c v:=λx c e v ⟨o,ho,hd⟩=>by
  have Z:c∉ch:=λz=>(hch c z).2.2.1 x c e rfl
  by_cases hc:c∈X.fs
  ·let#[sl,q]:=slot c o (I.cne x c e) hc Z ho (I.freeC x c e);rwa[_,q,hd]
  ·rwa[o,keep c o (I.cne x c e) hc Z ho (I.freeC x c e),hd]
 erw[I.ok,I.os,hg,#[λb o e n hb O=>?_,λb o e n hb O=>?_,λb o e n O=>?_,λb o e O=>?_,λb xs e=>tups b xs (I.base.tups b xs e),λb o xs e=>frzs b o xs (I.base.frzs b o xs e),λb ps e=>?_],?_,λx c e=>?_,?_,λx c e=>?_,λp hp=>?_,hok,I.len]
 ·rwa[keep b o (a2 b o e) hb (a1 b o e O) (I.base.keep b o e n hb O) (I.base.free b o e n O)]
 ·let#[sl,e1]:=I.base.slot b o e n hb O;let#[a3,e2]:=slot b _ (a2 b o e) hb (a1 b o e O) e1 (I.base.free b o e n O);rwa[a3,e2]
 ·let#[o',e1]:=I.base.there b o e O;rwa[free b o' (a1 b o e O) e1 (I.base.free b o e n O)]
 ·let#[o',e1]:=I.base.there b o e O;rwa[there b o' (a1 b o e O) e1]
 ·let#[m1,e1]:=I.base.tbls b ps e;let#[m2,e2]:=tbls b _ e1;rwa[m1++m2,by rw[e2,Array.append_assoc]]
 ·let#[m,hn,hl]:=I.loc;erw[m,ns m hn,λi x v e1 e2 e3=>?_]
  let#[u,r,l]:=hl i x v e1 e2 e3;erw[u,r,?_]
  rcases l with l|⟨k,c,e,z⟩
  ·rwa[.inl l]
  ·rwa[.inr #[k,c,e,U x c e _ z]]
 ·let#[v,z]:=I.cell x c e;rwa[v,U x c e v z]
 ·let#[m,#[o,_,_,ho,_],_]:=I.loc;rwa[free _ o (λz=>(hch _ z).2.1 rfl) ho I.free]
 ·let#[21,v,o,ho,hd]:=I.cell x c e;rwa[free c o (λz=>(hch c z).2.2.1 x c e rfl) ho (I.freeC x c e)]
 ·let#[04,e,n,ne,nf,d]:=I.pin p hp;have Z:p.1∉ch:=λz=>(hch p.1 z).2.2.2 p hp rfl
  rwa[keep p.1 p.2 ne nf Z e n,free p.1 p.2 Z e n,ne,nf,d]
theorem Inv.un(I:#[7,7])(u:Un X.fs [] H H' s.heap h')(hok:HOk X.prog X.w H' h'):Inv X pins σ H' { s with heap:=h',toks:=t' }:=by
 let#[m,#[o,es,ep,ho,r],_]:=id I.loc;let#[sl,hL]:=u.any ho I.free (by simp)
 rwa[I.step (g':=s.gens) (d':=s.drawn) (ch:=[]) (λ_ z=>nomatch z) (λb o _ hb _ e n=>u.keep b o e n hb (by simp)) (λb o _ hb _ e n=>u.slot b o e n hb (by simp)) (λb o _ e n=>u.free b o e n (by simp)) (λb o _ e=>u.there b o e (by simp)) u.tups u.frzs u.tbls (λm' hm=>by
  let#[31,o',Z,U,O,r']:=hm;rw[ho] at O;cases O;rwa[31,_,Z,U,hL,r']) hok I.bare]
theorem Inv.call(I:#[7,7])(u:Un (frs X.stack) ch H H' s.heap h')(hok:HOk X.prog X.w H' h')(hg:AllBare g')(hch:∀b∈ch,(b∈X.ex\/X.s₀.heap.objs.size<=b)/\b≠X.env.locals/\(∀x c,X.env.cells.lookup x=some c->c≠b)/\∀p∈X.pn++pins,p.1≠b):
  Inv X pins σ H' { s with heap:=h',gens:=g',drawn:=d',toks:=t' }:=by
 let#[m,#[o,es,ep,ho,r],_]:=id I.loc;let#[sl,hL]:=u.any ho I.free λz=>(hch _ z).2.1 rfl
 rwa[I.step (ch:=ch) hch (λb o hL hb O e n=>u.keep b o e n (λz=>(HB.mp (I.stkSub b z)).elim hL hb) O) (λb o _ _ O e n=>u.any e n O) (λb o O e n=>u.free b o e n O) (λb o O e=>u.there b o e O) u.tups u.frzs u.tbls (λm' hm=>by
  let#[31,o',a1,Z,U,r']:=hm;rw[ho] at U;cases U;rwa[31,_,a1,Z,hL,r']) hok hg]
theorem Inv.turned(I:#[7,7])(k:∀b o,b≠it->s.heap.get? b=some o->h'.get? b=some o)(hn:H it=none)(hL:it≠X.env.locals)(h1:it∈X.ex\/X.s₀.heap.objs.size<=it)(h2:∀x c,X.env.cells.lookup x=some c->c≠it)(h3:∀p∈X.pn++pins,p.1≠it):Inv X pins σ H { s with heap:=h',toks:=t' }:=by
 have U:∀b u,H b=some u->b≠it:=λb u e z=>by rw[z,hn] at e;cases e
 erw[I.step (g':=s.gens) (d':=s.drawn) (ch:=[it]) (λb Z=>?_) (λb o _ _ O e _=>k b o (λz=>O (by simp[z])) e) (λb o _ _ O e _=>#[o.slots,k b o (λz=>O (by simp[z])) e]) (λ_ _ _ _ n=>n)
  (λb o O e=>#[o,k b o (λz=>O (by simp[z])) e]) (λ_ _ e=>e) (λ_ _ _ e=>e) (λb ps e=>#[#[8],by rw[e];simp]) (λm hm=>?_) (λb u e=>?_) I.bare]
 ·have e:b=it:=by simpa using Z
  subst e;rwa[h1,hL,h2,h3]
 ·let#[31,o,es,ep,ho,r]:=hm;rwa[31,o,es,ep,k _ o (Ne.symm hL) ho,r]
 ·refine(I.hok b u e).stay (λc v O q=>k c v ?_ q) (λ_ q=>q) λ_ _ q=>q
  rcases O with z|z
  ·rw[z];rwa[U b u e]
  ·rwa[U c _ z]
theorem Inv.tok(I:#[7,7])(t:Nat):Inv X pins σ H { s with toks:=t }:=I.un (h':=s.heap) (t':=t) Un.refl I.hok
theorem Inv.kept(I:#[7,7])(k:∀b u,s.heap.get? b=some u->h'.get? b=some u):Inv X pins σ H { s with heap:=h',toks:=t' }:=I.un (Un.kept k) (I.hok.kept k)
theorem Inv.laid{o:HO}(I:#[7,7])(k:∀b u,s.heap.get? b=some u->h'.get? b=some u)(hp:s.heap.objs.size<=a)(new:Gg X.prog X.w (upd H a o) h' a o):
  Inv X pins σ (upd H a o) { s with heap:=h',toks:=t' }:=I.un (Un.laid k hp (I.hok.fresh hp)) (I.hok.laid k hp new)
theorem Inv.write{x e:Addr}{o:HO}(I:#[7,7])(mu:Mut (H x))(he:e=x\/H e=some (.own x))(k:∀b u,b≠e->s.heap.get? b=some u->h'.get? b=some u)(heo:∃u,h'.get? e=some u)(new:Gg X.prog X.w (upd H x o) h' x o):Inv X pins σ (upd H x o) { s with heap:=h',toks:=t' }:=I.un (Un.write mu he k heo) (I.hok.write mu he k heo new)
theorem Inv.pins_of{pins':List (Addr×Obj)}(I:#[7,7])(h:∀p∈pins',s.heap.get? p.1=some p.2/\H p.1=none/\p.1≠X.env.locals/\p.1∉X.fs/\∀v,p.2.data≠.cell v):Inv X pins' σ H s:=
 #[I.ok,I.os,I.bare,I.base,I.loc,I.cell,I.free,I.freeC,λp O=>(Ht.mp O).elim (λz=>I.pin p (List.mem_append_left _ z)) (h p),I.hok,I.len]
theorem rf{N:List Str}(hN:N.Nodup){i:Nat}(a:N[i]? = some x)(b:N[j]? = some x):i=j:=by
 let#[h1,O]:=y_.mp a;let#[h2,e2]:=y_.mp b;exact(getElem_inj hN).mp (O.trans e2.symm)
theorem oF{A:Around}{i:Nat}(I:#[7,7])(hN:X.N.Nodup)(hi:X.N[i]? = some x)(hx:Loc X.env.scope x)(r:Gf v u)(h:∀s',Inv X pins (σ.set i (some v)) H s'->(∃a,Heap.SameBut a s.heap s'.heap/\(a=X.env.locals\/X.env.cells.lookup x=some a))->Q ⟨⟩ s')(hf:X.fn x=true\/X.env.scope.names.lookup x=some .local:=by first|rwa[.inl rfl]|rwa[.inr rfl]|assumption):wpAny M A (storeName X.env x u) Q E s:=by
 let#[m,hn,hl]:=id I.loc;have a5:(X.env.scope.kind == .class || (X.env.scope.kind == .module&&X.env.locals != X.env.globals))=false:=by rw[I.ok.kind];rfl
 have a6:i<σ.length:=by rw[I.len];exact(y_.mp hi).1
 have cne:=I.cne;have Z:∀{a:Addr} {h':Heap},(∃o,s.heap.get? a=some o/\H a=none)->Heap.SameBut a s.heap h'->HOk X.prog X.w H h':=λ{a h'} ha O b ob e=>by
  let#[_,_,a1]:=ha;refine(I.hok b ob e).stay (λc w' hc q=>(O.2 c ?_).trans q) (λ_ q=>q) λ_ _ q=>q
  rintro rfl
  rcases hc with rfl|hc
  ·rw[a1] at e;cases e
  ·rw[a1] at hc;cases hc
 rcases hx with hk|hk
 ·erw[wpAny_storeName_local hk hn (λh' a9 O=>?_) a5]
  let#[31,oL,_,_,a',_]:=id hn;erw[h _ #[I.ok,I.os,I.bare,#[λb o e n hb hx=>?_,λb o e n hb hx=>?_,I.base.free,λb o e hx=>?_,I.base.tups,I.base.frzs,I.base.tbls],#[_,a9,λj y v' U e2 e3=>?_],λy c e=>?_,I.free,I.freeC,λp hp=>?_,Z #[oL,a',I.free] O,by simpa using I.len] #[_,O,.inl rfl]]
  ·exact(O.2 b (F9 (Hh (Hl e) I.ok.above))).trans (I.base.keep b o e n hb hx)
  ·let#[sl,U]:=I.base.slot b o e n hb hx;rwa[sl,(O.2 b (F9 (Hh (Hl e) I.ok.above))).trans U]
  ·let#[o',U]:=I.base.there b o e hx;rwa[o',(O.2 b (F9 (Hh (Hl e) I.ok.above))).trans U]
  ·by_cases hj:j=i
   ·subst hj;rw[hi] at U;cases U;rw[List.getElem?_set_self a6] at e2;cases e2;rwa[u,r,.inl #[hk,by simp]]
   ·rw[List.getElem?_set_ne (Ne.symm hj)] at e2;let#[u',r',q]:=hl j y v' U e2 e3;erw[u',r',?_]
    rcases q with⟨k,e⟩|⟨k,c,e,z⟩
    ·erw[.inl #[k,?_]];have:y≠x:=λe=>hj (rf hN U (e▸hi))
     simp[this,e]
    ·rwa[.inr #[k,c,e,z.sameBut O (cne y c e)]]
  ·let#[w',z]:=I.cell y c e;rwa[w',z.sameBut O (cne y c e)]
  ·let#[04,e,n,ne,nf,d]:=I.pin p hp;rwa[(O.2 p.1 ne).trans e,n,ne,nf,d]
 ·have a2:X.fn x=true:=by
   rcases hf with z|z
   ·rwa[z]
   ·rw[z] at hk;cases hk
  let#[c,hc]:=I.ok.has x (.inl hk);let#[w',z]:=I.cell x c hc;erw[wpAny_storeName_cell I.ok.kind hk hc z (λh' a3 O=>?_)]
  let#[oc,a7,a8]:=id z;erw[h { s with heap:=h' } #[I.ok,I.os,I.bare,#[λb o e n hb hx=>?_,λb o e n hb hx=>?_,I.base.free,λb o e hx=>?_,I.base.tups,I.base.frzs,I.base.tbls],#[m,hn.sameBut O (Ne.symm (cne x c hc)),λj y v' U e2 e3=>?_],λy c' e=>?_,I.free,I.freeC,λp hp=>?_,Z #[oc,a7,I.freeC x c hc] O,by simpa using I.len] #[c,O,.inr hc]]
  ·exact(O.2 b (F9 (Hh (Hl e) (I.ok.cab x c a2 hc)))).trans (I.base.keep b o e n hb hx)
  ·let#[sl,U]:=I.base.slot b o e n hb hx;rwa[sl,(O.2 b (F9 (Hh (Hl e) (I.ok.cab x c a2 hc)))).trans U]
  ·let#[o',U]:=I.base.there b o e hx;rwa[o',(O.2 b (F9 (Hh (Hl e) (I.ok.cab x c a2 hc)))).trans U]
  ·by_cases hj:j=i
   ·subst hj;rw[hi] at U;cases U;rw[List.getElem?_set_self a6] at e2;cases e2;rwa[u,r,.inr #[.inl hk,c,hc,a3]]
   ·rw[List.getElem?_set_ne (Ne.symm hj)] at e2;let#[u',r',q]:=hl j y v' U e2 e3;erw[u',r',?_]
    rcases q with q|⟨k,c',e,z'⟩
    ·rwa[.inl q]
    ·erw[.inr #[k,c',e,z'.sameBut O ?_]];rintro rfl;rwa[hj (rf hN U (I.ok.inj _ _ _ e hc▸hi))]
  ·by_cases a4:c'=c
   ·subst a4;rwa[_,a3]
   ·let#[w2,z2]:=I.cell y c' e;rwa[w2,z2.sameBut O a4]
  ·let#[04,e,n,ne,nf,d]:=I.pin p hp;erw[(O.2 p.1 ?_).trans e,n,ne,nf,d];intro q;rw[q,a7] at e;have q':oc=p.2:=Mc e;rwa[d w' (by rw[<- q'];rwa[a8])]
theorem gH{A:Around}{i:Nat}(I:#[7,7])(hN:X.N.Nodup)(hi:X.N[i]? = some x)(hx:Loc X.env.scope x)(r:Gf v u)(h:∀s',Inv X pins (σ.set i (some v)) H s'->Q ⟨⟩ s')(hf:X.fn x=true\/X.env.scope.names.lookup x=some .local:=by first|rwa[.inl rfl]|rwa[.inr rfl]|assumption):wpAny M A (storeName X.env x u) Q E s:=
 oF I hN hi hx r (λs' O _=>h s' O) hf
theorem Inv.call'(I:#[7,7])(ho:s'.os=s.os)(u:Un (frs X.stack) ch H H' s.heap s'.heap)(hok:HOk X.prog X.w H' s'.heap)(hg:AllBare s'.gens)(hch:∀b∈ch,(b∈X.ex\/X.s₀.heap.objs.size<=b)/\b≠X.env.locals/\(∀x c,X.env.cells.lookup x=some c->c≠b)/\∀p∈X.pn++pins,p.1≠b):Inv X pins σ H' s':=by
 let#[h',g',d',t',o']:=s';have e:o'=s.os:=ho;subst e;rwa[I.call (g':=g') (t':=t') (d':=d') u hok hg hch]
end
abbrev XK:=Value->Option Addr->Hp->Prop
abbrev St:=List (Option V)
variable {σ:St}
abbrev VK:=V->Hp->Prop
abbrev TE:=St->Hp->VK->Prop
variable {ta te tl:TE}
abbrev TT:=St->Hp->(Bool->Hp->Prop)->Prop
variable {tc:TT}
abbrev TA:=St->Hp->(List V->Hp->Prop)->Prop
structure gi where
 nx:St->Hp->Prop
 rt:VK
 bk:St->Hp->Prop:=λ_ _=>False
 ct:St->Hp->Prop:=λ_ _=>False
variable {D:gi}
abbrev TS:=gi->St->Hp->Prop
variable {tb:TS}
def EP(X:Cx)(pins:List (Addr×Obj))(σ:St)(Q:VK)(u:Value)(s':Shared):Prop:=∃v H',Inv X pins σ H' s'/\Gf v u/\Q v H'
def TP(X:Cx)(pins:List (Addr×Obj))(σ:St)(Q:Bool->Hp->Prop)(b:Bool)(s':Shared):Prop:=∃H',Inv X pins σ H' s'/\Q b H'
def AP(X:Cx)(pins:List (Addr×Obj))(σ:St)(Q:List V->Hp->Prop)(us:List Value)(s':Shared):Prop:=∃vs H',Inv X pins σ H' s'/\Ge vs us/\Q vs H'
def SP(X:Cx)(pins:List (Addr×Obj))(D:gi)(f:Flow)(s':Shared):Prop:=
 match f with
 |.next=>∃σ' H',Inv X pins σ' H' s'/\D.nx σ' H'
 |.brk=>∃σ' H',Inv X pins σ' H' s'/\D.bk σ' H'
 |.cont=>∃σ' H',Inv X pins σ' H' s'/\D.ct σ' H'
 |.ret u=>∃v σ' H',Inv X pins σ' H' s'/\Gf v u/\D.rt v H'
def PE(X:Cx)(e:Expr)(t:TE):Prop:=
 ∀(pins:List (Addr×Obj)) (s:Shared) (σ:St) (H:Hp) (Q:VK),#[7,7]->t σ H Q->wpAny #[7] X.A (eval e X.env) (EP X pins σ Q) X.xe s
def PT(X:Cx)(e:Expr)(t:TT):Prop:=
 ∀(pins:List (Addr×Obj)) (s:Shared) (σ:St) (H:Hp) (Q:Bool->Hp->Prop),#[7,7]->t σ H Q->wpAny #[7] X.A (isTrue e X.env (eval e X.env)) (TP X pins σ Q) X.xe s
def PW(X:Cx)(e:Expr)(t:TT):Prop:=
 ∀(whole:Sem Value) (pins:List (Addr×Obj)) (s:Shared) (σ:St) (H:Hp) (Q:Bool->Hp->Prop),#[7,7]->t σ H Q->wpAny #[7] X.A (isTrue e X.env whole) (TP X pins σ Q) X.xe s
theorem PW.pt{t:TT}(h:PW X e t):PT X e t:=h _
def PA(X:Cx)(es:List Expr)(t:TA):Prop:=
 ∀(pos:Pos) (pins:List (Addr×Obj)) (s:Shared) (σ:St) (H:Hp) (Q:List V->Hp->Prop),#[7,7]->t σ H Q->wpAny #[7] X.A (spliced (backTo pos (starEach es X.env))) (AP X pins σ Q) X.xe s
def PS(X:Cx)(st:Stmt)(t:TS):Prop:=
 ∀(pins:List (Addr×Obj)) (s:Shared) (σ:St) (H:Hp) (D:gi),#[7,7]->t D σ H->wpAny #[7] X.A (exec st X.env) (SP X pins D) X.xe s
def PSs(X:Cx)(st:List Stmt)(t:TS):Prop:=
 ∀(pins:List (Addr×Obj)) (s:Shared) (σ:St) (H:Hp) (D:gi),#[7,7]->t D σ H->wpAny #[7] X.A (execs st X.env) (SP X pins D) X.xe s
theorem thn{t:Sem α}{Q Q':α->Shared->Prop}{A:Around}(h:wpAny M A t Q E s)(hQ:∀a s,Q a s->Q' a s):wpAny M A t Q' E s:=Mf h hQ λ_ _ x=>x
section
def nQ(i:Nat):TE:=λσ H Q=>∃v,σ[i]? = some (some v)/\Q v H
def tC(v:V):TE:=λ_ H Q=>Q v H
theorem Ee{i:Nat}(hN:X.N[i]? = some x)(hv:Vis X.env.scope x)(hd:(x==("__debug__" : Str))=false:=by decide)(hcd:(x==("__classdict__" : Str))=false:=by decide):PE X (.Name x pos) (nQ i):=by
 intros Q I h;let#[v,e,h]:=h;let#[m,hn,O]:=I.loc;let#[u,r,l]:=O i x v hN e hv;have fin:EP X pins σ Q u s:=#[22,v,H,I,r,h]
 rcases l with⟨hk,hm⟩|⟨hk,c,hc,hcell⟩
 ·rwa[wpAny_Name (wpAny_loadName_local I.ok.kind hk hn hm fin) hd]
 ·rcases hk with hk|hk
  ·rwa[wpAny_Name (wpAny_loadName_cell I.ok.kind hk hc hcell fin) hd]
  ·rwa[wpAny_Name (wpAny_loadName_free I.ok.kind hk hc hcell fin hcd) hd]
theorem ah{i j pos}:PE X (.Constant (.int i) j pos) (tC (.int i)):=λ_ _ _ H _ I h=>wpAny_Constant_int #[22,.int i,H,I.tok _,#[0],h]
theorem dU{b j pos}:PE X (.Constant (.bool b) j pos) (tC (.bl b)):=λ_ _ _ H _ I h=>Constant_bool #[22,.bl b,H,I,1,h]
theorem um{j pos}:PE X (.Constant .none j pos) (tC .non):=λ_ _ _ H _ I h=>Constant_none #[22,.non,H,I,1,h]
theorem iH{x j pos}:PE X (.Constant (.str x) j pos) (tC (.str x)):=λ_ _ _ H _ I h=>Calls.Constant_str #[22,.str x,H,I.tok _,#[0],h]
def Gl(X:Cx)(x:Str):Prop:=X.env.kindOf x=some .globalImplicit
theorem dY{Q:Value->Shared->Prop}(I:#[7,7])(hg:Gl X x)(hm:X.mg x=some u)(h:Q u s)(hd:(x==("__debug__" : Str))=false:=by decide):wpAny #[7] X.A (eval (.Name x pos) X.env) Q E s:=
 Calls.Name_function_global I.ok.kind hg (Calls.loadGlobal_global (by rw[I.ok.glob];rwa[I.mod.glob.keeps I.bk]) hm h) hd
theorem eB{Q:Value->Shared->Prop}(I:#[7,7])(hg:Gl X x)(hm:X.mg x=none)(hv:bootBuiltins x=some u)(h:Q u s)(hn:x≠"__name__":=by decide)(hd:(x==("__debug__" : Str))=false:=by decide):wpAny #[7] X.A (eval (.Name x pos) X.env) Q E s:=by
 let#[mb,h1,h2]:=I.mod.blt;rwa[Calls.Name_function_global I.ok.kind hg (Calls.loadGlobal_builtin (by rw[I.ok.glob];rwa[I.mod.glob.keeps I.bk]) hm (by rw[I.ok.blt];rwa[h1.keeps I.bk]) ((h2 x hn).trans hv) h) hd]
theorem bu(hg:Gl X x)(hm:X.mg x=some u)(r:Gf v u)(hd:(x==("__debug__" : Str))=false:=by decide):PE X (.Name x pos) (tC v):=
 λ_ _ _ H _ I h=>dY I hg hm #[22,v,H,I,r,h] hd
theorem vN(hg:Gl X x)(hm:X.mg x=none)(hv:bootBuiltins x=some u)(r:Gf v u)(hn:x≠"__name__":=by decide)(hd:(x==("__debug__" : Str))=false:=by decide):PE X (.Name x pos) (tC v):=
 λ_ _ _ H _ I h=>eB I hg hm hv #[22,v,H,I,r,h] hn hd
variable {a b:Expr}{tb:TE}
def PC(X:Cx)(op:CmpOp)(a b:Expr)(t:TE):Prop:=
 ∀(pins:List (Addr×Obj)) (s:Shared) (σ:St) (H:Hp) (Q:VK),#[7,7]->t σ H Q->
  wpAny #[7] X.A (eval a X.env) (λv s₁=>wpAny #[7] X.A (eval b X.env) (λu s₂=>wpAny #[7] X.A (compareOp op v u) (EP X pins σ Q) X.xe s₂) X.xe s₁) X.xe s
def tB(t:TE):TT:=λσ H Q=>t σ H λx H1=>∃c,x=.bl c/\Q c H1
theorem DX{t:TE}(h:PC X op a b t)(h1:behindInMarks op b=false:=by first|rwa[nobehind _ #[] #[]]|rfl):PT X (.Compare a [op] [b] pos) (tB t):=by
 intros Q I hw;erw[wpAny_isTrue_Compare1 (thn (h pins s σ H _ I hw) λv s1 h1=>thn h1 λu s2 h2=>thn h2 λc s3 ⟨x,H1,O,Z,U⟩=>?_) h1]
 let#[d,1,q]:=U;cases Z;rwa[On #[H1,O,q]]
theorem bW{t:TE}(h:PE X e t)(he:∀O,isTrue e X.env O=(do let v <- O;standAt e.pos;holding [v] (truthy v)):=by intro _;rfl):PT X e (tB t):=by
 intros Q I hw;erw[isTrue_plain (thn (h pins s σ H _ I hw) λv s1 ⟨x,H1,U,r1,Z⟩=>?_) (he _)]
 let#[d,1,q]:=Z;cases r1;rwa[On #[H1,U,q]]
variable {tA tB':TT}{rest:List Expr}
def tOr(t u:TT):TT:=λσ H Q=>t σ H λc H1=>if c=true then Q true H1 else u σ H1 Q
def tNot(t:TT):TT:=λσ H Q=>t σ H λc H1=>Q (!c) H1
theorem f9(ha:PT X a tA):PW X (.BoolOp .Or [a] pos) tA:=by
 intro wh pins s σ H Q I h;erw[isTrue_or (thn (ha pins s σ H Q I h) λc s1 e=>?_)]
 cases c with
 |false=>rwa[isTrue_or_nil e]
 |true=>rwa[e]
theorem gf(ha:PT X a tA)(hb:PW X (.BoolOp .Or (b::rest) pos) tB'):PW X (.BoolOp .Or (a::b::rest) pos) (tOr tA tB'):=by
 intro wh pins s σ H Q I h;erw[isTrue_or (thn (ha pins s σ H _ I h) λc s1 ⟨H1,O,U⟩=>?_)]
 cases c with
 |true=>rwa[H1,O,U]
 |false=>rwa[hb wh pins s1 σ H1 Q O U]
theorem cF(ha:PT X a tA):PT X (.UnaryOp .Not a pos) (tNot tA):=by
 intros Q I h;rwa[isTrue_not (ha pins s σ H (λc H1=>Q (!c) H1) I h)]
def F5(ta tb:TE):TE:=λσ H Q=>ta σ H λx H1=>∃c,x=.bl c/\if c=true then tb σ H1 Q else Q (.bl false) H1
def E5(ta:TE):TE:=λσ H Q=>ta σ H λx H1=>∃c,x=.bl c/\Q (.bl (!c)) H1
theorem fe{op}{t:TE}(h:PE X a t):PE X (.BoolOp op [a] pos) t:=λpins s σ H Q I hw=>BoolOp_one (h pins s σ H Q I hw)
theorem dO(ha:PE X a ta)(hb:PE X (.BoolOp .And (b::rest) pos) tb):PE X (.BoolOp .And (a::b::rest) pos) (F5 ta tb):=by
 intros Q I h;erw[BoolOp_and (thn (ha pins s σ H _ I h) λv s1 ⟨x,H1,U,Z,O⟩=>?_)]
 let#[c,1,O]:=O;cases Z;erw[On ?_];cases c with
 |true=>rwa[hb pins s1 σ H1 Q U O]
 |false=>rwa[22,.bl false,H1,U,1,O]
theorem tP(ha:PE X a ta):PE X (.UnaryOp .Not a pos) (E5 ta):=by
 intros Q I h;erw[UnaryOp_ (thn (ha pins s σ H _ I h) λv s1 ⟨x,H1,U,Z,O⟩=>?_)]
 let#[c,1,O]:=O;cases Z;rwa[not_of (On #[22,.bl (!c),H1,U,1,O])]
def tIf(t:TT)(ta tb:TE):TE:=λσ H Q=>t σ H λc H1=>if c=true then ta σ H1 Q else tb σ H1 Q
theorem mM(hc:PT X c tA)(ha:PE X a ta)(hb:PE X b tb):PE X (.IfExp c a b pos) (tIf tA ta tb):=by
 intros Q I h;erw[wpAny_IfExp (thn (hc pins s σ H _ I h) λd s1 ⟨H1,O,U⟩=>?_)]
 cases d with
 |true=>rwa[ha pins s1 σ H1 Q O U]
 |false=>rwa[hb pins s1 σ H1 Q O U]
end
def SqL(K:Frag)(H:Hp)(a:Addr)(xs:List V):Prop:=
 Rd H a (.lst xs) \/
  ∃(o:Obj) (its:Array Value) (n:Nat),K.lookup a=some o/\o.cls=.type "list"/\o.dict=none/\o.data=.seq its n/\its.size<=sizeLine/\Ge xs its.toList
def SqT(K:Frag)(H:Hp)(a:Addr)(xs:List V):Prop:=
 Rd H a (.tup xs) \/
  ∃(o:Obj) (its:Array Value) (n:Nat),K.lookup a=some o/\o.cls=.type "tuple"/\o.data=.seq its n/\its.size<=sizeLine/\Ge xs its.toList
def absV:Value->Option V
 |.none=>some .non
 |.bool b=>some (.bl b)
 |.int i _=>some (.int i)
 |.str x _=>some (.str x)
 |.bytes b _=>some (.byt b)
 |.float b _=>some (.flt b)
 |.ref a=>some (.ref a)
 |.type n=>some (.ty n)
 |_=>none
theorem Gf.abs{x:V}(r:Gf x u):absV u=some x:=by
 cases x with
 |non=>cases r;rfl
 |bl _=>cases r;rfl
 |int _=>let#[t,1]:=r;rfl
 |str _=>let#[t,1]:=r;rfl
 |byt _=>let#[t,1]:=r;rfl
 |flt _=>let#[t,1]:=r;rfl
 |ref _=>cases r;rfl
 |ty _=>cases r;rfl
theorem Gf.inj{x:V}(r:Gf x u)(q:Gf y u):x=y:=Mc (r.abs.symm.trans q.abs)
theorem Ge.inj:∀{xs ys:List V} {us:List Value},Ge xs us->Ge ys us->xs=ys
 |_,_,_,.nil,.nil=>rfl
 |_,_,_,.cons r t,.cons r' t'=>by rw[r.inj r',Ge.inj t t']
section
variable {ys:List V}
theorem SqL.of{K:Frag}(h:H a=some (.lst xs)):SqL K H a xs:=.inl (.inl h)
theorem SqT.of{K:Frag}(h:H a=some (.tup xs)):SqT K H a xs:=.inl (.inl h)
theorem Inv.list(I:#[7,7])(h:SqL X.K H a xs):∃its:List Value,Ge xs its/\PlainL s.heap a its.toArray/\xs.length<=sizeLine:=by
 rcases h with h|⟨o,its,n,hk,O,hd,U,Z,r⟩
 ·let#[0121,z,its,n,r,e]:=h.ok I.hok;rwa[its,r,#[23,_,n,e,1,1,1],z]
 ·erw[its.toList,r,#[23,o,n,I.kIn a o hk,O,hd,by simpa using U],?_]
  have e:=r.length;simp only[Md] at e;lia
theorem Inv.tuple(I:#[7,7])(h:SqT X.K H a xs):∃its:List Value,Ge xs its/\IsTup s.heap a its.toArray/\xs.length<=sizeLine:=by
 rcases h with h|⟨o,its,n,hk,O,U,Z,r⟩
 ·let#[0111,z,its,r,p]:=h.ok I.hok;rwa[its,r,p,z]
 ·erw[its.toList,r,#[o,I.kIn a o hk,O,n,by simpa using U],?_]
  have e:=r.length;simp only[Md] at e;lia
theorem Inv.list_inj(I:#[7,7])(h:SqL X.K H a xs)(h':SqL X.K H a ys):xs=ys:=by
 let#[12,its,r,#[o,n,e,_,_,d],_]:=I.list h;let#[12,its',U,#[o',Z,O,_,_,d'],_]:=I.list h';rw[e] at O;cases O;rw[d] at d';injection d' with d1 _
 have:its=its':=by simpa using LD Array.toList d1
 subst this;rwa[r.inj U]
theorem Inv.tuple_inj(I:#[7,7])(h:SqT X.K H a xs)(h':SqT X.K H a ys):xs=ys:=by
 let#[12,its,r,#[o,e,_,n,d],_]:=I.tuple h;let#[12,its',U,#[o',O,_,Z,d'],_]:=I.tuple h';rw[e] at O;cases O;rw[d] at d';injection d' with d1 _
 have:its=its':=by simpa using LD Array.toList d1
 subst this;rwa[r.inj U]
end
abbrev Cx.wish(X:Cx)(E:Value->Shared->Prop):Cx:={ X with xe:=E }
abbrev Cx.nox(X:Cx):Cx:=X.wish λ_ _=>False
theorem Cx.Ok.wish(ok:X.Ok)(E:Value->Shared->Prop):(X.wish E).Ok:=
 #[ok.mod,ok.kind,ok.glob,ok.blt,ok.above,ok.inj,ok.has,ok.cab,ok.hd,ok.frames,ok.stk,ok.exf,ok.bs,ok.bsz,ok.noex,ok.exfs,ok.funs,ok.frf]
theorem Cx.Ok.unwish(ok:(X.wish E).Ok):X.Ok:=
 #[ok.mod,ok.kind,ok.glob,ok.blt,ok.above,ok.inj,ok.has,ok.cab,ok.hd,ok.frames,ok.stk,ok.exf,ok.bs,ok.bsz,ok.noex,ok.exfs,ok.funs,ok.frf]
section
theorem Inv.wish(I:#[7,7])(E:Value->Shared->Prop):Inv (X.wish E) pins σ H s:=#[I.ok.wish E,I.os,I.bare,I.base,I.loc,I.cell,I.free,I.freeC,I.pin,I.hok,I.len]
theorem Inv.unwish(I:Inv (X.wish E) pins σ H s):#[7,7]:=#[I.ok.unwish,I.os,I.bare,I.base,I.loc,I.cell,I.free,I.freeC,I.pin,I.hok,I.len]
theorem SP.unwish{f:Flow}(h:SP (X.wish E) pins D f s'):SP X pins D f s':=by
 cases f with
 |next=>let#[21,σ',H',I,q]:=h;rwa[21,σ',H',I.unwish,q]
 |brk=>let#[21,σ',H',I,q]:=h;rwa[21,σ',H',I.unwish,q]
 |cont=>let#[21,σ',H',I,q]:=h;rwa[21,σ',H',I.unwish,q]
 |ret u=>let#[32,v,σ',H',I,r,q]:=h;rwa[32,v,σ',H',I.unwish,r,q]
theorem PSs.nox{st:List Stmt}{t:TS}(h:PSs X.nox st t):PSs X st t:=λpins s σ H D I hw=>
 Mf (h pins s σ H D (I.wish _) hw) (λ_ _ q=>q.unwish) λ_ _ z=>False.elim z
end
section
variable {st:Stmt}{rest:List Stmt}{t u:TS}
def FG:TS:=λD σ H=>D.nx σ H
def ip(t u:TS):TS:=λD σ H=>t { D with nx:=u D } σ H
theorem aB:PSs X [] FG:=λ_ _ σ H _ I h=>P2 #[21,σ,H,I,h]
theorem af(h1:PS X st t)(h2:PSs X rest u):PSs X (st::rest) (ip t u):=by
 intros D I h;erw[wpAny_execs_cons (thn (h1 pins s σ H { D with nx:=u D } I h) λf s1 q=>?_)]
 cases f with
 |next=>
  let#[21,σ',H',O,q]:=q;rwa[h2 pins s1 σ' H' D O q]
 |ret v=>rwa[q]
 |brk=>rwa[q]
 |cont=>rwa[q]
theorem ai(h1:PS X st t):PSs X [st] t:=by
 intros D I h;erw[wpAny_execs_cons (thn (h1 pins s σ H D I h) λf s1 q=>?_)]
 cases f with
 |next=>rwa[P2 q]
 |ret v=>rwa[q]
 |brk=>rwa[q]
 |cont=>rwa[q]
theorem Inv.quiet(I:#[7,7]):interactive X.env=false:=by simp[interactive,I.ok.kind]
def CM(te:TE):TS:=λD σ H=>te σ H λ_ H1=>D.nx σ H1
theorem cA(he:PE X e te)(hs:swapsWith e none pos.line X.env=pure false:=by rfl):PS X (.Expr e pos) (CM te):=by
 intros D I h;rwa[wpAny_Expr_any (thn (he pins s σ H _ I h) λv s1 ⟨x,H1,O,Z,U⟩=>#[21,σ,H1,O,U]) I.quiet hs]
def E8(te:TE):TS:=λD σ H=>te σ H D.rt
theorem ar(he:PE X e te):PS X (.Return (some e) pos) (E8 te):=by
 intros D I h;rwa[wpAny_Return_some (thn (he pins s σ H _ I h) λv s1 ⟨x,H1,O,Z,U⟩=>#[32,x,σ,H1,O,Z,U])]
def wT(c:TT)(t u:TS):TS:=λD σ H=>c σ H λb H1=>if b=true then t D σ H1 else u D σ H1
theorem aL{a b:List Stmt}(hc:PT X c tc)(ha:PSs X a t)(hb:PSs X b u):PS X (.If c a b pos) (wT tc t u):=by
 intros D I h;erw[wpAny_If (thn (hc pins s σ H _ I h) λd s1 ⟨H1,O,U⟩=>?_)]
 cases d with
 |true=>rwa[ha pins s1 σ H1 D O U]
 |false=>rwa[hb pins s1 σ H1 D O U]
def EL:TS:=λ_ _ _=>False
theorem Af:PS X st EL:=λ_ _ _ _ _ _ h=>h.elim
end
abbrev TG:=V->St->Hp->(St->Hp->Prop)->Prop
abbrev TGs:=List V->St->Hp->(St->Hp->Prop)->Prop
def PG(X:Cx)(target:Expr)(t:TG):Prop:=
 ∀(pins:List (Addr×Obj)) (s:Shared) (σ:St) (H:Hp) (v:V) (u:Value) (Q:St->Hp->Prop),#[7,7]->Gf v u->t v σ H Q->
  wpAny #[7] X.A (assign target X.env u) (λ_ s'=>∃σ' H',Inv X pins σ' H' s'/\Q σ' H') X.xe s
def PGs(X:Cx)(ts:List Expr)(t:TGs):Prop:=
 ∀(pins:List (Addr×Obj)) (s:Shared) (σ:St) (H:Hp) (vs:List V) (us:List Value) (Q:St->Hp->Prop),#[7,7]->Ge vs us->t vs σ H Q->
  wpAny #[7] X.A (assignInOrder ((assignEach ts X.env).map (·.2)) us) (λ_ s'=>∃σ' H',Inv X pins σ' H' s'/\Q σ' H') X.xe s
abbrev D8:=V->V->V->Hp->(Hp->Prop)->Prop
def FW(X:Cx)(t:D8):Prop:=
 ∀(pins:List (Addr×Obj)) (s:Shared) (σ:St) (H:Hp) (o i v:V) (ov iv u:Value) (Q:Hp->Prop),#[7,7]->Gf o ov->Gf i iv->Gf v u->t o i v H Q->
  wpAny #[7] X.A (setItem ov iv u) (λ_ s'=>∃H',Inv X pins σ H' s'/\Q H') X.xe s
section
def bP(i:Nat):TG:=λv σ H Q=>Q (σ.set i (some v)) H
theorem aM{i:Nat}(hN:X.N.Nodup)(hi:X.N[i]? = some x)(hx:Loc X.env.scope x)(hf:X.fn x=true\/X.env.scope.names.lookup x=some .local:=by first|rwa[.inl rfl]|rwa[.inr rfl]|assumption):PG X (.Name x pos) (bP i):=by
 intros v u Q I r h;rwa[wpAny_assign_Name (gH I hN hi hx r (λs' O=>#[21,_,H,O,h]) hf)]
def Bg:TGs:=λvs σ H Q=>vs=[]/\Q σ H
def iu(t:TG)(u:TGs):TGs:=λvs σ H Q=>∃v r,vs=v::r/\t v σ H λσ' H'=>u r σ' H' Q
theorem ii:PGs X [] Bg:=by
 intros vs us Q I r h;let#[e,h]:=h;subst e;cases r;rwa[assignInOrder_nil #[21,σ,H,I,h]]
theorem aS{t:TG}{u:TGs}(h1:PG X e t)(h2:PGs X es u)(hs:(assignEach (e::es) X.env).map (·.2)=assign e X.env::(assignEach es X.env).map (·.2):=by rfl):PGs X (e::es) (iu t u):=by
 intros vs us Q I r h;let#[21,v,vr,U,h]:=h;subst U;cases r with
 |cons r rr=>
  rw[hs];erw[assignInOrder_cons (thn (h1 pins s σ H _ _ _ I r h) λ_ s1 ⟨σ1,H1,O,Z⟩=>?_)]
  rwa[h2 pins s1 σ1 H1 _ _ Q O rr Z]
def zL(K:Frag)(n:Nat)(t:TGs):TG:=λv σ H Q=>∃a xs,v=.ref a/\SqT K H a xs/\xs.length=n/\t xs σ H Q
theorem km{k:Nat}{t:TGs}(hc:X.calm=true)(h:PGs X es t)(hn:(assignEach es X.env).length=n:=by rfl)(hst:(assignEach es X.env).findIdx? (·.1)=none:=by rfl):PG X (.Tuple es k pos) (zL X.K n t):=by
 intros v u Q I r hw;let#[23,a,xs,Z,hq,hl,hw]:=hw;subst Z;cases r;let#[12,its,O,ht,hz]:=I.tuple hq;erw[Bk (I.hn hc) ht (by simp[hn,<- hl,O.length]) hst λh' hx=>?_]
 have U:Inv X pins σ H { s with heap:=h' }:=I.kept (t':=s.toks) λb o e=>hx b o (F9 (Hl e)) e
 rwa[h pins _ σ H xs _ Q U (by simpa using O) hw]
def gSub(to ti:TE)(t:D8):TG:=λv σ H Q=>to σ H λo H1=>ti σ H1 λi H2=>t o i v H2 λH3=>Q σ H3
theorem sU{o i:Expr}{to ti:TE}{t:D8}(ho:PE X o to)(hi:PE X i ti)(hs:FW X t)(ha:∀v,assign (.Subscript o i pos) X.env v=(do
   let O <- holding [v] (eval o X.env)
   let U <- holding [v,O] (eval i X.env)
   standAt pos
   holding [v,O,U] (setItem O U v)
   release [v,O,U] []):=by intro _;rfl):PG X (.Subscript o i pos) (gSub to ti t):=by
 intros v u Q I r h;rw[ha];erw[c_ (Ls (thn (ho pins s σ H _ I h) λO s1 ⟨x,H1,I1,r1,q1⟩=>?_))]
 erw[c_ (Ls (thn (hi pins s1 σ H1 _ I1 q1) λU s2 ⟨y,H2,I2,r2,q2⟩=>?_))]
 erw[c_ (N_ (c_ (Ls (thn (hs pins s2 σ H2 x y v O U u _ I2 r1 r2 r q2) λ_ s3 ⟨Z,I3,q3⟩=>?_))))]
 rwa[wpAny_release #[21,σ,Z,I3,q3]]
def BH(te:TE)(g:TG):TS:=λD σ H=>te σ H λx H1=>g x σ H1 D.nx
theorem ux{g:TG}(he:PE X e te)(hg:PG X tg g)(hs:swapsWithSole [tg] e pos.line X.env=pure false:=by rfl)(hw:swappedStores [tg] e X.env=pure none:=by rfl)(h1:(assignEach [tg] X.env).map (·.2)=[assign tg X.env]:=by rfl):PS X (.Assign [tg] e pos) (BH te g):=by
 intros D I h;erw[wpAny_Assign_stores (thn (he pins s σ H _ I h) λv s1 ⟨x,H1,O,Z,U⟩=>?_) hs hw]
 rw[h1];rwa[thn (hg pins s1 σ H1 x v _ O Z U) λ_ s2 q=>q]
theorem am{i:Nat}(hN:X.N.Nodup)(hi:X.N[i]? = some x)(hx:Loc X.env.scope x)(he:PE X e te)(hs:swapsWith e (some (.Name x pos')) pos.line X.env=pure false:=by rfl)(hf:X.fn x=true\/X.env.scope.names.lookup x=some .local:=by first|rwa[.inl rfl]|rwa[.inr rfl]|assumption):
  PS X (.Assign [.Name x pos'] e pos) (BH te (bP i)):=by
 intros D I h;erw[wpAny_Assign_Name (thn (he pins s σ H _ I h) λv s1 ⟨y,H1,O,r1,Z⟩=>?_) hs]
 rwa[gH O hN hi hx r1 (λs2 U=>#[21,_,H1,U,Z]) hf]
def tPar(i j:Nat)(ta:TA):TS:=λD σ H=>ta σ H λvs H1=>∃v w,vs=[v,w]/\D.nx ((σ.set i (some v)).set j (some w)) H1
theorem El{i:Nat}{y:Str}{a b:Expr}{ta:TA}{px py pt:Pos}{kt k2 pt2}(hc:X.calm=true)(hN:X.N.Nodup)(hi:X.N[i]? = some x)(hj:X.N[j]? = some y)(hij:i≠j)(hx:X.env.scope.names.lookup x=some .local)(hy:X.env.scope.names.lookup y=some .local)(ha:PA X [a,b] ta)(hw:swappedStores [.Tuple [.Name x px,.Name y py] kt pt] (.Tuple [a,b] k2 pt2) X.env=pure (some [x,y]))(hs:swapsWithSole [.Tuple [.Name x px,.Name y py] kt pt] (.Tuple [a,b] k2 pt2) pos.line X.env=pure false:=by rfl):
  PS X (.Assign [.Tuple [.Name x px,.Name y py] kt pt] (.Tuple [a,b] k2 pt2) pos) (tPar i j ta):=by
 intros D I h;rw[exec_Assign_arm];erw[c_ (N_ ?_)];rw[hs];erw[c_ (f_ ?_)];rw[w_ #[]]
 erw[c_ (Tuple_ (thn (ha _ pins s σ H _ I h) λus s1 ⟨vs,H1,I1,r1,q1⟩=>?_))]
 let#[21,v,w,e1,q1]:=q1;subst e1;obtain⟨O,U,rfl,rv,a1⟩:∃O U,us=[O,U]/\Gf v O/\Gf w U:=by
  cases r1 with
  |cons p q=>
   cases q with
   |cons p' q'=>
    cases q';rwa[22,_,0,p,p']
 erw[HI ?_ (by show 2<=sizeLine;decide)]
 have I2:Inv X pins σ H1 { s1 with heap:=s1.heap.push { cls:=.type "tuple",data:=.seq [O,U].toArray } }:=I1.kept (t':=s1.toks) λb o e=>g_ _ e
 rw[hw];erw[c_ (f_ ?_)];show wpAny #[7] X.A (do rule "assign.swapped-stores";let items <- unpackItems (.ref s1.heap.objs.size) 2 none;assignInOrder [λv=>bindName X.env y v,λv=>bindName X.env x v] items.reverse;pure Flow.next) _ _ _
 erw[c_ (N8 (c_ (jD (items:=#[8,O,U]) (I2.hn hc) (IsTup.new s1.heap _) λh' Z=>?_)))]
 have I3:=I2.kept (h':=h') (t':=s1.toks) λb o e=>Z b o (F9 (Hl e)) e
 show wpAny _ _ (assignInOrder [λv=>bindName X.env y v,λv=>bindName X.env x v] [U,O] >>= λ_=>pure Flow.next) _ _ _
 erw[c_ (assignInOrder_cons (wpAny_bindName (gH I3 hN hj (.inl hy) a1 (λs2 I4=>?_) (.inr hy))))]
 erw[assignInOrder_cons (wpAny_bindName (gH I4 hN hi (.inl hx) rv (λs3 I5=>assignInOrder_nil (f_ ?_)) (.inr hx)))]
 rw[List.set_comm _ _ (Ne.symm hij)] at I5;rwa[21,_,H1,I5,q1]
end
section
def Aw(c:TT)(tb:TS):TS:=λD σ H=>∃W:Nat->St->Hp->Prop,(∃m,W m σ H)/\∀m σ H,W m σ H->
 c σ H λb H1=>if b=true then ∃N:St->Hp->Prop,(∀σ' H',N σ' H'->∃m',m'<m/\W m' σ' H')/\tb { D with nx:=N,ct:=N,bk:=D.nx } σ H1 else D.nx σ H1
theorem gK(hp:PassesOwn #[7] X.A X.env X.xe)(hc:PT X c tc)(hb:PSs X body tb):PS X (.While c body [] pos) (Aw tc tb):=by
 intros D I h;let#[W,#[m0,w0],turn]:=h;erw[wpAny_While (codeAny_whileLoop (λn s'=>∃σ' H',Inv X pins σ' H' s'/\W n σ' H') ?_ m0 #[21,σ,H,I,w0])]
 rintro n s1 ⟨σ1,H1,I1,w1⟩;erw[O0 hp (thn (hc pins s1 σ1 H1 _ I1 (turn n σ1 H1 w1)) λb s2 ⟨H2,I2,U⟩=>?_)]
 cases b with
 |true=>
  let#[N,hN,U]:=U;rw[C_ rfl];erw[O0 hp (thn (hb pins s2 σ1 H2 _ I2 U) λf s3 Z=>?_)]
  cases f with
  |next=>
   let#[21,σ3,O,I3,n3]:=Z;let#[m',hm,w3]:=hN σ3 O n3;rwa[61,m',hm,σ3,O,I3,w3]
  |cont=>
   let#[21,σ3,O,I3,n3]:=Z;let#[m',hm,w3]:=hN σ3 O n3;rwa[61,m',hm,σ3,O,I3,w3]
  |brk=>rwa[Z]
  |ret v=>rwa[Z]
 |false=>
  rw[w_ G_];rwa[P2 #[21,σ1,H2,I2,U]]
end
structure It where
 go:Nat->Hp->Prop
 yld:Nat->Hp->V->Hp->Prop
 stop:Nat->Hp->Prop
def gE(X:Cx)(pins:List (Addr×Obj))(H:Hp)(b:Addr):Prop:=
 H b=none/\b≠X.env.locals/\b∉X.fs/\(b∈X.ex\/X.s₀.heap.objs.size<=b)/\(∀x c,X.env.cells.lookup x=some c->c≠b)/\∀p∈X.pn++pins,p.1≠b
theorem Inv.fpOk{b:Addr}(I:#[7,7])(hb:s.heap.objs.size<=b)(hn:H' b=none):gE X pins H' b:=by
 erw[hn,O7 (Hh I.lt hb),I.nofs hb,.inr (Hb I.sz hb),λx c e z=>?_,λp O z=>?_]
 ·let#[v,q]:=I.cell x c e;rwa[absurd (Hh q.lt (by rw[z];rwa[hb])) (ME _)]
 ·rwa[absurd (Hh (Hl (I.pin p O).1) (by rw[z];rwa[hb])) (ME _)]
structure my (P:Program) (w:World) (K:Frag) (L:Life) (tg:Expr) (J:It) (fp:List Addr) (it:Addr) (tn:Nat->Heap->Prop):Prop where
 mem:it∈fp
 obj:∀i h,tn i h->∀b∈fp,∃o,h.get? b=some o/\∀v,o.data≠.cell v
 keep:∀i h h',tn i h->(∀b∈fp,∀o,h.get? b=some o->h'.get? b=some o)->tn i h'
 item:∀(X:Cx),X.prog=P->X.w=w->X.K=K->X.base.life=L->X.calm=true->∀(i:Nat) (pins:List (Addr×Obj)) (s:Shared) (σ:St) (H:Hp) (E:Value->Shared->Prop),#[7,7]->(∀b∈fp,gE X pins H b)->tn i s.heap->J.go i H->
  wpAny (model P w) X.A (pyNext (.ref it)) (λr s1=>∃u,r=some u/\
   wpAny (model P w) X.A (letOwnedTupleGo tg (.ref it) u) (λ_ s2=>∃x H',Inv X pins σ H' s2/\Gf x u/\J.yld i H x H'/\tn (i+1) s2.heap/\∀b∈fp,H' b=none) E s1) E s
 done:∀(X:Cx),X.prog=P->X.w=w->X.K=K->X.base.life=L->X.calm=true->∀(i:Nat) (pins:List (Addr×Obj)) (s:Shared) (σ:St) (H:Hp) (E:Value->Shared->Prop),#[7,7]->(∀b∈fp,gE X pins H b)->tn i s.heap->J.stop i H->
  wpAny (model P w) X.A (pyNext (.ref it)) (λr s1=>r=none/\Inv X pins σ H s1) E s
 self:∀(A:Around) (i:Nat) (s:Shared) (Q:Value->Shared->Prop) (E:Value->Shared->Prop),tn i s.heap->Q (.ref it) s->wpAny (model P w) A (pyIter (.ref it)) Q E s
abbrev TI:=St->Hp->(It->Hp->Prop)->Prop
def PIE(X:Cx)(pins:List (Addr×Obj))(σ:St)(tg:Expr)(R:It->Hp->Prop)(itv:Value)(s2:Shared):Prop:=
 ∃(it:Addr) (fp:List Addr) (tn:Nat->Heap->Prop) (J:It) (H':Hp),itv=.ref it/\Inv X pins σ H' s2/\my X.prog X.w X.K X.base.life tg J fp it tn/\tn 0 s2.heap/\(∀b∈fp,gE X pins H' b)/\R J H'
def PI(X:Cx)(tg iter:Expr)(wi:TI):Prop:=
 ∀(pins:List (Addr×Obj)) (s:Shared) (σ:St) (H:Hp) (R:It->Hp->Prop),#[7,7]->wi σ H R->
  wpAny #[7] X.A (eval iter X.env) (λv s1=>wpAny #[7] X.A (pyIter v) (PIE X pins σ tg R) X.xe s1) X.xe s
theorem oi{A:Around}{o:Obj}{n:String}(ho:s.heap.get? it=some o)(hc:o.cls=.type n)(hd:o.data=.fields vs)(hn:["enumerate", "zip", "dict_itemiterator", "dict_reverseitemiterator", "odict_iterator", "itertools.zip_longest", "itertools.pairwise"].contains n=false)(hQ:Q ⟨⟩ s):wpAny M A (letOwnedTupleGo tg (.ref it) u) Q E s:=by
 unfold letOwnedTupleGo;cases tg<;>first
  |rwa[f_ hQ]
  |(cases u<;>first
    |rwa[f_ hQ]
    |(erw[c_ (wpAny_load ho ?_)]
      rw[hc,hd];show wpAny M A (if (["enumerate", "zip", "dict_itemiterator", "dict_reverseitemiterator", "odict_iterator", "itertools.zip_longest", "itertools.pairwise"].contains n&&vs[0]? == some (rawInt _))=true then _ else _) Q E s
      rw[w_ (by intro h;rw[hn,NL] at h;cases h)]
      rwa[f_ hQ]))
def Itl(K:Frag)(a:Addr):It:=
 #[λi H=>∃xs x,SqL K H a xs/\xs[i]? = some x,λi H x H'=>H'=H/\∀xs,SqL K H a xs->xs[i]? = some x,λi H=>∃xs,SqL K H a xs/\xs.length<=i]
def Itt(K:Frag)(a:Addr):It:=
 #[λi H=>∃xs x,SqT K H a xs/\xs[i]? = some x,λi H x H'=>H'=H/\∀xs,SqT K H a xs->xs[i]? = some x,λi H=>∃xs,SqT K H a xs/\xs.length<=i]
def Itr(lo:Int)(n:Nat):It:=#[λi _=>i<n,λi H x H'=>H'=H/\x=.int (lo+i),λi _=>n<=i]
theorem xF{w:World}{K:Frag}{L:Life}(a it:Addr):my P w K L tg (Itl K a) [it] it (λi h=>h.IsListIter it a i) where
 mem:=by simp
 obj:=λi h st b O=>by
  have e:b=it:=by simpa using O
  subst e;let#[12,o,e,c,d]:=st;rwa[o,e,λv z=>by rw[d] at z;cases z]
 keep:=λi h h' st k=>st.at λo e=>k it (by simp) o e
 item:=by
  intro X hP hw hK hL hc i pins s σ H E I hf st hg;subst hP hw hK;let#[21,xs,x,hq,hx]:=hg;let#[12,its,rv,p,hz]:=I.list hq;let#[u,hu,ru]:=rv.get hx;let#[05,f0,f1,f2,Z,f4,f5]:=hf it (by simp)
  erw[Ou st p.isList (x:=u) (by simpa using hu) λh' U sb=>?_]
  have I1:Inv X pins σ H { s with heap:=h' }:=I.turned (t':=s.toks) (λb o O e=>(sb.2 b O).trans e) f0 f1 Z f4 f5
  let#[12,o,e,c,d]:=id U;rwa[u,1,oi (s:={ s with heap:=h' }) e c d #[] #[24,x,H,I1,ru,#[1,λys hy=>by rw[I.list_inj hy hq];rwa[hx]],U,λb O=>(hf b O).1]]
 done:=by
  intro X hP hw hK hL hc i pins s σ H E I hf st hg;subst hP hw hK;let#[xs,hq,hx]:=hg;let#[12,its,rv,p,hz]:=I.list hq;let#[05,f0,f1,f2,Z,f4,f5]:=hf it (by simp)
  have hl:=rv.length;rwa[o7 (I.hn hc) (I.hni hc Z) st p.isList (by simp;lia) λh' eb=>#[1,I.turned (t':=s.toks) (λb o O e=>eb b o O e) f0 f1 Z f4 f5]]
 self:=λ_ _ _ _ _ st h=>wpAny_pyIter_listiter st h
theorem tq{w:World}{K:Frag}{L:Life}(a it:Addr):my P w K L tg (Itt K a) [it] it (λi h=>h.IsTupleIter it a i) where
 mem:=by simp
 obj:=λi h st b O=>by
  have e:b=it:=by simpa using O
  subst e;let#[12,o,e,c,d]:=st;rwa[o,e,λv z=>by rw[d] at z;cases z]
 keep:=λi h h' st k=>st.at λo e=>k it (by simp) o e
 item:=by
  intro X hP hw hK hL hc i pins s σ H E I hf st hg;subst hP hw hK;let#[21,xs,x,hq,hx]:=hg;let#[12,its,rv,p,hz]:=I.tuple hq;let#[u,hu,ru]:=rv.get hx;let#[05,f0,f1,f2,Z,f4,f5]:=hf it (by simp)
  erw[wpAny_pyNext_tuple_item st (show s.heap.IsTuple a its.toArray from p) (x:=u) (by simpa using hu) λh' U sb=>?_]
  have I1:Inv X pins σ H { s with heap:=h' }:=I.turned (t':=s.toks) (λb o O e=>(sb.2 b O).trans e) f0 f1 Z f4 f5
  let#[12,o,e,c,d]:=id U;rwa[u,1,oi (s:={ s with heap:=h' }) e c d #[] #[24,x,H,I1,ru,#[1,λys hy=>by rw[I.tuple_inj hy hq];rwa[hx]],U,λb O=>(hf b O).1]]
 done:=by
  intro X hP hw hK hL hc i pins s σ H E I hf st hg;subst hP hw hK;let#[xs,hq,hx]:=hg;let#[12,its,rv,p,hz]:=I.tuple hq;let#[05,f0,f1,f2,Z,f4,f5]:=hf it (by simp)
  have hl:=rv.length;rwa[kL (I.hn hc) (I.hni hc Z) st (show s.heap.IsTuple a its.toArray from p) (by simp;lia) λh' eb=>#[1,I.turned (t':=s.toks) (λb o O e=>eb b o O e) f0 f1 Z f4 f5]]
 self:=λ_ _ _ _ _ st h=>wpAny_pyIter_tupleiter st h
theorem sT{w:World}{K:Frag}{L:Life}(it:Addr)(lo:Int)(n:Nat)(hL0:L={}):my P w K L tg (Itr lo n) [it] it (λi h=>IsRangeIter h it (lo+(i:Nat)*1) ((n:Int)-(i:Nat)) 1) where
 mem:=by simp
 obj:=λi h st b O=>by
  have e:b=it:=by simpa using O
  subst e;rwa[_,st,λv z=>by
   have z':Data.fields _=Data.cell v:=z;cases z']
 keep:=λi h h' st k=>k it (by simp) _ st
 item:=by
  intro X hP hw hK hL hc i pins s σ H E I Z st hg;subst hP hw hK;let#[05,f0,f1,f2,f3,f4,f5]:=Z it (by simp)
  have W:=Walks.range (prog:=X.prog) (w:=X.w) (I.hd0 #[hc,hL.trans hL0]) it lo 1 n;erw[W.item i s _ _ hg st λv h' tk hv U kk=>?_]
  let#[t,1]:=hv;have I1:Inv X pins σ H { s with heap:=h',toks:=tk }:=I.turned (λb o O e=>kk b o (by simpa using O) e) f0 f1 f3 f4 f5
  erw[0,oi (s:={ s with heap:=h',toks:=tk }) (n := "range_iterator") U rfl rfl #[] #[24,.int (lo+i),H,I1,#[t,?_],#[1,1],U,λb O=>(Z b O).1]]
  rw[O9]
 done:=by
  intro X hP hw hK hL hc i pins s σ H E I Z st hg;subst hP hw hK;let#[05,f0,f1,f2,f3,f4,f5]:=Z it (by simp)
  rwa[wpAny_pyNext_range_end (I.hd0 #[hc,hL.trans hL0]) st (by have:n<=i:=hg;lia) λh' eb=>#[1,I.turned (t':=s.toks) (λb o O e=>eb b o O e) f0 f1 f3 f4 f5]]
 self:=λ_ _ _ _ _ st h=>wpAny_pyIter_rangeiter st h
section
def CW(K:Frag)(tl:TE):TI:=λσ H R=>tl σ H λx H1=>∃a,x=.ref a/\(∃xs,SqL K H1 a xs)/\R (Itl K a) H1
def FZ(K:Frag)(tl:TE):TI:=λσ H R=>tl σ H λx H1=>∃a,x=.ref a/\(∃xs,SqT K H1 a xs)/\R (Itt K a) H1
theorem Bw{l:Expr}(hl:PE X l tl):PI X tg l (CW X.K tl):=by
 intros R I h;erw[thn (hl pins s σ H _ I h) λv s1 ⟨x,H1,O,r1,q1⟩=>?_]
 let#[12,a,e,#[xs,Z],q]:=q1;subst e;cases r1;let#[12,its,rv,p,hz]:=O.list Z;erw[Nl p.isList ?_];erw[4015,s1.heap.objs.size,[s1.heap.objs.size],_,_,H1,1,O.kept (t':=s1.toks) λb o e=>g_ _ e,xF a _,#[_,A_ _ rfl,1,1],λb U=>?_,q]
 have e:b=s1.heap.objs.size:=by simpa using U
 subst e;rwa[O.fpOk (e_ _) (O.hok.fresh (e_ _))]
theorem DZ{l:Expr}(hl:PE X l tl):PI X tg l (FZ X.K tl):=by
 intros R I h;erw[thn (hl pins s σ H _ I h) λv s1 ⟨x,H1,O,r1,q1⟩=>?_]
 let#[12,a,e,#[xs,Z],q]:=q1;subst e;cases r1;let#[12,its,rv,p,hz]:=O.tuple Z;erw[OR (show s1.heap.IsTuple a its.toArray from p) ?_]
 erw[4015,s1.heap.objs.size,[s1.heap.objs.size],_,_,H1,1,O.kept (t':=s1.toks) λb o e=>g_ _ e,tq a _,#[_,A_ _ rfl,1,1],λb U=>?_,q]
 have e:b=s1.heap.objs.size:=by simpa using U
 subst e;rwa[O.fpOk (e_ _) (O.hok.fresh (e_ _))]
theorem rh{R:It->Hp->Prop}{hi:Int}{t u v:Tok}{tk:Nat}(hq:X.base.life={})(I:#[7,7])(h1:-(2^62)<=lo)(h2:lo<2^62)(h3:-(2^62)<=hi)(h4:hi<2^62)(q:R (Itr lo (hi-lo).toNat) H):wpAny #[7] X.A (pyIter (.ref s.heap.objs.size)) (PIE X pins σ tg R) E { s with heap:=s.heap.push { cls:=.type "range",data:=.fields #[8,.int lo t,.int hi u,.int 1 v] },toks:=tk }:=by
 erw[wpAny_pyIter_range (IsRange.new ..) (small_one h1 h2 h3 h4) ?_];have O:Inv X pins σ H { s with heap:=s.heap.push { cls:=.type "range",data:=.fields #[8,.int lo t,.int hi u,.int 1 v] },toks:=tk }:=I.kept λb o e=>g_ _ e
 erw[4015,(s.heap.push { cls:=.type "range",data:=.fields #[8,.int lo t,.int hi u,.int 1 v] }).objs.size,[(s.heap.push { cls:=.type "range",data:=.fields #[8,.int lo t,.int hi u,.int 1 v] }).objs.size],_,_,H,1,
  O.kept (t':=tk) λb o e=>g_ _ e,sT _ lo (hi-lo).toNat hq,?_,λb Z=>?_,q]
 ·have U:lo+((0:Nat):Int)*1=lo:=by simp
  have e2:(((hi-lo).toNat:Nat):Int)-((0:Nat):Int)=Builtin.Range.rangeSize lo hi 1:=by rw[rangeSize_one];split<;>lia
  show IsRangeIter _ _ (lo+((0:Nat):Int)*1) ((((hi-lo).toNat:Nat):Int)-((0:Nat):Int)) 1;rw[U,e2];rwa[A_ _ rfl]
 ·have e:b=(s.heap.push { cls:=.type "range",data:=.fields #[8,.int lo t,.int hi u,.int 1 v] }).objs.size:=by simpa using Z
  subst e;rwa[O.fpOk (e_ _) (O.hok.fresh (e_ _))]
def FV(ta:TA):TI:=λσ H R=>ta σ H λvs H1=>∃j:Int,vs=[.int j]/\-(2^62)<=j/\j<2^62/\R (Itr 0 j.toNat) H1
def ER(ta:TA):TI:=λσ H R=>ta σ H λvs H1=>∃i j:Int,vs=[.int i,.int j]/\(-(2^62)<=i/\i<2^62/\-(2^62)<=j/\j<2^62)/\R (Itr i (j-i).toNat) H1
theorem bU{a:Expr}{ta:TA}(hg:Gl X "range")(hm:X.mg "range" = none)(ha:PA X [a] ta)(hs:starEach [a] X.env=[(false,eval a X.env)]:=by rfl)(hq:X.base.life={}:=by first|assumption|exact(‹Quiet _›).q):PI X tg (.Call (.Name "range" p) [a] [] pos) (FV ta):=by
 intros R I h;erw[Call_ (eB I hg hm boot_range (Mt (thn (ha pos pins s σ H _ I h) λus s1 ⟨vs,H1,U,r1,O⟩=>?_) hs rfl))]
 let#[13,j,e,O,Z,q]:=O;subst e;cases r1 with
 |cons r rr=>
  cases rr;let#[t,1]:=r;rwa[call_range_1 (rh hq U () () O Z (by simpa using q))]
theorem wu{a b:Expr}{ta:TA}(hg:Gl X "range")(hm:X.mg "range" = none)(ha:PA X [a,b] ta)(hs:starEach [a,b] X.env=[(false,eval a X.env),(false,eval b X.env)]:=by rfl)(hs2:starEach [b] X.env=[(false,eval b X.env)]:=by rfl)(hq:X.base.life={}:=by first|assumption|exact(‹Quiet _›).q):
  PI X tg (.Call (.Name "range" p) [a,b] [] pos) (ER ta):=by
 intros R I h;erw[Call_ (eB I hg hm boot_range (Mt (thn (ha pos pins s σ H _ I h) λus s1 ⟨vs,H1,U,r1,O⟩=>?_) (by rw[hs,hs2]) (by rw[hs2];rfl)))]
 let#[22,i,j,e,#[O,Z,q3,q4],q]:=O;subst e;cases r1 with
 |cons r rr=>
  cases rr with
  |cons r' rr=>
   cases rr;let#[t,1]:=r;let#[t',1]:=r';rwa[call_range_2 (rh hq U O Z q3 q4 q)]
def tFor(wi:TI)(g:TG)(tb:TS):TS:=λD σ H=>wi σ H λJ H1=>∃W:Nat->Nat->St->Hp->Prop,(∃m,W 0 m σ H1)/\∀i m σ H,W i m σ H->
 (J.stop i H/\D.nx σ H)\/(J.go i H/\∃N:St->Hp->Prop,(∀σ' H',N σ' H'->∃m',m'<m/\W (i+1) m' σ' H')/\∀x H',J.yld i H x H'->g x σ H' λσ2 H2=>tb { D with nx:=N,ct:=N,bk:=D.nx } σ2 H2)
def mS(fp:List Addr)(h:Heap):List (Addr×Obj):=fp.filterMap λb=>(h.get? b).map λo=>(b,o)
theorem fM{b:Addr}{o:Obj}(hb:b∈fp)(e:h.get? b=some o):(b,o)∈mS fp h:=PR.mpr #[b,hb,by rw[e];rfl]
theorem wD{p:Addr×Obj}(hp:p∈mS fp h):p.1∈fp/\h.get? p.1=some p.2:=by
 let#[b,U,e]:=PR.mp hp;cases q:h.get? b with
 |none=>rw[q] at e;cases e
 |some o=>
  rw[q] at e;have O:(b,o)=p:=Mc e;subst O;rwa[U,q]
theorem Inv.pinned(I:#[7,7])(hf:∀b∈fp,gE X pins H b)(ho:∀b∈fp,∃o,s.heap.get? b=some o/\∀v,o.data≠.cell v):Inv X (pins++mS fp s.heap) σ H s:=
 I.pins_of λp hp=>(Ht.mp hp).elim (λz=>I.pin p (Nf _ z)) λz=>by
  let#[U,e]:=wD z;let#[03,Z,f1,f2,_]:=hf p.1 U;let#[o,O,d]:=ho p.1 U;rw[e] at O;cases O;rwa[e,Z,f1,f2,d]
theorem Inv.unpinned{pl:List (Addr×Obj)}(I:Inv X (pins++pl) σ H s):#[7,7]:=I.pins_of λp O=>I.pin p (Nf _ (List.mem_append_left _ O))
theorem be{iter:Expr}{wi:TI}{g:TG}(hp:PassesOwn #[7] X.A X.env X.xe)(hc:X.calm=true)(hi:PI X tg iter wi)(hg:PG X tg g)(hb:PSs X body tb)(hs:∀x,foldedSetIterable iter X.env x=pure x:=by intro _;rfl):PS X (.For tg iter body [] pos) (tFor wi g tb):=by
 intros D I h;erw[wpAny_For (thn (hi pins s σ H _ I h) λv s1 h1=>thn h1 λa8 s2 h2=>?_) hs]
 let#[401511,it,fp,tn,J,H2,e,I2,T,a7,f2,W,#[m0,w0],turn]:=h2;subst e;have a1:∀{H':Hp},(∀b∈fp,H' b=none)->∀b∈fp,gE X pins H' b:=λhn b hb=>#[hn b hb,(f2 b hb).2]
 erw[codeAny_forLoop_any (λn s'=>∃i σ' H',Inv X pins σ' H' s'/\tn i s'.heap/\(∀b∈fp,H' b=none)/\W i n σ' H') ?_ m0 #[33,(0),σ,H2,I2,a7,λb hb=>(f2 b hb).1,w0]]
 rintro n s3 ⟨i,σ3,H3,I3,a4,a3,w3⟩
 rcases turn i n σ3 H3 w3 with⟨stop,qn⟩|⟨go,N,hN,step⟩
 ·erw[O0 hp (thn (T.done X rfl rfl rfl rfl hc i pins s3 σ3 H3 X.xe I3 (a1 a3) a4 stop) λr s4 ⟨hr,I4⟩=>?_)]
  subst hr;rwa[P2 #[21,σ3,H3,I4,qn]]
 ·erw[O0 hp (thn (T.item X rfl rfl rfl rfl hc i pins s3 σ3 H3 X.xe I3 (a1 a3) a4 go) λr s4 ⟨u,hr,h4⟩=>?_)]
  subst hr;erw[O0 hp (thn h4 λ_ s5 ⟨x,H5,I5,r5,y5,a2,a6⟩=>?_)]
  have a5:=I5.pinned (a1 a6) (T.obj _ _ a2);erw[O0 hp (thn (hg _ s5 σ3 H5 x u _ a5 r5 (step x H5 y5)) λ_ s6 ⟨σ6,H6,I6,q6⟩=>?_)]
  erw[O0 hp (thn (hb _ s6 σ6 H6 _ I6 q6) λf s7 q7=>?_)]
  have Z:∀{σ7:St} {O:Hp},Inv X (pins++mS fp s5.heap) σ7 O s7->N σ7 O->∃m,m<n/\∃i σ' H',Inv X pins σ' H' s7/\tn i s7.heap/\(∀b∈fp,H' b=none)/\W i m σ' H':=λ{σ7 O} U n7=>by
   let#[m',hm,w7]:=hN σ7 O n7;erw[73,m',hm,i+1,σ7,O,U.unpinned,T.keep _ _ _ a2 λb hb o e=>(U.pin (b,o) (Nf _ (Nf _ (fM hb e)))).1,λb hb=>?_,w7]
   let#[o,e,d]:=T.obj _ _ a2 b hb;exact(U.pin (b,o) (Nf _ (Nf _ (fM hb e)))).2.1
  cases f with
  |next=>let#[21,σ7,O,U,n7]:=q7;rwa[Z U n7]
  |cont=>let#[21,σ7,O,U,n7]:=q7;rwa[Z U n7]
  |brk=>let#[21,σ7,O,U,q7]:=q7;rwa[21,σ7,O,U.unpinned,q7]
  |ret v=>let#[32,x7,σ7,O,U,r7,q7]:=q7;rwa[32,x7,σ7,O,U.unpinned,r7,q7]
end
theorem rF{K:Frag}{g:TG}(Pv:Nat->St->Hp->Prop)(h0:Pv 0 σ H)(hl:∀i σ H,i<=xs.length->Pv i σ H->SqL K H a xs)(hs:∀i x σ H,xs[i]? = some x->Pv i σ H->g x σ H λσ2 H2=>tb { D with nx:=Pv (i+1),ct:=Pv (i+1),bk:=D.nx } σ2 H2)(hd:∀σ H,Pv xs.length σ H->D.nx σ H):
  ∃W:Nat->Nat->St->Hp->Prop,(∃m,W 0 m σ H)/\∀i m σ H,W i m σ H->
   ((Itl K a).stop i H/\D.nx σ H)\/((Itl K a).go i H/\∃N:St->Hp->Prop,(∀σ' H',N σ' H'->∃U,U<m/\W (i+1) U σ' H')/\∀x H',(Itl K a).yld i H x H'->g x σ H' λσ2 H2=>tb { D with nx:=N,ct:=N,bk:=D.nx } σ2 H2):=by
 erw[λi m σ H=>m=xs.length-i/\i<=xs.length/\Pv i σ H,#[xs.length,by simp,Hj _,h0],?_]
 rintro i m σ H ⟨rfl,hi,p⟩;have q:=hl i σ H hi p
 by_cases O:i<xs.length
 ·erw[.inr #[#[21,xs,xs[i],q,by simp[O]],Pv (i+1),λσ' H' Z=>#[xs.length-(i+1),(),1,O,Z],λx H' y=>?_]]
  let#[e,y]:=y;subst e;rwa[hs i x σ _ (y xs q) p]
 ·have e:i=xs.length:=()
  subst e;rwa[.inl #[#[xs,q,e_ _],hd σ H p]]
theorem Ch{K:Frag}{g:TG}(Pv:Nat->St->Hp->Prop)(h0:Pv 0 σ H)(hl:∀i σ H,i<=xs.length->Pv i σ H->SqT K H a xs)(hs:∀i x σ H,xs[i]? = some x->Pv i σ H->g x σ H λσ2 H2=>tb { D with nx:=Pv (i+1),ct:=Pv (i+1),bk:=D.nx } σ2 H2)(hd:∀σ H,Pv xs.length σ H->D.nx σ H):
  ∃W:Nat->Nat->St->Hp->Prop,(∃m,W 0 m σ H)/\∀i m σ H,W i m σ H->
   ((Itt K a).stop i H/\D.nx σ H)\/((Itt K a).go i H/\∃N:St->Hp->Prop,(∀σ' H',N σ' H'->∃U,U<m/\W (i+1) U σ' H')/\∀x H',(Itt K a).yld i H x H'->g x σ H' λσ2 H2=>tb { D with nx:=N,ct:=N,bk:=D.nx } σ2 H2):=by
 erw[λi m σ H=>m=xs.length-i/\i<=xs.length/\Pv i σ H,#[xs.length,by simp,Hj _,h0],?_]
 rintro i m σ H ⟨rfl,hi,p⟩;have q:=hl i σ H hi p
 by_cases O:i<xs.length
 ·erw[.inr #[#[21,xs,xs[i],q,by simp[O]],Pv (i+1),λσ' H' Z=>#[xs.length-(i+1),(),1,O,Z],λx H' y=>?_]]
  let#[e,y]:=y;subst e;rwa[hs i x σ _ (y xs q) p]
 ·have e:i=xs.length:=()
  subst e;rwa[.inl #[#[xs,q,e_ _],hd σ H p]]
theorem kg{g:TG}(Pv:Nat->St->Hp->Prop)(h0:Pv 0 σ H)(hs:∀i σ H,i<n->Pv i σ H->g (.int (lo+i)) σ H λσ2 H2=>tb { D with nx:=Pv (i+1),ct:=Pv (i+1),bk:=D.nx } σ2 H2)(hd:∀σ H,Pv n σ H->D.nx σ H):
  ∃W:Nat->Nat->St->Hp->Prop,(∃m,W 0 m σ H)/\∀i m σ H,W i m σ H->
   ((Itr lo n).stop i H/\D.nx σ H)\/((Itr lo n).go i H/\∃N:St->Hp->Prop,(∀σ' H',N σ' H'->∃U,U<m/\W (i+1) U σ' H')/\∀x H',(Itr lo n).yld i H x H'->g x σ H' λσ2 H2=>tb { D with nx:=N,ct:=N,bk:=D.nx } σ2 H2):=by
 erw[λi m σ H=>m=n-i/\i<=n/\Pv i σ H,#[n,by simp,Hj _,h0],?_]
 rintro i m σ H ⟨rfl,hi,p⟩
 by_cases O:i<n
 ·erw[.inr #[O,Pv (i+1),λσ' H' Z=>#[n-(i+1),(),1,O,Z],λx H' y=>?_]]
  let#[e,y]:=y;subst e y;rwa[hs i σ _ O p]
 ·have e:i=n:=()
  subst e;rwa[.inl #[e_ _,hd σ H p]]
theorem gz{c:TT}(Pv:St->Hp->Prop)(μ:St->Hp->Nat)(h0:Pv σ H)(hs:∀σ H,Pv σ H->c σ H λb H1=>if b=true then tb { D with nx:=λσ' H'=>Pv σ' H'/\μ σ' H'<μ σ H,ct:=λσ' H'=>Pv σ' H'/\μ σ' H'<μ σ H,bk:=D.nx } σ H1 else D.nx σ H1)(mono:∀σ H Q Q',(∀b H1,Q b H1->Q' b H1)->c σ H Q->c σ H Q'):Aw c tb D σ H:=by
 erw[λm σ H=>m=μ σ H/\Pv σ H,#[0,h0],?_]
 rintro m σ H ⟨rfl,p⟩;erw[mono σ H _ _ (λb H1 q=>?_) (hs σ H p)]
 cases b with
 |true=>rwa[_,λσ' H' ⟨O,l⟩=>#[_,l,1,O],q]
 |false=>rwa[q]
abbrev R2:=V->V->Hp->VK->Prop
def OpR(X:Cx)(f:Value->Value->Sem Value)(r:R2):Prop:=
 ∀(pins:List (Addr×Obj)) (s:Shared) (σ:St) (H:Hp) (x y:V) (v u:Value) (Q:VK),#[7,7]->Gf x v->Gf y u->r x y H Q->
  wpAny #[7] X.A (f v u) (EP X pins σ Q) X.xe s
def UnR(X:Cx)(f:Value->Sem Value)(r:V->Hp->VK->Prop):Prop:=
 ∀(pins:List (Addr×Obj)) (s:Shared) (σ:St) (H:Hp) (x:V) (v:Value) (Q:VK),#[7,7]->Gf x v->r x H Q->
  wpAny #[7] X.A (f v) (EP X pins σ Q) X.xe s
def cU(X:Cx)(f:Value)(r:List V->Hp->VK->Prop):Prop:=
 ∀(pins:List (Addr×Obj)) (s:Shared) (σ:St) (H:Hp) (xs:List V) (us:List Value) (Q:VK),#[7,7]->Ge xs us->r xs H Q->
  wpAny #[7] X.A (call f us) (EP X pins σ Q) X.xe s
def tOp(r:R2)(ta tb:TE):TE:=λσ H Q=>ta σ H λx H1=>tb σ H1 λy H2=>r x y H2 Q
def tUn(r:V->Hp->VK->Prop)(ta:TE):TE:=λσ H Q=>ta σ H λx H1=>r x H1 Q
def rI(C:Int->Int->Prop)(g:Int->Int->V):R2:=λx y H Q=>∃i j,x=.int i/\y=.int j/\C i j/\Q (g i j) H
def rI0(g:Int->Int->V):R2:=λx y H Q=>∃i j,x=.int i/\y=.int j/\Q (g i j) H
def rU(g:Int->V):V->Hp->VK->Prop:=λx H Q=>∃i,x=.int i/\Q (g i) H
section
variable {a b:Expr}{tb tc:TE}
theorem En(ha:PE X a ta)(hb:PE X b tb){R:V->V->Hp->Prop}(I:#[7,7])(h:ta σ H λx H1=>tb σ H1 λy H2=>R x y H2){Q:Value->Shared->Prop}(hf:∀v u s2 x y H2,Inv X pins σ H2 s2->Gf x v->Gf y u->R x y H2->wpAny #[7] X.A (f v u) Q X.xe s2):
  wpAny #[7] X.A (eval a X.env) (λv s₁=>wpAny #[7] X.A (eval b X.env) (λu s₂=>wpAny #[7] X.A (f v u) Q X.xe s₂) X.xe s₁) X.xe s:=by
 erw[thn (ha pins s σ H _ I h) λv s1 ⟨x,H1,O,r1,Z⟩=>?_]
 erw[thn (hb pins s1 σ H1 _ O Z) λu s2 ⟨y,H2,U,r2,q2⟩=>?_]
 rwa[hf v u s2 x y H2 U r1 r2 q2]
theorem ao{op:Operator}{r:R2}(ho:OpR X (binaryOp op) r)(ha:PE X a ta)(hb:PE X b tb):PE X (.BinOp a op b pos) (tOp r ta tb):=by
 intros Q I h;rwa[wpAny_BinOp (En ha hb I h λv u s2 x y H2 O U Z q=>ho pins s2 σ H2 x y v u Q O U Z q)]
theorem rQ{op:UnaryOp}{r:V->Hp->VK->Prop}(ho:UnR X (unaryOp op) r)(ha:PE X a ta):PE X (.UnaryOp op a pos) (tUn r ta):=by
 intros Q I h;rwa[UnaryOp_ (thn (ha pins s σ H _ I h) λv s1 ⟨x,H1,O,Z,U⟩=>ho pins s1 σ H1 x v Q O Z U)]
theorem opI{C:Int->Int->Prop}(rule:∀(i j:Int) (t u:Tok) (s:Shared) (Q:Value->Shared->Prop) (E:Value->Shared->Prop),C i j->Q (.int (g i j) s.toks) { s with toks:=s.toks+1 }->wpAny #[7] X.A (f (.int i t) (.int j u)) Q E s):
  OpR X f (rI C λi j=>.int (g i j)):=by
 intros x y v u Q I U Z h;let#[23,i,j,1,1,O,q]:=h;let#[t,1]:=U;let#[t',1]:=Z;rwa[rule i j t t' s _ _ O #[22,.int (g i j),H,I.tok _,#[0],q]]
theorem DC(rule:∀(i j:Int) (t u:Tok) (s:Shared) (Q:Value->Shared->Prop) (E:Value->Shared->Prop),Q (.int (g i j) s.toks) { s with toks:=s.toks+1 }->wpAny #[7] X.A (f (.int i t) (.int j u)) Q E s):
  OpR X f (rI0 λi j=>.int (g i j)):=by
 intros x y v u Q I O U h;let#[22,i,j,1,1,q]:=h;let#[t,1]:=O;let#[t',1]:=U;rwa[rule i j t t' s _ _ #[22,.int (g i j),H,I.tok _,#[0],q]]
theorem BA{g:Int->Int->Bool}(rule:∀(i j:Int) (t u:Tok) (s:Shared) (Q:Value->Shared->Prop) (E:Value->Shared->Prop),Q (.bool (g i j)) s->wpAny #[7] X.A (f (.int i t) (.int j u)) Q E s):
  OpR X f (rI0 λi j=>.bl (g i j)):=by
 intros x y v u Q I O U h;let#[22,i,j,1,1,q]:=h;let#[t,1]:=O;let#[t',1]:=U;rwa[rule i j t t' s _ _ #[22,.bl (g i j),H,I,1,q]]
def CPow(i j:Int):Prop:=0<=j/\j<=1000000/\i.natAbs<2^64
def CMul(i j:Int):Prop:=(-(2^64)<i/\i<2^64)\/(-(2^64)<j/\j<2^64)
theorem CMul.ok{i j:Int}(h:CMul i j):IntMulOk i j:=by
 rcases h with⟨h1,h2⟩|⟨h1,h2⟩
 ·rwa[.of_left (intBits_le_64 h1 h2)]
 ·rwa[.of_right (intBits_le_64 h1 h2)]
theorem uz(k:Nat):(0:Int)<=2^k:=by
 rw[two_pow_cast];rwa[Int.natCast_nonneg _]
theorem aQ:OpR X (binaryOp .Add) (rI0 λi j=>.int (i+j)):=DC λ_ _ _ _ _ _ _ q=>add_int q
theorem cS:OpR X (binaryOp .Sub) (rI0 λi j=>.int (i-j)):=DC λ_ _ _ _ _ _ _ q=>sub_int q
theorem bH:OpR X (binaryOp .Mult) (rI CMul λi j=>.int (i*j)):=opI λ_ _ _ _ _ _ _ O q=>mul_int q O.ok
theorem aZ:OpR X (binaryOp .Mod) (rI (λ_ j=>0<j) λi j=>.int (i%j)):=opI λi j _ _ _ _ _ O q=>by
 have h1:(0:Int)<j:=O;rwa[mod_int' () (by rw[Int.fmod_eq_emod_of_nonneg i ()];rwa[q])]
theorem iX:OpR X (binaryOp .Pow) (rI CPow λi j=>.int (i^j.toNat)):=opI λ_ _ _ _ _ _ _ O q=>pow_int_small O.1 O.2.1 O.2.2 q
theorem yy:OpR X (binaryOp .RShift) (rI (λ_ j=>0<=j) λi j=>.int (i/2^j.toNat)):=opI λi j _ _ _ _ _ O q=>
 rshift_int O (by rw[Int.fdiv_eq_ediv_of_nonneg i (uz _)];rwa[q])
theorem yN:OpR X (binaryOp .BitAnd) (rI0 λi j=>.int (Builtin.bitAnd i j)):=DC λ_ _ _ _ _ _ _ q=>and_int q
theorem unI{f:Value->Sem Value}{g:Int->Int}(rule:∀(i:Int) (t:Tok) (s:Shared) (Q:Value->Shared->Prop) (E:Value->Shared->Prop),Q (.int (g i) s.toks) { s with toks:=s.toks+1 }->wpAny #[7] X.A (f (.int i t)) Q E s):
  UnR X f (rU λi=>.int (g i)):=by
 intros x v Q I O h;let#[i,1,q]:=h;let#[t,1]:=O;rwa[rule i t s _ _ #[22,.int (g i),H,I.tok _,#[0],q]]
theorem iE:UnR X (unaryOp .USub) (rU λi=>.int (-i)):=unI λ_ _ _ _ _ q=>neg_int q
end
def Ff:V->V->Bool
 |.non,.non=>true|.non,.int _=>true|.int _,.non=>true|.non,.bl _=>true|.bl _,.non=>true|.non,.str _=>true|.str _,.non=>true
 |.int _,.int _=>true|.bl _,.bl _=>true|.str _,.str _=>true|.byt _,.byt _=>true
 |.int _,.str _=>true|.str _,.int _=>true|.bl _,.str _=>true|.str _,.bl _=>true
 |_,_=>false
def rEq:R2:=λx y H Q=>Ff x y=true/\Q (.bl (decide (x=y))) H
def rNe:R2:=λx y H Q=>Ff x y=true/\Q (.bl (!decide (x=y))) H
theorem v6{i j:Int}:decide (V.int i=V.int j)=(i==j):=by
 rw[Bool.eq_iff_iff];simp
theorem AA{i j:Bool}:decide (V.bl i=V.bl j)=(i==j):=by
 rw[Bool.eq_iff_iff];simp
theorem uJ{i j:Str}:decide (V.str i=V.str j)=(i==j):=by
 rw[Bool.eq_iff_iff];simp
theorem wd{i j:Array UInt8}:decide (V.byt i=V.byt j)=(i.toList==j.toList):=by
 rw[Bool.eq_iff_iff];cases i;cases j;simp
section
variable {a b:Expr}{tb tc:TE}
theorem aT{Q:VK}{k k':Bool}(I:#[7,7])(q:Q (.bl k) H)(e:k=k'):EP X pins σ Q (.bool k') s:=by
 subst e;rwa[22,.bl k,H,I,1,q]
theorem bf:OpR X (compareOp .Eq) rEq:=by
 intros x y v u Q I Z O h;let#[U,q]:=h;cases x with
 |non=>
  cases Z;cases y with
  |non=>cases O;rwa[PySem.EqNone.eq_none_none (aT I q (by simp))]
  |bl j=>cases O;rwa[PySem.EqNone.eq_none_bool (aT I q (by simp))]
  |int j=>let#[t',1]:=O;rwa[PySem.EqNone.eq_none_int (aT I q (by simp))]
  |str j=>let#[t',1]:=O;rwa[PySem.EqNone.eq_none_str (aT I q (by simp))]
  |_=>rwa[absurd (show false=true from U) G_]
 |bl i=>
  cases Z;cases y with
  |non=>cases O;rwa[PySem.EqNone.eq_bool_none (aT I q (by simp))]
  |bl j=>cases O;rwa[eq_bool (aT I q AA)]
  |str j=>let#[t',1]:=O;rwa[PySem.EqMixed.eq_bool_str (aT I q (by simp))]
  |_=>rwa[absurd (show false=true from U) G_]
 |int i=>
  let#[t,1]:=Z;cases y with
  |non=>cases O;rwa[PySem.EqNone.eq_int_none (aT I q (by simp))]
  |int j=>let#[t',1]:=O;rwa[eq_int (aT I q v6)]
  |str j=>let#[t',1]:=O;rwa[PySem.EqMixed.eq_int_str (aT I q (by simp))]
  |_=>rwa[absurd (show false=true from U) G_]
 |str i=>
  let#[t,1]:=Z;cases y with
  |non=>cases O;rwa[PySem.EqNone.eq_str_none (aT I q (by simp))]
  |bl j=>cases O;rwa[PySem.EqMixed.eq_str_bool (aT I q (by simp))]
  |int j=>let#[t',1]:=O;rwa[PySem.EqMixed.eq_str_int (aT I q (by simp))]
  |str j=>let#[t',1]:=O;rwa[eq_str (aT I q uJ)]
  |_=>rwa[absurd (show false=true from U) G_]
 |byt i=>
  let#[t,1]:=Z;cases y with
  |byt j=>let#[t',1]:=O;rwa[PySem.W.eq_bytes (aT I q wd)]
  |_=>rwa[absurd (show false=true from U) G_]
 |_=>cases y<;>rwa[absurd (show false=true from U) G_]
theorem gh:OpR X (compareOp .NotEq) rNe:=by
 intros x y v u Q I Z O h;let#[U,q]:=h;cases x with
 |non=>
  cases Z;cases y with
  |non=>cases O;rwa[PySem.EqNone.ne_none_none (aT I q (by simp))]
  |bl j=>cases O;rwa[PySem.EqNone.ne_none_bool (aT I q (by simp))]
  |int j=>let#[t',1]:=O;rwa[PySem.EqNone.ne_none_int (aT I q (by simp))]
  |str j=>let#[t',1]:=O;rwa[PySem.EqNone.ne_none_str (aT I q (by simp))]
  |_=>rwa[absurd (show false=true from U) G_]
 |bl i=>
  cases Z;cases y with
  |non=>cases O;rwa[PySem.EqNone.ne_bool_none (aT I q (by simp))]
  |bl j=>cases O;rwa[ne_bool (aT I q (LD not AA))]
  |str j=>let#[t',1]:=O;rwa[PySem.EqMixed.ne_bool_str (aT I q (by simp))]
  |_=>rwa[absurd (show false=true from U) G_]
 |int i=>
  let#[t,1]:=Z;cases y with
  |non=>cases O;rwa[PySem.EqNone.ne_int_none (aT I q (by simp))]
  |int j=>let#[t',1]:=O;rwa[ne_int (aT I q (LD not v6))]
  |str j=>let#[t',1]:=O;rwa[PySem.EqMixed.ne_int_str (aT I q (by simp))]
  |_=>rwa[absurd (show false=true from U) G_]
 |str i=>
  let#[t,1]:=Z;cases y with
  |non=>cases O;rwa[PySem.EqNone.ne_str_none (aT I q (by simp))]
  |bl j=>cases O;rwa[PySem.EqMixed.ne_str_bool (aT I q (by simp))]
  |int j=>let#[t',1]:=O;rwa[PySem.EqMixed.ne_str_int (aT I q (by simp))]
  |str j=>let#[t',1]:=O;rwa[ne_str (aT I q (LD not uJ))]
  |_=>rwa[absurd (show false=true from U) G_]
 |byt i=>
  let#[t,1]:=Z;cases y with
  |byt j=>let#[t',1]:=O;rwa[PySem.W.ne_bytes (aT I q (LD not wd))]
  |_=>rwa[absurd (show false=true from U) G_]
 |_=>cases y<;>rwa[absurd (show false=true from U) G_]
theorem gJ:OpR X (compareOp .Lt) (rI0 λi j=>.bl (decide (i<j))):=BA λ_ _ _ _ _ _ _ q=>lt_int q
theorem rS:OpR X (compareOp .LtE) (rI0 λi j=>.bl (decide (i<=j))):=BA λ_ _ _ _ _ _ _ q=>le_int q
theorem gQ:OpR X (compareOp .Gt) (rI0 λi j=>.bl (decide (j<i))):=BA λ_ _ _ _ _ _ _ q=>gt_int q
theorem C6:OpR X (compareOp .GtE) (rI0 λi j=>.bl (decide (j<=i))):=BA λ_ _ _ _ _ _ _ q=>ge_int q
theorem au(b:Expr)(h:op≠.In:=by decide)(h2:op≠.NotIn:=by decide):behindInMarks op b=false:=by
 have O:(op==CmpOp.In)=false:=by cases op<;>first|rfl|rwa[absurd rfl h]
 have e2:(op==CmpOp.NotIn)=false:=by cases op<;>first|rfl|rwa[absurd rfl h2]
 cases b<;>simp[behindInMarks,O,e2]
theorem cg{r:R2}(ho:OpR X (compareOp op) r)(ha:PE X a ta)(hb:PE X b tb)(hm:behindInMarks op b=false):PE X (.Compare a [op] [b] pos) (tOp r ta tb):=by
 intros Q I h;rwa[wpAny_Compare1 (En ha hb I h λv u s2 x y H2 O U Z q=>ho pins s2 σ H2 x y v u Q O U Z q) hm]
def E9(t:TE):TT:=λσ H Q=>t σ H λx H'=>∃k,x=.bl k/\Q k H'
theorem aw{r:R2}(ho:OpR X (compareOp op) r)(ha:PE X a ta)(hb:PE X b tb)(hm:behindInMarks op b=false):PT X (.Compare a [op] [b] pos) (E9 (tOp r ta tb)):=by
 intros Q I h;erw[wpAny_isTrue_Compare1 (thn (ha pins s σ H _ I h) λv s1 ⟨x,H1,U,r1,q1⟩=>thn (hb pins s1 σ H1 _ U q1) λu s2 ⟨y,H2,Z,r2,q2⟩=>
  thn (ho pins s2 σ H2 x y v u _ Z r1 r2 q2) λc s3 ⟨z,O,I3,r3,k,e,q3⟩=>?_) hm]
 subst e;cases r3;rwa[On #[O,I3,q3]]
def Ei(r r':R2)(ta tb tc:TE):TE:=λσ H Q=>ta σ H λx H1=>tb σ H1 λy H2=>r x y H2 λz H3=>∃k,z=.bl k/\
 (if k=true then tc σ H3 λw' H4=>r' y w' H4 Q else Q (.bl false) H3)
theorem Av{op':CmpOp}{r r':R2}(ho:OpR X (compareOp op) r)(ho':OpR X (compareOp op') r')(ha:PE X a ta)(hb:PE X b tb)(hc:PE X c tc)(hm:lastMarks [op,op'] [b,c]=false:=by with_unfolding_all rfl):PE X (.Compare a [op,op'] [b,c] pos) (Ei r r' ta tb tc):=by
 intros Q I h;erw[Compare_chain (thn (ha pins s σ H _ I h) λv s1 ⟨x,H1,I1,r1,q1⟩=>chain_link (thn (hb pins s1 σ H1 _ I1 q1) λu s2 ⟨y,H2,I2,r2,q2⟩=>
  thn (ho pins s2 σ H2 x y v u _ I2 r1 r2 q2) λd s3 ⟨z,O,U,r3,k,e,Z⟩=>?_)) hm]
 subst e;cases r3;erw[On ?_];cases k with
 |false=>rwa[ite_ff #[22,.bl false,O,U,1,Z]]
 |true=>rwa[ite_tt (chain_last (thn (hc pins s3 σ O _ U Z) λw' s4 ⟨z',H4,I4,r4,q4⟩=>ho' pins s4 σ H4 y z' u w' Q I4 r2 r4 q4))]
theorem pZ:(sizeLine:Nat)<2^63:=by rw[Hc];decide
theorem eS{x:V}(r:Ge [x] us):∃u,us=[u]/\Gf x u:=by
 cases r with
 |cons r1 r2=>cases r2;rwa[0,r1]
theorem yi{x:V}(r:Ge [x,y] us):∃u O,us=[u,O]/\Gf x u/\Gf y O:=by
 cases r with
 |cons r1 r2=>
  cases r2 with
  |cons r3 r4=>cases r4;rwa[22,_,0,r1,r3]
theorem yT:cU X (.builtin "abs") (λxs H Q=>∃i,xs=[.int i]/\Q (.int (if i<0 then -i else i)) H):=by
 intros xs us Q I r h;let#[i,1,q]:=h;let#[50,u,1,t,1]:=eS r;rwa[call_abs_int λu tk=>#[22,.int (if i<0 then -i else i),H,I.tok _,#[0],q]]
theorem xr(hc:X.still):cU X (.builtin "max") (λxs H Q=>∃i j,xs=[.int i,.int j]/\Q (.int (if j>i then j else i)) H):=by
 intros xs us Q I r h;let#[21,i,j,1,q]:=h;let#[22,u,U,1,#[t,1],#[t',1]]:=yi r;erw[max_two_ints (I.hd0 hc) λh' tk k=>#[22,_,H,I.kept k,?_,q]]
 by_cases O:j>i
 ·rw[C_ O,C_ O];rwa[0]
 ·rw[w_ O,w_ O];rwa[0]
theorem pG:cU X (.type "int") (λxs H Q=>(∃i,xs=[.int i]/\Q (.int i) H)\/∃k,xs=[.bl k]/\Q (.int (if k then 1 else 0)) H):=by
 intros xs us Q I r h
 rcases h with⟨i,rfl,q⟩|⟨k,rfl,q⟩
 ·let#[50,u,1,t,1]:=eS r;rwa[call_int_int #[22,.int i,H,I,#[0],q]]
 ·let#[u,1,O]:=eS r;cases O;rwa[call_int_bool #[22,.int (if k then 1 else 0),H,I.tok _,#[0],q]]
end
structure ObjM (h:Heap) (x dx C:Addr) (mA:Str->Option Value):Prop where
 obj:h.get? x=some (instObj C dx)
 ns:h.Ns1 dx mA
 ne:dx≠x
theorem wp(n:h.Ns1 dx mA):∃od,h.get? dx=some od/\∀name,lookIn name od=some (mA name):=by
 let#[34,o,es,ep,Z,hd,hk,_,hm]:=n;erw[o,Z,λname=>?_]
 have e:=hm name;unfold nsFind findBy at e;rw[<- Array.find?_toList] at e;unfold lookIn;rw[hd];dsimp only
 split
 ·rename_i y q;rw[q] at e;rwa[LD some e]
 ·rename_i q;rw[q] at e;have a:es.toList.any (·.refKey)=false:=by
   rw[List.any_eq_false];intro y hy;let#[z,t,O]:=hk y (Array.mem_toList_iff.mp hy);simp[DictEntry.refKey,O]
  have U:¬es.toList.any (·.refKey)=true:=by rw[a];rwa[G_]
  rw[w_ U];rwa[LD some e]
theorem ObjM.look{x:Addr}(I:ObjM h x dx C mA):∃od,PySem.W.InstAt h x (instObj C dx) C (some od)/\∀name,lookIn name od=some (mA name):=
 let ⟨od,ho,hl⟩:=wp I.ns
 #[od,#[I.obj,1,1,ho],hl]
section
variable {prog:Program}{w:World}{A:Around}{K:Frag}{x f:Addr}{v:Value}
theorem BO{expr:Bool}{Q:Value->Shared->Prop}(X:K.In s.heap)(I:ObjM s.heap x dx C mA)(hg:plainGet K C name=true)(hh:hasDictIn K C=true)(ha:findIn K (.ref C) name=some none)(hv:mA name=some v)(hv':PySem.W.handedIn v=true)(h:Q v { s with toks:=s.toks+1 }):
  wpAny (model prog w) A (getAttr (.ref x) name expr) Q E s:=by
 let#[od,J,O]:=I.look;rwa[PySem.W.get_value X J (PySem.W.plainGet_of hg).1 (PySem.W.findObj_own hh ha rfl (by rw[O,hv])) hv' h]
theorem AE{Q:Value×List Value->Shared->Prop}(X:K.In s.heap)(I:ObjM s.heap x dx C mA)(hg:plainGet K C name=true)(hf:findIn K (.ref C) name=some (some (.ref f)))(ht:isFn K (.ref f)=true)(hv:mA name=none)(h:Q (.ref f,[.ref x]) s):
  wpAny (model prog w) A (getMethod (.ref x) name pl) Q E s:=by
 let#[od,J,O]:=I.look;rwa[PySem.W.method_fn X J (PySem.W.plainGet_of hg).1 (PySem.W.plainGet_of hg).2 hf (OS.mp ht) (by show(lookIn name od).map (·.isSome)=some false;rw[O,hv];rfl) h]
theorem BC{ns:List Str}(X:K.In s.heap)(I:ObjM s.heap x dx C mA)(hs:findIn K (.ref C) "__setattr__"=some (some (.builtin "object.__setattr__")))(hp:PySem.W.plainOver K C=true)(ht:PySem.W.takerIn K C name=some none)(hh:hasDictIn K C=true)(hw:PySem.Within mA ns)(hsz:ns.length<=sizeLine)(h:∀h',ObjM h' x dx C (λy=>if y=name then some v else mA y)->Heap.SameBut dx s.heap h'->Q ⟨⟩ { s with heap:=h',toks:=s.toks+2 }):
  wpAny (model prog w) A (setAttr (.ref x) name v) Q E s:=by
 let#[od,J,hl]:=I.look;erw[PySem.W.set_plain X J hs (PySem.W.osa_open (s:={ s with toks:=s.toks+1 }) (r:=none) X J hp ht λb=>?_)]
 let#[cd,hc,a1]:=PySem.W.any_some hh;have hx:s.heap.get? x=some #[.ref C,some dx,.plain,#[8]]:=I.obj;erw[c_ (f_ (c_ (c_ (wpAny_loadPart hx (c_ (PySem.W.Looks.here (s:={ s with toks:=s.toks+1 }) (PySem.W.looks_clsIn X hc) ?_))))))]
 rw[a1];erw[f_ (a:=some dx) (c_ (f_ (c_ ?_)))];erw[wpAny_nsSet1 (s:={ s with toks:=s.toks+1 }) I.ns λh' O U=>?_]
 let#[32,oD,a5,a4,a3,a2,Z]:=O.count (PySem.Within.cons name v hw);erw[c_ (wpAny_lookBehind a3 (by rw[a2];rwa[pastItsLine_dict (Hb Z (by rw[Mn];lia))]) ?_)]
 rwa[f_ (h _ #[(U.2 _ (Ne.symm I.ne)).trans I.obj,O,I.ne] U)]
theorem yX{vs:List Value}(X:K.In s.heap)(hm:makesIn K C=true)(hi:findIn K (.ref C) "__init__"=some (some (.ref f)))(hf:PySem.W.typeIn K (.ref f)=some (.type "function"))(h:codeAny (model prog w) (A.under (.builtin "type.__call__" #[.ref C::vs,kw])) (.call (.ref f) #[.ref (s.heap.objs.size+1)::vs,kw]) (PySem.W.InitBack (s.heap.objs.size+1) R)
   { s with heap:=(s.heap.push emptyDict).push (instObj C s.heap.objs.size) }):
  codeAny (model prog w) A (.call (.ref C) #[vs,kw]) R s:=by
 let#[O,g,d,t,os]:=s;rwa[PySem.W.make_core (PySem.W.makes_of X hm) (looks_findIn X hi) (λself=>PySem.W.bind_fn X self hf) (.inl rfl) h]
theorem xT(X:K.In s.heap)(hm:makesIn K C=true)(hi:findIn K (.ref C) "__init__"=some (some (.builtin "object.__init__")))(hb:∀self,Looks (model prog w) s.heap (bindSpecial (.builtin "object.__init__") self) (.builtin "object.__init__",[self]))(h:codeAny (model prog w) (A.under (.builtin "type.__call__" #[[.ref C],[]])) (.call (.builtin "object.__init__") #[[.ref (s.heap.objs.size+1)],[]]) (PySem.W.InitBack (s.heap.objs.size+1) R)
   { s with heap:=(s.heap.push emptyDict).push (instObj C s.heap.objs.size) }):
  codeAny (model prog w) A (.call (.ref C) #[[],[]]) R s:=by
 let#[O,g,d,t,os]:=s;rwa[PySem.W.make_core (PySem.W.makes_of X hm) (looks_findIn X hi) hb (.inr #[1,1]) h]
end
def gj(f:Str)(v:V):List (Str×V)->List (Str×V)
 |[]=>[(f,v)]
 |(g,x)::r=>if g=f then(g,v)::r else(g,x)::gj f v r
theorem kM(f g:Str)(v:V):∀fs:List (Str×V),(gj f v fs).lookup g=if g=f then some v else fs.lookup g
 |[]=>by
  show List.lookup g [(f,v)]=_
  by_cases h:g=f
  ·have O:(g==f)=true:=OS.mpr h;simp only[List.lookup,O,C_ h]
  ·have O:(g==f)=false:=Nh.mpr h;simp only[List.lookup,O,w_ h]
 |(k,x)::r=>by
  have U:=kM f g v r;rw[show gj f v ((k,x)::r)=(if k=f then(k,v)::r else(k,x)::gj f v r) from rfl]
  by_cases hk:k=f
  ·rw[C_ hk]
   by_cases h:g=k
   ·have O:(g==k)=true:=OS.mpr h;simp only[List.lookup,O,C_ (h.trans hk)]
   ·have O:(g==k)=false:=Nh.mpr h;simp only[List.lookup,O,w_ (λe:g=f=>h (e.trans hk.symm))]
  ·rw[w_ hk]
   by_cases h:g=k
   ·have O:(g==k)=true:=OS.mpr h;simp only[List.lookup,O,w_ (λe:g=f=>hk (h.symm.trans e))]
   ·have O:(g==k)=false:=Nh.mpr h;simp only[List.lookup,O];rwa[U]
theorem ko(f:Str)(v:V):∀fs:List (Str×V),f∈(gj f v fs).map (·.1)/\∀g,g∈fs.map (·.1)->g∈(gj f v fs).map (·.1)
 |[]=>#[by simp[gj],λg h=>by simp at h]
 |(k,x)::r=>by
  let#[i1,i2]:=ko f v r;rw[show gj f v ((k,x)::r)=(if k=f then(k,v)::r else(k,x)::gj f v r) from rfl]
  by_cases hk:k=f
  ·rw[C_ hk];subst hk;rwa[by simp,λg h=>by simpa using h]
  ·rw[w_ hk];erw[?_,λg h=>?_]
   ·rw[NF];rwa[I_ _ i1]
   ·rw[NF] at h ⊢
    rcases HB.mp h with e|e
    ·rwa[HB.mpr (.inl e)]
    ·rwa[I_ _ (i2 g e)]
theorem kD(f:Str)(v:V):∀fs:List (Str×V),(gj f v fs).length<=fs.length+1
 |[]=>by simp[gj]
 |(k,x)::r=>by
  have O:=kD f v r;rw[show gj f v ((k,x)::r)=(if k=f then(k,v)::r else(k,x)::gj f v r) from rfl]
  by_cases hk:k=f
  ·rw[C_ hk,Mn,Mn];lia
  ·rw[w_ hk,Mn,Mn];lia
theorem RelO.some_of{o:Option Value}(r:RelO (some v) o):∃u,o=some u/\Gf v u:=by
 cases o with
 |none=>exact(show False from r).elim
 |some u=>rwa[u,1,r]
theorem RelO.none_of{o:Option Value}(r:RelO none o):o=none:=by
 cases o with
 |none=>rfl
 |some u=>exact(show False from r).elim
theorem xI(r:Gf v u):PySem.W.handedIn u=true:=by
 cases v with
 |non=>cases (show u=Value.none from r);rfl
 |bl b=>cases (show u=Value.bool b from r);rfl
 |int i=>let#[t,e]:=(show ∃t,u=Value.int i t from r);cases e;rfl
 |str x=>let#[t,e]:=(show ∃t,u=Value.str x t from r);cases e;rfl
 |byt b=>let#[t,e]:=(show ∃t,u=Value.bytes b t from r);cases e;rfl
 |flt b=>let#[t,e]:=(show ∃t,u=Value.float b t from r);cases e;rfl
 |ref a=>cases (show u=Value.ref a from r);rfl
 |ty n=>cases (show u=Value.type n from r);rfl
section
variable {w:World}{fs fs':List (Str×V)}
theorem lh(hok:HOk P w H h)(e:H a=some (.ins C dx fs)):∃mA,ObjM h a dx C mA/\(∀f,RelO (fs.lookup f) (mA f))/\PySem.Within mA (fs.map (·.1))/\fs.length<=1000/\H dx=some (.own a):=by
 let#[0412,d,z,ne,O,mA,n,r,q]:=(show Gg P w H h a (.ins C dx fs) from hok a _ e)
 rwa[mA,#[O,n,ne],r,q,z,d]
end
structure Cls (K:Frag) (C:Addr):Prop where
 pg:plainGet K C Str.empty=true
 hd:hasDictIn K C=true
 po:PySem.W.plainOver K C=true
 sa:findIn K (.ref C) "__setattr__"=some (some (.builtin "object.__setattr__"))
theorem Cls.get{K:Frag}(c:Cls K C)(f:Str):plainGet K C f=true:=c.pg
def Gj(K:Frag)(C:Addr)(f:Str):Prop:=findIn K (.ref C) f=some none
theorem Gj.taker{K:Frag}{f:Str}(n:Gj K C f):PySem.W.takerIn K C f=some none:=by
 unfold PySem.W.takerIn;rw[show findIn K (.ref C) f=some none from n]
 rfl
structure nu (K:Frag) (C:Addr) (m:Str) (f:Addr):Prop where
 at_:findIn K (.ref C) m=some (some (.ref f))
 fn:isFn K (.ref f)=true
 kp:keepIn K (.ref f)=true
section
variable {fs:List (Str×V)}{f:Str}{A:Around}
theorem uh{b:Bool}{Q:Value->Shared->Prop}(I:#[7,7])(e:H a=some (.ins C dx fs))(c:Cls X.K C)(n:Gj X.K C f)(l:fs.lookup f=some v)(h:∀u s',Inv X pins σ H s'->Gf v u->Q u s'):wpAny #[7] A (getAttr (.ref a) f b) Q E s:=by
 let#[14,mA,O,r,_,_,_]:=lh I.hok e;let#[u,Z,U]:=RelO.some_of (v:=v) (o:=mA f) (by rw[<- l];rwa[r f])
 rwa[BO I.kIn O (c.get f) c.hd n Z (xI U) (h u _ (I.tok _) U)]
theorem mf{m:Str}{g:Addr}{Q:Value×List Value->Shared->Prop}(I:#[7,7])(e:H a=some (.ins C dx fs))(c:Cls X.K C)(k:nu X.K C m g)(l:fs.lookup m=none)(h:Q (.ref g,[.ref a]) s):wpAny #[7] A (getMethod (.ref a) m pl) Q E s:=by
 let#[14,mA,O,r,_,_,_]:=lh I.hok e;have hn:mA m=none:=RelO.none_of (by rw[<- l];rwa[r m])
 rwa[AE I.kIn O (c.get m) k.at_ k.fn hn h]
theorem tw(I:#[7,7])(e:H a=some (.ins C dx fs))(c:Cls X.K C)(n:Gj X.K C f)(hl:fs.length<1000)(ry:Gf y u)(h:∀s',Inv X pins σ (upd H a (.ins C dx (gj f y fs))) s'->Q ⟨⟩ s'):wpAny #[7] A (setAttr (.ref a) f u) Q E s:=by
 let#[14,mA,O,r,wi,_,Z]:=lh I.hok e;have hz:(fs.map (·.1)).length<=sizeLine:=by rw[z_,Hc];lia
 erw[BC I.kIn O c.sa c.po n.taker c.hd wi hz λh' U sb=>h _ ?_]
 have hd:∃o,h'.get? dx=some o:=let ⟨o,_,_,e',_⟩:=U.ns;#[o,e']
 erw[I.write (x:=a) (e:=dx) (by rw[e];rwa[True.intro]) (.inr Z) (λb q hb z=>(sb.2 b hb).trans z) hd ?_]
 erw[by rw[ak O.ne];rwa[Z],?_,O.ne,U.obj,_,U.ns,λg=>?_,λg hg=>?_]
 ·have:=kD f y fs;lia
 ·show RelO ((gj f y fs).lookup g) (if g=f then some u else mA g)
  rw[kM]
  by_cases q:g=f
  ·rw[C_ q,C_ q];rwa[ry]
  ·rw[w_ q,w_ q];rwa[r g]
 ·by_cases q:g=f
  ·rw[q];exact(ko f y fs).1
  ·refine(ko f y fs).2 g (wi g λz=>hg ?_)
   show(if g=f then some u else mA g)=none
   rw[w_ q];rwa[z]
theorem Inv.made(I:#[7,7]):Inv X pins σ (upd (upd H s.heap.objs.size (.own (s.heap.objs.size+1))) (s.heap.objs.size+1) (.ins C s.heap.objs.size []))
  { s with heap:=(s.heap.push emptyDict).push (instObj C s.heap.objs.size) }:=by
 have O:(s.heap.push emptyDict).get? s.heap.objs.size=some emptyDict:=A_ s.heap rfl;have e2:((s.heap.push emptyDict).push (instObj C s.heap.objs.size)).get? (s.heap.objs.size+1)=some (instObj C s.heap.objs.size):=by
  have:=A_ (s.heap.push emptyDict) (o:=instObj C s.heap.objs.size) rfl;rwa [Ps] at this
 have Z:(s.heap.push emptyDict).Ns s.heap.objs.size (λ_=>none):=#[33,emptyDict,#[8],_,O,1,(λe he=>absurd he (by simp)),λ_=>rfl]
 have U:=I.laid (a:=s.heap.objs.size) (o:=.own (s.heap.objs.size+1)) (h':=s.heap.push emptyDict) (t':=s.toks) (λb u q=>g_ _ q) (e_ _) #[_,O]
 erw[U.laid (a:=s.heap.objs.size+1) (o:=.ins C s.heap.objs.size []) (t':=s.toks) (λb u q=>g_ _ q) (PU (Ps _ _)) ?_]
 have ne:s.heap.objs.size≠s.heap.objs.size+1:=F9 (Pt _);erw[by rw[ak ne,ae],Hj _,ne,e2,λ_=>none,(Heap.Ns1.of_empty Z).at λo q=>g_ _ q,λ_=>True.intro,λy hy=>absurd rfl hy]
theorem Ci{prog:Program}{w:World}{env:Env}{Q:Value->Shared->Prop}(hb:attributeBase e f env (eval e env)=eval e env)(h:wpAny (model prog w) A (eval e env) (λo O=>wpAny (model prog w) A (getAttr o f true) Q E O) E s):wpAny (model prog w) A (eval (.Attribute e f pos) env) Q E s:=
 Attribute_any_ h (by rw[arm_eval_Attribute,hb])
end
def Fy(K:Frag)(ta:TE)(f:Str):TE:=λσ H Q=>ta σ H λx H1=>∃a C dx fs v,x=.ref a/\H1 a=some (.ins C dx fs)/\Cls K C/\Gj K C f/\fs.lookup f=some v/\Q v H1
def sFld(K:Frag)(ta tv:TE)(f:Str):TS:=λD σ H=>tv σ H λy H1=>ta σ H1 λx H2=>∃a C dx fs,x=.ref a/\H2 a=some (.ins C dx fs)/\Cls K C/\Gj K C f/\fs.length<1000/\
 D.nx σ (upd H2 a (.ins C dx (gj f y fs)))
section
variable {o value:Expr}{f:Str}{tpos:Pos}{tv:TE}
theorem dc(he:PE X e ta)(hb:attributeBase e f X.env (eval e X.env)=eval e X.env):PE X (.Attribute e f pos) (Fy X.K ta f):=by
 intros Q I h;erw[Ci hb (thn (he pins s σ H _ I h) λu s1 ⟨x,H1,O,rx,a,C,dx,fs,v,ex,Z,c,n,l,q⟩=>?_)]
 subst ex;obtain rfl:u=Value.ref a:=rx;rwa[uh O Z c n l λu' s2 U ru=>#[22,v,H1,U,ru,q]]
theorem iJ(ha:PE X o ta)(hv:PE X value tv)(hs:swapsWith value (some (.Attribute o f pos')) pos.line X.env=pure false):PS X (.Assign [.Attribute o f pos'] value pos) (sFld X.K ta tv f):=by
 intros D I h;erw[plainObj_wpAny_Assign_Attribute (thn (hv pins s σ H _ I h) λu s1 ⟨y,H1,O,ry,q⟩=>thn (ha pins s1 σ H1 _ O q) λov s2 ⟨x,H2,U,rx,a,C,dx,fs,ex,ea,c,n,l,q2⟩=>?_) hs]
 subst ex;obtain rfl:ov=Value.ref a:=rx;rwa[tw U ea c n l ry λs3 Z=>#[21,σ,_,Z,q2]]
end
section
variable {A:Around}{Q:Value->Shared->Prop}{c:Value}{b:Bool}
inductive GE (K:Frag) (H:Hp):V->Value->Prop where
 |non:GE K H .non (.type "NoneType")
 |bl (x:Bool):GE K H (.bl x) (.type "bool")
 |int (i:Int):GE K H (.int i) (.type "int")
 |str (x:Str):GE K H (.str x) (.type "str")
 |flt (x:UInt64):GE K H (.flt x) (.type "float")
 |lst {a:Addr} {xs:List V} (e:H a=some (.lst xs)):GE K H (.ref a) (.type "list")
 |frz {a:Addr} {o:Obj} {xs:List V} (e:H a=some (.frz o (.lst xs))):GE K H (.ref a) (.type "list")
 |tup {a:Addr} {xs:List V} (e:H a=some (.tup xs)):GE K H (.ref a) (.type "tuple")
 |dK {a:Addr} {kvs:List (Key×V)} (e:H a=some (.dK kvs)):GE K H (.ref a) (.type "dict")
 |dT {a:Addr} {kvs:List (List Key×V)} (e:H a=some (.dT kvs)):GE K H (.ref a) (.type "dict")
 |ins {a C dx:Addr} {fs:List (Str×V)} (e:H a=some (.ins C dx fs)) (cl:Cls K C) (ha:findIn K (.ref C) "__class__"=some (some (.builtin "object.__class__")))
   (hn:PySem.W.specialIn K (.builtin "object.__class__") "__get__"=some (some (.builtin "getset_descriptor.__get__"))) (htk:PySem.W.takesIn K (.builtin "object.__class__")=some true)
   (hm:PySem.W.mroIn K C (.type "object")=some true):GE K H (.ref a) (.ref C)
theorem we{x:V}{t:Value}(I:#[7,7])(rx:Gf x u)(ty:GE X.K H x t)(e:kitOne X.K t c=some b)(h:∀tk,Q (.bool b) { s with toks:=tk }):
  wpAny #[7] A (call (.builtin "isinstance") [u,c]) Q E s:=by
 cases ty with
 |non=>cases (show u=Value.none from rx);rwa[Rb PySem.W.kitx_none I.kIn True.intro e (λz=>nomatch z) h]
 |bl y=>cases (show u=Value.bool y from rx);rwa[Rb PySem.W.kitx_bool I.kIn True.intro e (λz=>nomatch z) h]
 |int i=>let#[t,q]:=(show ∃t,u=Value.int i t from rx);cases q;rwa[Rb PySem.W.kitx_int I.kIn True.intro e (λz=>nomatch z) h]
 |str y=>let#[t,q]:=(show ∃t,u=Value.str y t from rx);cases q;rwa[Rb PySem.W.kitx_str I.kIn True.intro e (λz=>nomatch z) h]
 |flt y=>let#[t,q]:=(show ∃t,u=Value.float y t from rx);cases q;rwa[Rb PySem.W.kitx_float I.kIn True.intro e (λz=>nomatch z) h]
 |@lst a xs ea=>
  cases (show u=Value.ref a from rx)
  let#[0121,_,_,n,_,h1]:=(show Gg X.prog X.w H s.heap a (.lst xs) from I.hok a _ ea)
  rwa[Rb PySem.W.kitx_list I.kIn #[_,h1,1] e (λz=>nomatch z) h]
 |@frz a ob xs ea=>
  cases (show u=Value.ref a from rx)
  let#[0221,_,_,_,n,_,h1]:=(show Gg X.prog X.w H s.heap a (.frz ob (.lst xs)) from I.hok a _ ea)
  rwa[Rb PySem.W.kitx_list I.kIn #[_,h1,1] e (λz=>nomatch z) h]
 |@tup a xs ea=>
  cases (show u=Value.ref a from rx)
  let#[0111,_,_,_,p]:=(show Gg X.prog X.w H s.heap a (.tup xs) from I.hok a _ ea)
  let#[12,o,h1,h2,_]:=p;rwa[Rb PySem.W.kitx_tuple I.kIn #[o,h1,h2] e (λz=>nomatch z) h]
 |@dK a kvs ea=>
  cases (show u=Value.ref a from rx)
  let#[0211,_,_,vs,_,p]:=(show Gg X.prog X.w H s.heap a (.dK kvs) from I.hok a _ ea)
  let#[32,o,es,ep,h1,h2,_]:=p;rwa[Rb PySem.W.kitx_dict I.kIn #[o,h1,h2.1] e (λz=>nomatch z) h]
 |@dT a kvs ea=>
  cases (show u=Value.ref a from rx)
  let#[0272,_,_,xs,_,o,es,ep,h1,h2,_]:=(show Gg X.prog X.w H s.heap a (.dT kvs) from I.hok a _ ea)
  rwa[Rb PySem.W.kitx_dict I.kIn #[o,h1,h2.1] e (λz=>nomatch z) h]
 |@ins a C dx fs ea cl ha hn htk hm=>
  cases (show u=Value.ref a from rx)
  let#[mA,O,_]:=lh I.hok ea;let#[od,J,_]:=O.look;rwa[Rb (PySem.W.kitx_own (cl.get _) cl.hd ha hn htk hm) I.kIn J e (λz=>nomatch z) h]
end
structure Gi (base:Heap) (k:Nat) (A:Around):Prop where
 hd:HnB A base
 dp:A.depth+3*k+5<recursionLimit
 un:A.units+16*k+200<cLine
theorem Gi.mono{base:Heap}{k:Nat}{A:Around}(r:Gi base k A)(h:j<=k):Gi base j A:=#[r.hd,by have:=r.dp;lia,by have:=r.un;lia]
theorem Gi.deeper{base:Heap}{k:Nat}{A:Around}(r:Gi base (k+1) A)(env:Env):Gi base k (A.deeper env):=
 #[r.hd,by have:=r.dp;show A.depth+1+3*k+5<_;lia,by have:=r.un;show A.units+3+16*k+200<_;lia]
theorem Gi.in1{base:Heap}{k:Nat}{A:Around}(r:Gi base (k+1) A):Gi base k A.in1:=
 #[r.hd,by have:=r.dp;show A.depth+3*k+5<_;lia,by have:=r.un;show A.units+1+16*k+200<_;lia]
theorem sS{A:Around}:(A.under (.builtin "type.__call__" #[.ref C::us,kw])).depth=A.depth+1:=by
 first|rfl|simp[Around.under,Code.weight,Code.isCreation,Code.isGuard,Code.isCaller,Code.frames,Code.isFrame,guardIds]
theorem tH{A:Around}:(A.under (.builtin "type.__call__" #[.ref C::us,kw])).units=A.units+1:=by
 first|rfl|simp[Around.under,Code.cUnits,Code.frames,Code.isFrame]
theorem Gi.make{base:Heap}{k:Nat}{A:Around}(r:Gi base (k+1) A)(C:Addr)(us:List Value)(kw:List (Str×Value)):Gi base k (A.under (.builtin "type.__call__" #[.ref C::us,kw])):=
 #[r.hd,by have:=r.dp;rw[sS];lia,by have:=r.un;rw[tH];lia]
theorem Gi.depth{base:Heap}{k:Nat}{A:Around}(r:Gi base k A):A.depth<recursionLimit:=by have:=r.dp;lia
theorem Gi.units{base:Heap}{k:Nat}{A:Around}(r:Gi base k A):A.units+64<cLine:=by have:=r.un;lia
def cQ:TA:=λ_ H Q=>Q [] H
def ci(ta:TE)(tr:TA):TA:=λσ H Q=>ta σ H λx H1=>tr σ H1 λxs H2=>Q (x::xs) H2
section
variable {t:TA}
theorem ag:PA X [] cQ:=λ_ _ _ _ H Q I h=>Calls.spliced_nil #[22,[],H,I,.nil,h]
theorem aa(ha:PE X e te)(hr:PA X es t)(hs:starEach (e::es) X.env=(false,eval e X.env)::starEach es X.env:=by rfl):PA X (e::es) (ci te t):=by
 intro pos pins s σ H Q I h;rw[hs];show wpAny _ _ (spliced ((false,eval e X.env)::backTo pos (starEach es X.env))) _ _ s;erw[Calls.spliced_cons (thn (ha pins s σ H _ I h) λu s1 ⟨x,H1,O,r1,Z⟩=>?_)]
 rwa[thn (hr pos pins s1 σ H1 _ O Z) λus s2 ⟨xs,H2,U,r2,q2⟩=>#[22,x::xs,H2,U,.cons r1 r2,q2]]
def tTup(t:TA):TE:=λσ H Q=>t σ H λxs H1=>xs.length<=sizeLine/\∀p,H1 p=none->Q (.ref p) (upd H1 p (.tup xs))
def Cr(t:TA):TE:=λσ H Q=>t σ H λxs H1=>xs.length<=sizeLine/\∀p,H1 p=none->Q (.ref p) (upd H1 p (.lst xs))
theorem aN{x1}(h:PA X es t):PE X (.Tuple es x1 pos) (tTup t):=by
 intros Q I Z;erw[wpAny_Tuple_spliced (thn (h pos pins s σ H _ I Z) λus s1 ⟨xs,H1,O,r,z,q⟩=>#[by rw[<- r.length];rwa[z],?_])]
 have U:H1 s1.heap.objs.size=none:=O.hok.fresh (e_ _);erw[22,.ref s1.heap.objs.size,upd H1 s1.heap.objs.size (.tup xs),O.laid (t':=s1.toks) (λb u e=>g_ _ e) (e_ _) ?_,1,q _ U]
 rwa[z,us,r,#[_,A_ _ rfl,1,0]]
theorem aX(h:PA X es t):PE X (.List es pos) (Cr t):=by
 intros Q I Z;erw[wpAny_List_spliced (thn (h pos pins s σ H _ I Z) λus s1 ⟨xs,H1,O,r,z,q⟩=>#[by rw[<- r.length];rwa[z],?_])]
 have U:H1 s1.heap.objs.size=none:=O.hok.fresh (e_ _);erw[22,.ref s1.heap.objs.size,upd H1 s1.heap.objs.size (.lst xs),O.laid (t':=s1.toks) (λb u e=>g_ _ e) (e_ _) ?_,1,q _ U]
 rwa[0121,z,us,(0),r,A_ _ rfl]
end
abbrev Sp:=List V->Hp->VK->XK->Prop
variable {sp:Sp}
abbrev CXT:=List Env->Hp->Shared->XK->Value->Shared->Prop
variable {CX:CXT}
structure Env0 (P:Program) (w:World) (K:Frag) (mg:Str->Option Value) (base:Heap) (A:Around) (outer:List Env) (s:Shared) (H:Hp):Prop where
 frames:A.frames=some outer
 mod:Mod K mg base
 bs:∀b o,base.get? b=some o->s.heap.get? b=some o/\H b=none
 bsz:base.objs.size<=s.heap.objs.size
 funs:s.heap.FunFrames base outer
 frf:∀b∈frs outer,H b=none
 hok:HOk P w H s.heap
 bare:AllBare s.gens
def CE(outer:List Env)(P:Program)(w:World)(H:Hp)(s:Shared)(Q:VK)(u:Value)(s':Shared):Prop:=
 ∃v H',s'.os=s.os/\AllBare s'.gens/\Un (frs outer) [] H H' s.heap s'.heap/\HOk P w H' s'.heap/\Gf v u/\Q v H'
def CR(CX:CXT)(outer:List Env)(P:Program)(w:World)(H:Hp)(s:Shared)(Q:VK)(E:XK)(r:Result)(s':Shared):Prop:=
 match r with
 |.ok (.ret u)=>CE outer P w H s Q u s'
 |.ok _=>False
 |.error e=>CX outer H s E e s'
structure Gd (P:Program) (w:World) (K:Frag) (mg:Str->Option Value) (base:Heap) (CX:CXT) (k:Nat) (f:Addr) (fd:FuncData) (ps:List Str) (sp:Sp):Prop where
 len:∀vs H Q E,sp vs H Q E->vs.length=ps.length
 run:∀(A:Around) (outer:List Env) (s:Shared) (H:Hp) (args:Args) (us:List Value) (vs:List V) (Q:VK) (E:XK),Gi base k A->`Env0 A outer s H->BindsTo s fd args (ps.zip us)->Ge vs us->sp vs H Q E->
  codeAny (model P w) A (.call (.ref f) args) (CR CX outer P w H s Q E) s
theorem Gd.mono{w:World}{K:Frag}{mg:Str->Option Value}{base:Heap}{k:Nat}{f:Addr}(F:`Gd CX j f fd ps sp)(h:j<=k):
  Gd P w K mg base CX k f fd ps sp:=#[F.len,λA outer s H args us vs Q E O=>F.run A outer s H args us vs Q E (O.mono h)]
theorem Gd.imp{w:World}{K:Frag}{mg:Str->Option Value}{base:Heap}{k:Nat}{f:Addr}{sp':Sp}(F:`Gd CX k f fd ps sp)(h:∀vs H Q E,sp' vs H Q E->sp vs H Q E):`Gd CX k f fd ps sp':=
 #[λvs H Q E q=>F.len vs H Q E (h _ _ _ _ q),λA outer s H args us vs Q E Z U O hv hs=>F.run A outer s H args us vs Q E Z U O hv (h _ _ _ _ hs)]
theorem Env0.make{w:World}{K:Frag}{mg:Str->Option Value}{base:Heap}{A:Around}{outer:List Env}(e:`Env0 A outer s H)(C:Addr)(us:List Value)(kw:List (Str×Value)):
  Env0 P w K mg base (A.under (.builtin "type.__call__" #[.ref C::us,kw])) outer s H:=#[by first|rwa[e.frames]|(simpa[Around.under,Code.envs,Code.isFrame,pushEnvs] using e.frames),e.mod,e.bs,e.bsz,e.funs,e.frf,e.hok,e.bare]
theorem Env0.in1{w:World}{K:Frag}{mg:Str->Option Value}{base:Heap}{A:Around}{outer:List Env}(e:`Env0 A outer s H):
  Env0 P w K mg base A.in1 outer s H:=#[e.frames,e.mod,e.bs,e.bsz,e.funs,e.frf,e.hok,e.bare]
section
theorem Inv.env0(I:#[7,7]):Env0 X.prog X.w X.K X.mg X.base X.A X.stack s H:=
 #[I.ok.frames,I.ok.mod,I.bs,Hb I.ok.bsz I.sz,I.stack,I.stkFree,I.hok,I.bare]
theorem Inv.after{Q:VK}(I:#[7,7])(h:CE X.stack X.prog X.w H s Q u s'):EP X pins σ Q u s':=by
 let#[25,v,H',os,bare,un,hok,r,q]:=h;let#[U,g,d,t,O]:=s';obtain rfl:O=s.os:=os;rwa[22,v,H',I.call (h':=U) (g':=g) (d':=d) (t':=t) (ch:=[]) un hok bare (λb z=>absurd z (by simp)),r,q]
end
def sr(sp:Sp)(dvs:List V)(E:XK)(t:TA):TE:=λσ H Q=>t σ H λvs H1=>sp (vs++dvs) H1 Q E
def dW(C:Addr)(m:Str)(sp:Sp)(dvs:List V)(E:XK)(ta:TE)(t:TA):TE:=λσ H Q=>ta σ H λx H1=>∃a dx fs,x=.ref a/\H1 a=some (.ins C dx fs)/\fs.lookup m=none/\
 t σ H1 λvs H2=>sp (x::(vs++dvs)) H2 Q E
def vA(C:Addr)(sp:Sp)(dvs:List V)(E:XK)(t:TA):TE:=λσ H Q=>t σ H λvs H1=>∀x dx,H1 x=none->H1 dx=none->dx≠x->
 sp (.ref x::(vs++dvs)) (upd (upd H1 dx (.own x)) x (.ins C dx [])) (λv H2=>v=.non/\Q (.ref x) H2) E
def Gq(K:Frag)(fd:FuncData)(ps:List Str)(ds:List Value):Prop:=
 ∀(s:Shared) (us:List Value),K.In s.heap->(us++ds).length=ps.length->BindsTo s fd #[us,[]] (ps.zip (us++ds))
theorem Gq.all{K:Frag}(h:∀us:List Value,us.length=ps.length->bindArgs fd #[us,[]]=pure (ps.zip us)):Gq K fd ps []:=λs us _ O=>by
 rw[Pg] at O ⊢;rwa[.of_eq (h us O)]
def dM(CX:CXT)(X:Cx)(E:XK):Prop:=∀(pins:List (Addr×Obj)) (σ:St) (H:Hp) (s:Shared) (e:Value) (s':Shared),#[7,7]->CX X.stack H s E e s'->X.xe e s'
section
variable {k:Nat}{f:Addr}{dvs:List V}{ds:List Value}{E:XK}{m:Str}{apos:Pos}{o:Expr}{t:TA}
theorem ua{Q:VK}{vs:List V}(F:Gd X.prog X.w X.K X.mg X.base CX k f fd ps sp)(hr:Gi X.base k X.A)(hb:Gq X.K fd ps ds)(hd:Ge dvs ds)(hx:dM CX X E)(I:#[7,7])(r:Ge vs us)(h:sp (vs++dvs) H Q E):wpAny #[7] X.A (call (.ref f) us) (EP X pins σ Q) X.xe s:=by
 have U:Ge (vs++dvs) (us++ds):=r.append hd;have Z:(us++ds).length=ps.length:=by rw[<- U.length];rwa[F.len _ _ _ _ h]
 erw[PV (Ox (F.run X.A X.stack s H #[us,[]] (us++ds) (vs++dvs) Q E hr I.env0 (hb s us I.kIn Z) U h) λr s' O=>?_)]
 cases r with
 |error e=>rwa[hx pins σ H s e s' I O]
 |ok fl=>
  cases fl with
  |ret u=>rwa[I.after O]
  |next=>rwa[False.elim O]
  |brk=>rwa[False.elim O]
  |cont=>rwa[False.elim O]
theorem uM(F:Gd X.prog X.w X.K X.mg X.base CX k f fd ps sp)(hr:Gi X.base k X.A)(hg:Gl X x)(hm:X.mg x=some (.ref f))(hk:keepIn X.K (.ref f)=true)(hb:Gq X.K fd ps ds)(hd:Ge dvs ds)(hx:dM CX X E)(ha:PA X (e::es) t)(hdb:(x==("__debug__" : Str))=false:=by decide)(he:starEach (e::es) X.env=(false,eval e X.env)::starEach es X.env:=by rfl)(hpl:(backTo pos (starEach es X.env)).any (·.1)=false:=by rfl):
  PE X (.Call (.Name x p) (e::es) [] pos) (sr sp dvs E t):=by
 intros Q I h;erw[MG (dY I hg hm ?_ hdb)];erw[callWith_K (h₀:=X.base) I.ok.mod.kin hk (thn (ha pos pins s σ H _ I h) λus s1 ⟨vs,H1,O,r,q⟩=>#[O.kIn,?_]) he hpl]
 rwa[ua F hr hb hd hx O r q]
theorem vf(he:PE X o ta)(c:Cls X.K C)(hm:nu X.K C m f)(F:Gd X.prog X.w X.K X.mg X.base CX k f fd ps sp)(hr:Gi X.base k X.A)(hb:Gq X.K fd ps ds)(hd:Ge dvs ds)(hx:dM CX X E)(ha:PA X (e::es) t)(hst:starEach (e::es) X.env=(false,eval e X.env)::starEach es X.env:=by rfl)(hpl:(backTo pos (starEach es X.env)).any (·.1)=false:=by rfl)(ht:eval (.Call (.Attribute o m apos) (e::es) [] pos) X.env=(do
   let ov <- eval o X.env
   standAt apos.atName
   let (f,first) <- holding [ov] (getMethod ov m pl)
   callWith pos f first (backTo pos (starEach (e::es) X.env)) (backToKw pos (keywordEach [] X.env))):=by rfl):
  PE X (.Call (.Attribute o m apos) (e::es) [] pos) (dW C m sp dvs E ta t):=by
 intros Q I h;erw[PySem.W.methodCall_KW (pl:=pl) (thn (he pins s σ H _ I h) λu s1 ⟨x,H1,O,rx,a,dx,fs,ex,Z,l,q⟩=>?_) ht]
 subst ex;obtain rfl:u=Value.ref a:=rx;erw[mf O Z c hm l ?_];erw[callWith_K (first:=[.ref a]) (h₀:=X.base) I.ok.mod.kin hm.kp (thn (ha pos pins s1 σ H1 _ O q) λus s2 ⟨vs,H2,U,r,q2⟩=>#[U.kIn,?_]) hst hpl]
 rwa[ua (us:=.ref a::us) (vs:=.ref a::vs) F hr hb hd hx U (.cons rfl r) q2]
theorem AR(he:PE X o ta)(c:Cls X.K C)(hm:nu X.K C m f)(F:Gd X.prog X.w X.K X.mg X.base CX k f fd ps sp)(hr:Gi X.base k X.A)(hb:Gq X.K fd ps ds)(hd:Ge dvs ds)(hx:dM CX X E)(ht:eval (.Call (.Attribute o m apos) [] [] pos) X.env=(do
   let ov <- eval o X.env
   standAt apos.atName
   let (f,first) <- holding [ov] (getMethod ov m pl)
   callWith pos f first (backTo pos (starEach [] X.env)) (backToKw pos (keywordEach [] X.env))):=by rfl):
  PE X (.Call (.Attribute o m apos) [] [] pos) (dW C m sp dvs E ta cQ):=by
 intros Q I h;erw[PySem.W.methodCall_KW (pl:=pl) (thn (he pins s σ H _ I h) λu s1 ⟨x,H1,O,Z,a,dx,fs,ex,U,l,q⟩=>?_) ht]
 subst ex;obtain rfl:u=Value.ref a:=Z;erw[mf O U c hm l ?_];rwa[PySem.W.callWith_K0 (first:=[.ref a]) O.kIn hm.kp (ua (us:=[.ref a]) (vs:=[.ref a]) F hr hb hd hx O (.cons rfl .nil) q)]
structure Mk (K:Frag) (C f:Addr):Prop where
 makes:makesIn K C=true
 init:findIn K (.ref C) "__init__"=some (some (.ref f))
 fn:isFn K (.ref f)=true
 kp:keepIn K (.ref C)=true
theorem yU{Q:VK}{vs:List V}(M:Mk X.K C f)(F:Gd X.prog X.w X.K X.mg X.base CX k f fd ps sp)(hr:Gi X.base (k+1) X.A)(hb:Gq X.K fd ps ds)(hd:Ge dvs ds)(hx:dM CX X E)(I:#[7,7])(r:Ge vs us)(h:∀x dx,H x=none->H dx=none->dx≠x->sp (.ref x::(vs++dvs)) (upd (upd H dx (.own x)) x (.ins C dx [])) (λv H2=>v=.non/\Q (.ref x) H2) E):
  wpAny #[7] X.A (call (.ref C) us) (EP X pins σ Q) X.xe s:=by
 have Z:=h (s.heap.objs.size+1) s.heap.objs.size (I.hok.fresh (Nat.le_succ _)) (I.hok.fresh (e_ _)) (F9 (Pt _));have U:=Inv.made (C:=C) I;have r2:Ge (V.ref (s.heap.objs.size+1)::(vs++dvs)) (Value.ref (s.heap.objs.size+1)::(us++ds)):=.cons rfl (r.append hd);have hl:(Value.ref (s.heap.objs.size+1)::us++ds).length=ps.length:=by
  have e:=r2.length;rw[F.len _ _ _ _ Z] at e;rwa[e.symm]
 erw[PV (yX (f:=f) I.kIn M.makes M.init (OS.mp M.fn) (Ox (F.run _ X.stack _ _ #[Value.ref (s.heap.objs.size+1)::us,[]] (Value.ref (s.heap.objs.size+1)::(us++ds)) _ _ E (hr.make C us [])
  (U.env0.make C us []) (hb _ (Value.ref (s.heap.objs.size+1)::us) U.kIn hl) r2 Z) λr s' O=>?_))]
 cases r with
 |error e=>rwa[hx pins σ _ _ e s' U O]
 |ok fl=>
  cases fl with
  |ret u=>
   let#[23,v,H',I3,rv,ev,q3]:=U.after O;subst ev;rwa[rv,#[22,V.ref (s.heap.objs.size+1),H',I3,1,q3]]
  |next=>rwa[False.elim O]
  |brk=>rwa[False.elim O]
  |cont=>rwa[False.elim O]
theorem uP(M:Mk X.K C f)(F:Gd X.prog X.w X.K X.mg X.base CX k f fd ps sp)(hr:Gi X.base (k+1) X.A)(hg:Gl X x)(hm:X.mg x=some (.ref C))(hb:Gq X.K fd ps ds)(hd:Ge dvs ds)(hx:dM CX X E)(ha:PA X (e::es) t)(hdb:(x==("__debug__" : Str))=false:=by decide)(he:starEach (e::es) X.env=(false,eval e X.env)::starEach es X.env:=by rfl)(hpl:(backTo pos (starEach es X.env)).any (·.1)=false:=by rfl):
  PE X (.Call (.Name x p) (e::es) [] pos) (vA C sp dvs E t):=by
 intros Q I h;erw[MG (dY I hg hm ?_ hdb)];erw[callWith_K (h₀:=X.base) I.ok.mod.kin M.kp (thn (ha pos pins s σ H _ I h) λus s1 ⟨vs,H1,O,r,q⟩=>#[O.kIn,?_]) he hpl]
 rwa[yU M F hr hb hd hx O r q]
end
def PK(X:Cx)(kws:List Keyword)(t:TA):Prop:=
 ∀(pos:Pos) (pins:List (Addr×Obj)) (s:Shared) (σ:St) (H:Hp) (Q:List V->Hp->Prop),#[7,7]->t σ H Q->wpAny #[7] X.A (evalAll ((backToKw pos (keywordEach kws X.env)).map (·.2))) (AP X pins σ Q) X.xe s
section
variable {k:Nat}{f:Addr}{ks:List Str}{E:XK}{m:Str}{apos kpos:Pos}{o:Expr}{kws:List Keyword}{t tk:TA}{nm:Option Str}
theorem Du:PK X [] cQ:=λ_ _ _ _ H Q I h=>wpAny_evalAll_nil #[22,[],H,I,.nil,h]
theorem vn(ha:PE X e te)(hr:PK X kws t):PK X (#[nm,e,kpos]::kws) (ci te t):=by
 intro pos pins s σ H Q I h;show wpAny _ _ (evalAll ((do let v <- eval e X.env;standAt pos;pure v)::(backToKw pos (keywordEach kws X.env)).map (·.2))) _ _ s
 erw[wpAny_evalAll_cons (c_ (thn (ha pins s σ H _ I h) λu s1 ⟨x,H1,O,r1,Z⟩=>c_ (N_ (f_ ?_))))]
 rwa[thn (hr pos pins s1 σ H1 _ O Z) λus s2 ⟨xs,H2,U,r2,q2⟩=>#[22,x::xs,H2,U,.cons r1 r2,q2]]
end
structure Gb (N P:List Str) (sc:Scope):Prop where
 kind:sc.kind=.function
 co:sc.isCoroutine=false
 gen:sc.isGenerator=false
 nd:N.Nodup
 pre:N.take P.length=P
 par:∀x∈P,sc.names.lookup x=some .local\/sc.names.lookup x=some .cell
 nofree:∀y∈sc.names,y.2≠.free
theorem oX:∀{binds:List (Str×Value)} {m:Str->Option Value},(∀v,(x,v)∉binds)->bindL kindOf binds m x=m x
 |[],_,_=>rfl
 |(n,v)::r,m,h=>by
  unfold bindL;rw[oX λw hw=>h w (I_ _ hw)]
  split
  ·have:x≠n:=by rintro rfl;rwa[h v LN]
   simp[this]
  ·rfl
theorem oN:∀{binds:List (Str×Value)} {m:Str->Option Value},(∀v,(x,v)∉binds)->bindC kindOf binds m x=m x
 |[],_,_=>rfl
 |(n,v)::r,m,h=>by
  unfold bindC;rw[oN λw hw=>h w (I_ _ hw)]
  split
  ·rfl
  ·have:x≠n:=by rintro rfl;rwa[h v LN]
   simp[this]
theorem ow{v:Value}:∀{P:List Str} {vs:List Value} {i:Nat} {m:Str->Option Value},P.Nodup->P[i]? = some x->vs[i]? = some v->kindOf x=some .local->
  bindL kindOf (P.zip vs) m x=some v
 |[],_,_,_,_,h,_,_=>by simp at h
 |_::_,[],_,_,_,_,h,_=>by simp at h
 |p::P,w::vs,0,m,nd,h1,h2,hk=>by
  simp at h1 h2;subst h1;subst h2;show bindL kindOf ((p,w)::P.zip vs) m p=_;unfold bindL;rw[oX λv O=>(P3.mp nd).1 (of_mem_zip O).1,C_ hk]
  simp
 |p::P,w::vs,i+1,m,nd,h1,h2,hk=>by
  show bindL kindOf ((p,w)::P.zip vs) m x=_;unfold bindL;rwa[ow (i:=i) (P3.mp nd).2 (by simpa using h1) (by simpa using h2) hk]
theorem pI{v:Value}:∀{P:List Str} {vs:List Value} {i:Nat} {m:Str->Option Value},P.Nodup->P[i]? = some x->vs[i]? = some v->kindOf x≠some .local->
  bindC kindOf (P.zip vs) m x=some v
 |[],_,_,_,_,h,_,_=>by simp at h
 |_::_,[],_,_,_,_,h,_=>by simp at h
 |p::P,w::vs,0,m,nd,h1,h2,hk=>by
  simp at h1 h2;subst h1;subst h2;show bindC kindOf ((p,w)::P.zip vs) m p=_;unfold bindC;rw[oN λv O=>(P3.mp nd).1 (of_mem_zip O).1,w_ hk]
  simp
 |p::P,w::vs,i+1,m,nd,h1,h2,hk=>by
  show bindC kindOf ((p,w)::P.zip vs) m x=_;unfold bindC;rwa[pI (i:=i) (P3.mp nd).2 (by simpa using h1) (by simpa using h2) hk]
def dX(N:List Str)(vs:List V):St:=vs.map some++List.replicate (N.length-vs.length) none
def dQ(CX:CXT)(P:Program)(w:World)(K:Frag)(mg:Str->Option Value)(base:Heap)(N:List Str)(qual:Str)(scope:Scope)(f:Addr)(cd:Value)(A:Around)(outer:List Env)(s:Shared)(H:Hp)(E:XK):Cx where
 prog:=P
 w:=w
 K:=K
 mg:=mg
 base:=base
 A:=A.deeper (envOfC qual scope s.heap.objs.size f cd)
 N:=N
 s₀:=s
 H₀:=H
 env:=envOfC qual scope s.heap.objs.size f cd
 outer:=outer
 stack:=envOfC qual scope s.heap.objs.size f cd::outer
 ex:=[]
 calm:=true
 fn:=λ_=>true
 pn:=[]
 xe:=λe s'=>wpAny (model P w) (A.deeper (envOfC qual scope s.heap.objs.size f cd)) (leaving (envOfC qual scope s.heap.objs.size f cd) e) (λ_ s''=>CX outer H s E e s'') (λe' s''=>CX outer H s E e' s'') s'
theorem rW{sc:Scope}(h:sc.names.lookup x=some .cell):∃c,(cellsFrom n sc.names []).lookup x=some c:=by
 have q:=PySem.W.cellsFrom_some sc.names n [] (.inl h);rwa[Option.isSome_iff_exists.mp q]
theorem oJ{w:World}{K:Frag}{mg:Str->Option Value}{base:Heap}{N:List Str}{f:Addr}{cd:Value}{A:Around}{outer:List Env}{s1:Shared}{E:XK}{vs:List V}(S:Gb N ps scope)(hd:HnB A base)(e0:`Env0 A outer s H)(hl:vs.length=ps.length)(r:Ge vs us)(x:InCallC s s.heap.objs.size (bindL (envOfC qual scope s.heap.objs.size f cd).kindOf (ps.zip us) λ_=>none) (cellsFrom (s.heap.objs.size+1) scope.names []) (bindC (envOfC qual scope s.heap.objs.size f cd).kindOf (ps.zip us) λ_=>none) s1):
  Inv (dQ CX P w K mg base N qual scope f cd A outer s H E) [] (dX N vs) H s1:=by
 have a2:ps.length<=N.length:=by have:=LD List.length S.pre;rw[MY] at this;lia
 let#[21,h1,tk,1,hk]:=x.done;have U:∀b:Addr,b∉(dQ CX P w K mg base N qual scope f cd A outer s H E).ex:=λb z=>absurd (show b∈([]:List Addr) from z) (by simp)
 erw[#[e0.mod,S.kind,1,1,e_ _,λy z c h1 h2=>?_,λy O=>?_,λy c _ h=>?_,λ_=>hd,Around.frames_deeper e0.frames,.inr #[1,1],λb z=>absurd z (U b),e0.bs,e0.bsz,λb _ _=>U b,λb z=>absurd z (U b),e0.funs,e0.frf],
  1,e0.bare,Un.kept hk,#[_,x.toInCall.ns,λi y v h1 h2 h3=>?_],λy c h=>#[_,x.cell y c h],e0.hok.fresh (e_ _),λy c h=>?_,λp Z=>absurd (show p∈([]:List (Addr×Obj)) from Z) (by simp),e0.hok.kept hk,?_]
 ·rwa[name_of_addr x.apart (PySem.mem_of_lookup h1) (PySem.mem_of_lookup h2)]
 ·have O:scope.names.lookup y=some .cell\/scope.names.lookup y=some .free:=O
  rcases O with O|O
  ·rwa[rW O]
  ·rwa[absurd rfl (S.nofree _ (PySem.mem_of_lookup O))]
 ·rwa[Nat.le_of_lt (x.above y c (PySem.mem_of_lookup h))]
 ·have hi:i<vs.length:=by
   unfold dX at h2
   by_cases hi:i<vs.length
   ·rwa[hi]
   ·rw[List.getElem?_append_right (by simpa using hi)] at h2
    rw[List.getElem?_replicate] at h2
    split at h2<;>cases h2
  have ha:vs[i]? = some v:=by
   unfold dX at h2;rw[Mh (by simpa using hi),Hx] at h2
   cases e:vs[i]? with
   |none=>rw[e] at h2;cases h2
   |some a=>rw[e] at h2;cases h2;rfl
  let#[u,hu,rv]:=r.get ha;have Z:ps[i]? = some y:=by
   rw[<- S.pre,List.getElem?_take_of_lt ()];rwa[h1]
  have a1:ps.Nodup:=by rw[<- S.pre];rwa[S.nd.sublist (List.take_sublist _ _)]
  erw[u,rv,?_]
  rcases S.par y (GY Z) with k|k
  ·rwa[.inl #[k,ow a1 Z hu k]]
  ·let#[c,e]:=rW (n:=s.heap.objs.size+1) k;erw[.inr #[.inl k,c,e,?_]];have q:=x.cell y c e;rw[pI a1 Z hu (by show scope.names.lookup y≠_;rw[k];decide)] at q
   rwa[q]
 ·rwa[e0.hok.fresh (Nat.le_of_lt (x.above y c (PySem.mem_of_lookup h)))]
 ·unfold dX;show _=N.length;rw[x_,z_,List.length_replicate];lia
theorem zM{w:World}{K:Frag}{mg:Str->Option Value}{base:Heap}{k:Nat}{f:Addr}{params:Arguments}{dV kV doc pm cdv ct oc:Value}{an od:Option Addr}{osl:Array (Option Value)}{N:List Str}(lk:K.lookup f=some #[oc,od,.func (fnOf name qual params body scope dV kV doc pm an cdv ct),osl])(hcd:codeIn K cdv qual=true)(S:Gb N ps scope)(len:∀vs H Q E,sp vs H Q E->vs.length=ps.length)(hbody:∀(A:Around) (outer:List Env) (s:Shared) (H:Hp) (vs:List V) (Q:VK) (E:XK),Gi base k (A.deeper (envOfC qual scope s.heap.objs.size f cdv))->sp vs H Q E->
   ∃t,PSs (dQ CX P w K mg base N qual scope f cdv A outer s H E) body t/\t { nx:=λ_ H'=>Q .non H',rt:=Q } (dX N vs) H):
  Gd P w K mg base CX (k+1) f (fnOf name qual params body scope dV kV doc pm an cdv ct) ps sp:=by
 erw[len,λA outer s H args us vs Q E hr Z hb r a1=>?_]
 have hl:=len _ _ _ _ a1;have KX:K.In s.heap:=Z.mod.kin.keeps λb o e=>(Z.bs b o e).1
 have a2:s.heap.NoLimit:=Z.mod.nolimit.keeps λb o e=>(Z.bs b o e).1
 have O:∀y∈ps.zip us,scope.names.lookup y.1=some .local\/(scope.names.lookup y.1=some .cell/\((cellsFrom (s.heap.objs.size+1) scope.names []).lookup y.1).isSome=true):=λ⟨n,v⟩ hy=>by
  rcases S.par n (of_mem_zip hy).1 with q|q
  ·rwa[.inl q]
  ·rwa[.inr #[q,PySem.W.cellsFrom_some _ _ _ (.inl q)]]
 erw[codeAny_call_function hr.depth (KX _ _ lk) rfl S.co S.gen rfl (PySem.W.codeRec_of KX hcd) (hb _ _ _ _ ?_)];erw[wpAny_newFunctionEnv_cells S.kind O λenv he s1 x=>?_]
 subst he;erw[a2.keeps x.toInCall.keep,codeAny_func ?_];let#[t,ht,hq]:=hbody A outer s H vs Q E (hr.deeper _) a1;have I:Inv (dQ CX P w K mg base N qual scope f cdv A outer s H E) [] (dX N vs) H s1:=oJ S hr.hd Z hl r x;erw[Mf (ht [] s1 (dX N vs) H _ I hq) (λfl s' U=>?_) λe s' U=>U]
 have fin:∀{σ':St} {H':Hp} {v:V} {u:Value},Inv (dQ CX P w K mg base N qual scope f cdv A outer s H E) [] σ' H' s'->Gf v u->Q v H'->CE outer P w H s Q u s':=
  λ{σ' H' v u} J rv q=>#[25,v,H',J.os,J.bare,J.base,J.hok,rv,q]
 cases fl with
 |ret u=>
  let#[32,v,σ',H',J,rv,q]:=U;rwa[fin J rv q]
 |next=>
  let#[21,σ',H',J,q]:=U;rwa[fin (v:=V.non) (u:=Value.none) J rfl q]
 |brk=>
  let#[21,_,_,_,q]:=U;rwa[False.elim q]
 |cont=>
  let#[21,_,_,_,q]:=U;rwa[False.elim q]
section
variable {t:TA}{id T:String}{r:List V->Hp->VK->Prop}
def tCB(r:List V->Hp->VK->Prop)(t:TA):TE:=λσ H Q=>t σ H λvs H1=>r vs H1 Q
theorem cJ(hc:cU X (.builtin id) r)(hg:Gl X x)(hm:X.mg x=none)(hv:bootBuiltins x=some (.builtin id))(ha:PA X (e::es) t)(hn:x≠"__name__":=by decide)(hdb:(x==("__debug__" : Str))=false:=by decide)(he:starEach (e::es) X.env=(false,eval e X.env)::starEach es X.env:=by rfl)(hpl:(backTo pos (starEach es X.env)).any (·.1)=false:=by rfl):PE X (.Call (.Name x p) (e::es) [] pos) (tCB r t):=by
 intros Q I h;erw[MG (eB I hg hm hv ?_ hn hdb)];rwa[PyProof.Rows.callWith_builtin1 (thn (ha pos pins s σ H _ I h) λus s1 ⟨vs,H1,O,Z,U⟩=>hc pins s1 σ H1 vs us Q O Z U) he hpl]
theorem cZ(hc:cU X (.type T) r)(hg:Gl X x)(hm:X.mg x=none)(hv:bootBuiltins x=some (.type T))(ha:PA X (e::es) t)(hn:x≠"__name__":=by decide)(hdb:(x==("__debug__" : Str))=false:=by decide)(he:starEach (e::es) X.env=(false,eval e X.env)::starEach es X.env:=by rfl)(hpl:(backTo pos (starEach es X.env)).any (·.1)=false:=by rfl):PE X (.Call (.Name x p) (e::es) [] pos) (tCB r t):=by
 intros Q I h;erw[MG (eB I hg hm hv ?_ hn hdb)];rwa[Mt (thn (ha pos pins s σ H _ I h) λus s1 ⟨vs,H1,O,Z,U⟩=>hc pins s1 σ H1 vs us Q O Z U) he hpl]
end
end L2
namespace HT
open PySem PyProof.Rows
variable {items:Array Value}{Q:Value->Shared->Prop}
def lexLt:List Int->List Int->Bool
 |[],[]=>false
 |[],_::_=>true
 |_::_,[]=>false
 |x::xs,y::ys=>if x=y then lexLt xs ys else decide (x<y)
theorem lexLt_cons(x y:Int)(xs ys:List Int):lexLt (x::xs) (y::ys)=if x=y then lexLt xs ys else decide (x<y):=rfl
theorem nq:lexLt [] []=false:=rfl
theorem mB(y:Int)(ys:List Int):lexLt [] (y::ys)=true:=rfl
theorem lR(x:Int)(xs:List Int):lexLt (x::xs) []=false:=rfl
theorem A4(A:Around)(s:Shared)(a:Int)(t:Tok)(c:Int)(u:Tok):∃e,SeqAt.EqAt A s (.int a t) (.int c u) e/\(e=true↔a=c):=
 #[(a==c),SeqAt.EqAt.int_int a t c u,by simp]
theorem Ao(A:Around)(s:Shared)(a:Int)(t:Tok)(c:Int)(u:Tok)(prog:Program)(w:World)(E:Value->Shared->Prop)(Q:Value->Shared->Prop)(h:Q (.bool (decide (a<c))) s):
  wpAny (model prog w) A (richCompare .Lt (.int a t) (.int c u)) Q E s:=
 (PyProof.Rows.lt_int h:wpAny (model prog w) A (compareOp .Lt (.int a t) (.int c u)) Q E s)
section
open PySem.SeqAt
open PySem.AutoSeq1 (wpAny_loadPart')
open PySem.MeetsSeq PySem.MeetsSeq2 PySem.MeetsSeq3
theorem nC(l b:Addr)(items items2:Array Value)(n n2:Nat)(dd dd2:Option Addr)(sl sl2:Array (Option Value))(ns ms:List Int)(hi:IntsAre items.toList ns)(hj:IntsAre items2.toList ms):
  Meets (Builtin.«tuple.__lt__» #[[.ref l,.ref b],[]])
   (λ_ R s=>s.heap.get? l=some { cls:=.type "tuple",dict:=dd,data:=.seq items n,slots:=sl }/\s.heap.get? b=some { cls:=.type "tuple",dict:=dd2,data:=.seq items2 n2,slots:=sl2 }/\
    R (.ok (.ret (.bool (lexLt ns ms)))) s):=
 .of_wp λprog w A R s h=>by
  let#[U,g,d,tk,os]:=s;let#[hl,hb,h]:=h;have f2:=AutoSeq1.sub_tuple_tuple;have z1:items.size=ns.length:=by rw[<- hi.length];simp
  have z2:items2.size=ms.length:=by rw[<- hj.length];simp
  wp_walk using wpAny_loadPart' hl,wpAny_loadPart' hb,wpAny_forIn_list _ (λrest b s'=>b.1=none/\s'=#[U,g,d,tk,os]/\∃(vs Z:List Value) (ns' ms':List Int),rest=vs.zip Z/\
   IntsAre vs ns'/\IntsAre Z ms'/\ns'.length+items2.size=ms'.length+items.size/\R (.ok (.ret (.bool (lexLt ns' ms')))) #[U,g,d,tk,os]) _
  case turn=>
   rintro⟨y,x⟩ rest b s' ⟨hb',rfl,vs,Z,ns',ms',hz,hvi,hwi,hlen,hR⟩;cases hvi with
   |nil=>rw[List.zip_nil_left] at hz;cases hz
   |cons a t hvi'=>
    cases hwi with
    |nil=>rw[List.zip_nil_right] at hz;cases hz
    |cons c u hwi'=>
     rw[List.zip_cons_cons] at hz;injection hz with hyx hrest
     injection hyx with hy hx
     subst hy hx;rw[lexLt_cons] at hR;simp only[Mn] at hlen;let#[e,he,O]:=A4 A.in1 #[U,g,d,tk,os] a t c u;erw[c_ (he prog w _ _ ?_)];cases e with
     |true=>
      rw[C_ (O.mp rfl)] at hR
      wp_walk
      rwa[0244,1,1,_,_,_,_,hrest,hvi',hwi',(),hR]
     |false=>
      rw[w_ (λq=>absurd (O.mpr q) G_)] at hR
      have a1:=Ao A.in1 #[U,g,d,tk,os] a t c u prog w
      wp_walk using a1
      rwa[0,by simpa using hR]
  case fin=>
   rintro⟨b1,b2⟩ s' ⟨hb',rfl,vs,Z,ns',ms',hz,hvi,hwi,hlen,hR⟩;simp only at hb';subst hb';have hv:lexLt ns' ms'=decide (items.size<items2.size):=by
    cases hvi with
    |nil=>
     cases hwi with
     |nil=>
      simp only[Qh] at hlen;rw[nq];exact(GN ()).symm
     |cons c u hw=>
      simp only[Qh,Mn] at hlen;rw[mB];exact(q_ ()).symm
    |cons a t hv=>
     cases hwi with
     |nil=>
      simp only[Qh,Mn] at hlen;rw[lR];exact(GN ()).symm
     |cons c u hw=>
      rw[List.zip_cons_cons] at hz;cases hz
   rw[hv] at hR
   wp_walk
   rwa[0,by simpa[Builtin.Tuple.tupleCompareSizes] using hR]
  case h=>
   rwa[0244,1,1,items.toList,items2.toList,ns,ms,1,hi,hj,(),h]
end
section
variable {prog:Program}{w:World}{A:Around}{E:Value->Shared->Prop}{s:Shared}
theorem lt_tupInts{l b:Addr}{items2:Array Value}{ns ms:List Int}(hl:IsTup s.heap l items)(hb:IsTup s.heap b items2)(hi:IntsAre items.toList ns)(hj:IntsAre items2.toList ms)(hu:A.units<cLine)(h:Q (.bool (lexLt ns ms)) s):wpAny (model prog w) A (compareOp .Lt (.ref l) (.ref b)) Q E s:=by
 let#[1210,#[cls,dd,data,sl],ho,hc,n,hd]:=id hl;let#[1210,#[a4,a2,a1,a3],Z,O,n2,U]:=id hb;simp only at hc hd O U;subst hc hd O U;rwa[richCompare_meets_room (op:=.Lt) #[_,ho,1] #[_,Z,1] PySem.F.slot_tuple_lt PySem.F.entry_tuple_lt (PySem.F.args_tuple_lt_2 _ _) (nC l b items items2 n n2 dd a2 sl a3 ns ms hi hj)
  #[ho,Z,show Value.bool (lexLt ns ms)≠Value.notImplemented/\Q (.bool (lexLt ns ms)) s from#[(λx=>nomatch x),h]] hu]
def sIx(n d:Nat):Option Int->Nat
 |none=>d
 |some v=>if v<0 then(v+(n:Int)).toNat else min v.toNat n
theorem DF(n d:Nat)(hd:d<=n)(o:Option Int):sIx n d o<=n:=by
 cases o with
 |none=>rwa[hd]
 |some v=>
  show(if v<0 then(v+(n:Int)).toNat else min v.toNat n)<=n
  by_cases O:v<0
  ·rw[C_ O];lia
  ·rw[w_ O];rwa[Nat.min_le_right _ _]
theorem vj(v:Int)(n d:Nat):(if v<0 then max (v+(n:Int)) 0 else min v (n:Int))=((sIx n d (some v):Nat):Int):=by
 show(if v<0 then max (v+(n:Int)) 0 else min v (n:Int))=(((if v<0 then(v+(n:Int)).toNat else min v.toNat n):Nat):Int)
 by_cases O:v<0
 ·simp only[C_ O];lia
 ·simp only[w_ O];lia
theorem ub(lo hi:Option Int)(n:Nat):Builtin.Slice.sliceAdjust lo hi 1 (n:Int)=(((sIx n 0 lo:Nat):Int),((sIx n n hi:Nat):Int)):=by
 have h1:¬((1:Int)<0):=()
 unfold Builtin.Slice.sliceAdjust;simp only[h1,OP];erw[N2 ?_ ?_]
 ·cases lo with
  |none=>rfl
  |some v=>rwa[vj v n 0]
 ·cases hi with
  |none=>rfl
  |some v=>rwa[vj v n n]
theorem uu(i j:Nat):Builtin.Slice.slicePlaces (i:Int) (j:Int) 1=j-i:=by
 unfold Builtin.Slice.slicePlaces;have h1:(1:Int)>0:=()
 simp only[h1,PX,Int.ediv_one]
 split<;>lia
theorem lW{v:Value}{o:Option Int}{Q:Option Int->Shared->Prop}(p:IsPart v o)(h:Q o s):wpAny (model prog w) A (Builtin.Slice.slicePartIndex v) Q E s:=by
 cases p with
 |none=>rwa[slicePart_none h]
 |int i t=>rwa[slicePart_int h]
theorem j4{sl:Addr}{vl vu:Value}{lo hi:Option Int}{n:Nat}{Q:Int×Int×Nat->Shared->Prop}(hs:s.heap.IsSliceOf sl vl vu .none)(pl:IsPart vl lo)(pu:IsPart vu hi)(h:Q (((sIx n 0 lo:Nat):Int),1,sIx n n hi-sIx n 0 lo) s):wpAny (model prog w) A (Builtin.Slice.sliceApplied (.ref sl) (pure (n:Int))) Q E s:=by
 let#[12,os,U,Z,O]:=id hs;unfold Builtin.Slice.sliceApplied Builtin.Slice.sliceFields;erw[c_ (c_ (Lq U O (x:=vl) rfl (c_ (Lq U O (x:=vu) rfl (c_ (Lq U O (x:=.none) rfl (f_ ?_)))))))];erw[c_ (slicePart_none ?_)];show wpAny _ _ (if ((1:Int)==0)=true then _ else _) _ _ s
 rw[w_ #[]]
 erw[c_ (lW pl (c_ (lW pu (c_ (f_ ?_)))))];show wpAny _ _ (match Builtin.Slice.sliceAdjust lo hi 1 (n:Int) with|(lo,hi)=>pure (lo,(1:Int),Builtin.Slice.slicePlaces lo hi 1)) _ _ s
 rw[ub lo hi n];show wpAny _ _ (pure (((sIx n 0 lo:Nat):Int),(1:Int),Builtin.Slice.slicePlaces ((sIx n 0 lo:Nat):Int) ((sIx n n hi:Nat):Int) 1)) _ _ s;rw[uu];rwa[f_ h]
theorem zU(xs:Array Value)(i k:Nat):((List.range k).filterMap λ(m:Nat)=>xs[((i:Int)+(m:Int)*1).toNat]?).toArray=((xs.toList.drop i).take k).toArray:=by
 have e:(λ(m:Nat)=>xs[((i:Int)+(m:Int)*1).toNat]?)=λm=>xs[i+m]?:=by
  funext m;have:((i:Int)+(m:Int)*1).toNat=i+m:=()
  rw[this]
 rw[e];have:=pick_run xs i k;rw[List.filterMap_map] at this;have e2:((λx=>xs[x]?) ∘ λx=>i+x)=λm=>xs[i+m]?:=rfl
 rw[e2] at this;rw[this]
theorem getItem_tuple_cut{t sl:Addr}{vl vu:Value}{lo hi:Option Int}(ht:IsTup s.heap t items)(hs:s.heap.IsSliceOf sl vl vu .none)(pl:IsPart vl lo)(pu:IsPart vu hi)(hw:¬(sIx items.size 0 lo=0/\sIx items.size items.size hi=items.size))(h:Q (.ref s.heap.objs.size) { s with heap:=s.heap.push { cls:=.type "tuple",data:=.seq ((items.toList.drop (sIx items.size 0 lo)).take (sIx items.size items.size hi-sIx items.size 0 lo)).toArray } })(hsz:items.size<=sizeLine):wpAny (model prog w) A (getItem (.ref t) (.ref sl)) Q E s:=by
 have O:sizeOk (.seq ((items.toList.drop (sIx items.size 0 lo)).take (sIx items.size items.size hi-sIx items.size 0 lo)).toArray):=by
  show((items.toList.drop (sIx items.size 0 lo)).take (sIx items.size items.size hi-sIx items.size 0 lo)).toArray.size<=sizeLine;rw[HC,MY,Qn,Md];lia
 have hj:sIx items.size items.size hi<=items.size:=DF _ _ (e_ _) hi;let#[12,os,a2,Z,a3]:=id hs;have U:s.TypeIs (.ref sl) "slice":=#[os,a2,Z];unfold getItem
 try with_reducible erw[Ls ?_]
 first|erw[c_ (f_ ?_)]|skip
 erw[c_ (wpAny_sequenceKey ht.typeIs #[] ?_)]
 erw[c_ (Lz (name:=Str.ofString "__getitem__") ht.typeIs PyProof.Rows.slot_tuple_getitem
  (Lv PyProof.Rows.slot_tuple_getitem ht.typeIs entry_tuple_getitem ?_ (args_tuple_getitem _ _)))]
 show wpAny _ _ (Builtin.Tuple.tupleItemsOf (.ref t) >>= _) _ _ s;erw[c_ (tupleItemsOf_ ht ?_)];erw[c_ (PY U ?_)];rw[C_ #[]]
 erw[c_ (j4 hs pl pu ?_)];have a1:¬((((sIx items.size 0 lo:Nat):Int)==0&&(1:Int)==1&&(sIx items.size items.size hi-sIx items.size 0 lo)==items.size)=true):=by
  intro q;rw[Lw,Lw] at q;have q1:((sIx items.size 0 lo:Nat):Int)=0:=eq_of_beq q.1.1;have q2:sIx items.size items.size hi-sIx items.size 0 lo=items.size:=eq_of_beq q.2;rwa[hw #[(),()]]
 show wpAny _ _ (if (((sIx items.size 0 lo:Nat):Int)==0&&(1:Int)==1&&(sIx items.size items.size hi-sIx items.size 0 lo)==items.size)=true then _ else _) _ _ s
 rw[w_ a1,zU]
 first
  |rwa[c_ (m:=Builtin.Tuple.tupleExact _) (HI (f_ #[0,f_ h]) O)]
  |rwa[c_ (m:=Builtin.Tuple.tupleExact _) (HI (c_ (f_ (f_ #[0,f_ h]))) O)]
  |rwa[c_ (c_ (m:=Builtin.Tuple.tupleExact _) (HI (f_ (f_ #[0,f_ h])) O))]
  |rwa[c_ (c_ (m:=Builtin.Tuple.tupleExact _) (HI (f_ #[0,f_ h]) O))]
end
end HT
namespace L2
open PySem PySem.Spec PyProof.Rows
variable {X:Cx}{e:Expr}{pos:Pos}{α:Type}{n j t':Nat}{pins:List (Addr×Obj)}{σ:St}{H:Hp}{s:Shared}{p:Addr}{xs:List V}{its its':List Value}{T:String}
abbrev TO:=St->Hp->(Option Int->Hp->Prop)->Prop
def PO(X:Cx)(e:Option Expr)(t:TO):Prop:=
 ∀(pins:List (Addr×Obj)) (s:Shared) (σ:St) (H:Hp) (Q:Option Int->Hp->Prop),#[7,7]->t σ H Q->
  wpAny #[7] X.A (evalPart e X.env) (λu s'=>∃o H',Inv X pins σ H' s'/\IsPart u o/\Q o H') X.xe s
def jl:TO:=λ_ H Q=>Q none H
def rG(t:TE):TO:=λσ H Q=>t σ H λx H1=>∃i,x=.int i/\Q (some i) H1
theorem iW{ns:List Int}:∀{us:List Value},Ge (ns.map V.int) us->IntsAre us ns:=by
 induction ns with
 |nil=>intro us r;rw[map_nil] at r;cases r;rwa[.nil]
 |cons n ns ih=>
  intro us r;rw[NF] at r;cases r with
  |cons r1 r2=>
   let#[t,e]:=r1;subst e;rwa[.cons n t (ih r2)]
section
variable {te:TE}{lo hi:Option Expr}{tl th:TO}{p2:Pos}
theorem bG:PO X none jl:=by
 intros Q I h;rw[evalPart_none];rwa[f_ #[22,none,H,I,.none,h]]
theorem kY(h:PE X e te):PO X (some e) (rG te):=by
 intros Q I hw;rw[evalPart_some];erw[thn (h pins s σ H _ I hw) λu s1 ⟨x,H1,O,Z,U⟩=>?_]
 let#[i,1,q]:=U;let#[t,1]:=Z;rwa[22,some i,H1,O,.int i t,q]
def SlR(X:Cx)(r:V->Option Int->Option Int->Hp->VK->Prop):Prop:=
 ∀(pins:List (Addr×Obj)) (s:Shared) (σ:St) (H:Hp) (x:V) (v vl vu:Value) (lo hi:Option Int) (sl:Addr) (Q:VK),#[7,7]->Gf x v->s.heap.IsSliceOf sl vl vu .none->IsPart vl lo->IsPart vu hi->r x lo hi H Q->
  ∃T id,typeLookup (.type T) "__getitem__" = pure (some (.builtin id))/\s.TypeIs v T/\wpAny #[7] X.A (getItem v (.ref sl)) (EP X pins σ Q) X.xe s
def tSl(r:V->Option Int->Option Int->Hp->VK->Prop)(te:TE)(tl th:TO):TE:=λσ H Q=>te σ H λx H1=>tl σ H1 λl H2=>th σ H2 λu H3=>r x l u H3 Q
theorem ji{r:V->Option Int->Option Int->Hp->VK->Prop}(hr:SlR X r)(he:PE X e te)(hl:PO X lo tl)(hu:PO X hi th):PE X (.Subscript e (.Slice lo hi none p2) pos) (tSl r te tl th):=by
 intros Q I h;erw[Subscript_ (thn (he pins s σ H _ I h) λv s1 ⟨x,H1,I1,r1,q1⟩=>?_)]
 erw[wpAny_Slice (thn (hl pins s1 σ H1 _ I1 q1) λU s2 ⟨l,H2,I2,pl,q2⟩=>thn (hu pins s2 σ H2 _ I2 q2) λZ O ⟨u,H3,I3,pu,q3⟩=>?_)]
 rw[evalPart_none];erw[f_ ?_];have I4:Inv X pins σ H3 { O with heap:=O.heap.push { cls:=.type "slice",data:=.fields #[8,U,Z,.none] } }:=I3.kept (t':=O.toks) λb ob q=>g_ _ q
 let#[22,T,id,hT,ht,hg]:=hr pins { O with heap:=O.heap.push { cls:=.type "slice",data:=.fields #[8,U,Z,.none] } } σ H3 x v U Z l u O.heap.objs.size Q I4 r1 (Heap.IsSliceOf.new ..) pl pu q3
 show wpAny #[7] X.A (subscriptTail e (.Slice lo hi none p2) v (.ref O.heap.objs.size)) (EP X pins σ Q) X.xe { O with heap:=O.heap.push { cls:=.type "slice",data:=.fields #[8,U,Z,.none] } }
 rwa[tail_any (ops:=[.ref O.heap.objs.size,v]) ht hT hg (by with_unfolding_all rfl)]
def i8(xs:List V)(lo hi:Option Int):List V:=(xs.drop (HT.sIx xs.length 0 lo)).take (HT.sIx xs.length xs.length hi-HT.sIx xs.length 0 lo)
theorem kJ(xs:List V)(lo hi:Option Int):(i8 xs lo hi).length<=xs.length:=by
 unfold i8;rw[MY,Qn];lia
def EY(K:Frag):V->Option Int->Option Int->Hp->VK->Prop:=λx lo hi H Q=>∃a xs,x=.ref a/\SqT K H a xs/\
 ¬(HT.sIx xs.length 0 lo=0/\HT.sIx xs.length xs.length hi=xs.length)/\∀p,H p=none->Q (.ref p) (upd H p (.tup (i8 xs lo hi)))
theorem Dz:SlR X (EY X.K):=by
 intros x v vl vu lo hi sl Q I rx hs pl pu h;let#[23,a,xs,1,hx,hw,q]:=h;cases rx;let#[12,its,r,U,Z]:=I.tuple hx;have O:its.toArray.size=xs.length:=by rw[HC];rwa[r.length.symm]
 erw[22,"tuple",_,PyProof.Rows.slot_tuple_getitem.lookup,U.typeIs,?_];erw[HT.getItem_tuple_cut U hs pl pu (by rw[O];rwa[hw]) ?_ (by rw[O];rwa[Z])]
 rw[O];erw[22,.ref s.heap.objs.size,_,I.laid (t':=s.toks) (o:=.tup (i8 xs lo hi)) (λb ob q=>g_ _ q) (e_ _) ?_,1,q _ (I.hok.fresh (e_ _))]
 rwa[Hb (kJ xs lo hi) Z,_,(r.drop (HT.sIx xs.length 0 lo)).take (HT.sIx xs.length xs.length hi-HT.sIx xs.length 0 lo),IsTup.new _ _]
end
def ixN(n:Nat)(i:Int):Option Nat:=if 0<=i then(if i<n then some i.toNat else none) else if -(n:Int)<=i then some (i+n).toNat else none
def atI(xs:List α)(i:Int):Option α:=(ixN xs.length i).bind λj=>xs[j]?
theorem vp{i:Int}(h:ixN n i=some j):seqIndex? i n=some j/\j<n/\-(n:Int)<=i/\i<n:=by
 unfold ixN at h
 by_cases h0:0<=i
 ·rw[C_ h0] at h
  by_cases h1:i<n
  ·rw[C_ h1] at h;have e:i.toNat=j:=Mc h;rwa[by rw[seqIndex_of h0 h1,e],(),(),h1]
  ·rw[w_ h1] at h;cases h
 ·rw[w_ h0] at h
  by_cases h1:-(n:Int)<=i
  ·rw[C_ h1] at h;have e:(i+n).toNat=j:=Mc h;rwa[by rw[seqIndex_neg () h1,e],(),h1,()]
  ·rw[w_ h1] at h;cases h
theorem uL{xs:List α}{i:Int}{v:α}(h:atI xs i=some v):∃j,seqIndex? i xs.length=some j/\xs[j]? = some v/\j<xs.length/\-(xs.length:Int)<=i/\i<xs.length:=by
 unfold atI at h;cases e:ixN xs.length i with
 |none=>rw[e] at h;cases h
 |some j=>
  rw[e] at h;let#[03,h1,h2,O,U]:=vp e;rwa[j,h1,h,h2,O,U]
theorem bN{xs:List α}{v:α}(h:xs[j]? = some v):atI xs (j:Int)=some v:=by
 have O:j<xs.length:=(y_.mp h).1;have e:ixN xs.length (j:Int)=some j:=by
  unfold ixN;rw[C_ (),C_ ()];simp
 unfold atI;rw[e];rwa[h]
def Bp(b:Expr):Prop:=∀o i,subscripted b false o i=operate [o,i] (getItem o i)
def IxR(X:Cx)(r:R2):Prop:=
 ∀(value slice:Expr) (pins:List (Addr×Obj)) (s:Shared) (σ:St) (H:Hp) (x y:V) (v u:Value) (Q:VK),#[7,7]->Gf x v->Gf y u->r x y H Q->
  subscripted slice false v u=operate [v,u] (getItem v u)->wpAny #[7] X.A (subscriptTail value slice v u) (EP X pins σ Q) X.xe s
def MtR(X:Cx)(id:String)(r:V->List V->Hp->VK->Prop):Prop:=
 ∀(pins:List (Addr×Obj)) (s:Shared) (σ:St) (H:Hp) (x:V) (xs:List V) (v:Value) (us:List Value) (Q:VK),#[7,7]->Gf x v->Ge xs us->r x xs H Q->
  wpAny #[7] X.A (call (.builtin id) (v::us)) (EP X pins σ Q) X.xe s
section
variable {a b:Expr}{ta tb:TE}
theorem aC{r:R2}(hr:IxR X r)(ha:PE X a ta)(hb:PE X b tb)(hs:Bp b):PE X (.Subscript a b pos) (tOp r ta tb):=by
 intros Q I h;rwa[Subscript_ (En ha hb I h λv u s2 x y H2 O U Z q=>hr a b pins s2 σ H2 x y v u Q O U Z q (hs _ _))]
def FJ(K:Frag):R2:=λx y H Q=>∃p xs i v,x=.ref p/\y=.int i/\SqL K H p xs/\atI xs i=some v/\Q v H
def FP(K:Frag):R2:=λx y H Q=>∃p xs i v,x=.ref p/\y=.int i/\SqT K H p xs/\atI xs i=some v/\Q v H
theorem BS:IxR X (FJ X.K):=by
 intro value Z pins s σ H x y v u Q I rx ry h hs;let#[44,p,xs,i,z,1,1,hq,he,q]:=h;cases rx;let#[t,1]:=ry;let#[12,its,r,pl,hz]:=I.list hq;let#[14,j,h1,h2,h3,h4,h5]:=uL he;let#[w,ew,U]:=r.get h2;have hl:=r.length;have hn:=pZ;have fin:EP X pins σ Q w s:=#[22,z,H,I,U,q]
 by_cases h0:0<=i
 ·have O:i.toNat=j:=by
   rw[seqIndex_of h0 h5] at h1;rwa[Mc h1]
  rwa[item_listR pl.isList h0 () (by rw[O];simpa using ew) fin hs]
 ·have O:(i+(its.toArray.size:Int)).toNat=j:=by
   rw[seqIndex_neg () h4] at h1
   rw[HC,<- hl];rwa[Mc h1]
  rwa[subscriptTail_builtinR (x:=w) pl.isList.typeIs slot_list_getitem.lookup
   (wpAny_getItem_list_neg (Q:=λr s'=>r=w/\EP X pins σ Q r s') pl.isList () (by rw[HC]<;>lia) () (by rw[O];simpa using ew) #[1,fin]) hs]
theorem Dq:IxR X (FP X.K):=by
 intro value U pins s σ H x y v u Q I rx ry h hs;let#[44,p,xs,i,z,1,1,hq,he,q]:=h;cases rx;let#[t,1]:=ry;let#[12,its,r,pl,hz]:=I.tuple hq;let#[14,j,h1,h2,h3,h4,h5]:=uL he;let#[w,Z,O]:=r.get h2;have hl:=r.length;have hn:=pZ;have fin:EP X pins σ Q w s:=#[22,z,H,I,O,q];rwa[subscriptTail_builtinR (x:=w) pl.typeIs slot_tuple_getitem.lookup
  (getItem_tuple (j:=j) (Q:=λr s'=>r=w/\EP X pins σ Q r s') pl () () (by rw[HC,<- hl];rwa[h1]) (by simpa using Z) #[1,fin]) hs]
theorem sV(its:List Value)(n j:Nat)(u:Value):Obj.mapSeq (·.setIfInBounds j u) { cls:=.type "list",data:=.seq its.toArray n }={ cls:=.type "list",data:=.seq (its.set j u).toArray n }:=by
 simp[Obj.mapSeq]
theorem Inv.lst(I:#[7,7])(h:H p=some (.lst xs)):
  ∃(its:List Value) (n:Nat),Ge xs its/\s.heap.get? p=some { cls:=.type "list",data:=.seq its.toArray n }/\xs.length<=sizeLine:=by
 let#[0121,z,its,n,r,e]:=I.hok p _ h;rwa[22,its,n,r,e,z]
theorem Inv.lstUpd{ys:List V}{n':Nat}{f:Obj->Obj}(I:#[7,7])(h:H p=some (.lst xs))(ho:s.heap.get? p=some { cls:=.type "list",data:=.seq its.toArray n })(hf:f { cls:=.type "list",data:=.seq its.toArray n }={ cls:=.type "list",data:=.seq its'.toArray n' })(r:Ge ys its')(hz:ys.length<=sizeLine)(t:Nat):
  Inv X pins σ (upd H p (.lst ys)) { s with heap:=s.heap.update p f,toks:=t }:=by
 have e:(s.heap.update p f).get? p=some { cls:=.type "list",data:=.seq its'.toArray n' }:=by
  rw[NC f ho (by rw[hf]<;>rfl),hf]
 erw[I.write (x:=p) (e:=p) (by rw[h];trivial) (.inl rfl) (λb u O q=>(NJ _ _ (Ne.symm O)).trans q) #[_,e] ?_]
 rwa[0121,hz,its',n',r,e]
def Fp:V->V->V->Hp->(Hp->Prop)->Prop:=λo i v H Q=>∃p xs k j,o=.ref p/\i=.int k/\H p=some (.lst xs)/\ixN xs.length k=some j/\Q (upd H p (.lst (xs.set j v)))
theorem lU:FW X Fp:=by
 intros o i v ov iv u Q I ro ri rv h;let#[44,p,xs,k,j,1,1,hp,hj,q]:=h;cases ro;let#[t,1]:=ri;let#[22,its,n,r,U,hz]:=I.lst hp;let#[03,h1,h2,h3,h4]:=vp hj;have O:=r.length;have hn:=pZ;have Z:Inv X pins σ (upd H p (.lst (xs.set j v))) { s with heap:=s.heap.update p (Obj.mapSeq (·.setIfInBounds j u)) }:=
  I.lstUpd hp U (sV its n j u) (r.set rv j) (by rw[List.length_set];rwa[hz]) s.toks
 by_cases h0:0<=k
 ·have hk:k.toNat=j:=by
   rw[seqIndex_of h0 h4] at h1;rwa[Mc h1]
  rwa[PySem.W.ki_setAt U h0 () (by rw[HC,<- O];rwa[h4]) (by rw[hk];rwa[_,Z,q])]
 ·have hk:(k+(its.toArray.size:Int)).toNat=j:=by
   rw[seqIndex_neg () h3] at h1
   rw[HC,<- O];rwa[Mc h1]
  rwa[PySem.W.ki_setBack U () (by rw[HC,<- O];rwa[h3]) () (by rw[hk];rwa[_,Z,q])]
theorem pU(lo hi:Option Int)(n:Nat):(sliceBounds lo hi none n).1=((HT.sIx n 0 lo:Nat):Int)/\(sliceBounds lo hi none n).2.1=((HT.sIx n n hi:Nat):Int)/\(sliceBounds lo hi none n).2.2=1:=by
 erw[?_,?_,1]
 ·cases lo with
  |none=>simp[sliceBounds,HT.sIx]
  |some i=>
   simp only[sliceBounds,HT.sIx,Option.getD_none,show(1:Int)>0 by decide,PX]
   by_cases h:i<0
   ·simp only[h,PX]<;>lia
   ·simp only[h,OP]<;>lia
 ·cases hi with
  |none=>simp[sliceBounds,HT.sIx]
  |some i=>
   simp only[sliceBounds,HT.sIx,Option.getD_none,show(1:Int)>0 by decide,PX]
   by_cases h:i<0
   ·simp only[h,PX]<;>lia
   ·simp only[h,OP]<;>lia
theorem nF(its:List Value)(lo hi:Option Int):slicePick its.toArray lo hi none=((its.drop (HT.sIx its.length 0 lo)).take (HT.sIx its.length its.length hi-HT.sIx its.length 0 lo)).toArray:=by
 let#[h1,h2,O]:=pU lo hi its.toArray.size;unfold slicePick;rw[h1,h2,O];simp only[sliceRange_one,pick_run,HC]<;>rfl
def wf(K:Frag):V->Option Int->Option Int->Hp->VK->Prop:=λx lo hi H Q=>∃a xs,x=.ref a/\SqL K H a xs/\∀p,H p=none->Q (.ref p) (upd H p (.lst (i8 xs lo hi)))
theorem BV:SlR X (wf X.K):=by
 intros x v vl vu lo hi sl Q I rx Z pl pu h;let#[22,a,xs,1,hx,q]:=h;cases rx;let#[12,its,r,U,hz]:=I.list hx;have O:=r.length;erw[22,"list",_,slot_list_getitem.lookup,U.isList.typeIs,?_];erw[wpAny_getItem_list_slice U.isList Z pl pu .none (by simp) ?_ (by rw[HC]<;>lia)]
 rw[nF,<- O];erw[22,.ref s.heap.objs.size,_,I.laid (t':=s.toks) (o:=.lst (i8 xs lo hi)) (λb ob q=>g_ _ q) (e_ _) ?_,1,q _ (I.hok.fresh (e_ _))]
 rwa[0121,Hb (kJ xs lo hi) hz,_,(0),(r.drop (HT.sIx xs.length 0 lo)).take (HT.sIx xs.length xs.length hi-HT.sIx xs.length 0 lo),A_ _ rfl]
theorem qt:cU X (.builtin "len") (λxs H Q=>∃p ys,xs=[.ref p]/\(SqL X.K H p ys\/SqT X.K H p ys)/\Q (.int ys.length) H):=by
 intros xs us Q I r h;let#[22,p,ys,1,U,q]:=h;let#[u,1,rx]:=eS r;cases rx;have hn:=pZ
 rcases U with U|U
 ·let#[12,its,Z,pl,hz]:=I.list U;have O:=Z.length;rwa[Calls.call_len_list pl.isList (by simp only[HC]<;>lia) #[22,.int ys.length,H,I.tok _,#[s.toks+1,by rw[HC,O]],q]]
 ·let#[12,its,Z,pl,hz]:=I.tuple U;have O:=Z.length;rwa[len_tuple pl (by simp only[HC]<;>lia) #[22,.int ys.length,H,I.tok _,#[s.toks+1,by rw[HC,O]],q]]
theorem qc:cU X (.type "list") (λxs H Q=>∃p ys,xs=[.ref p]/\(SqL X.K H p ys\/SqT X.K H p ys)/\∀l,H l=none->Q (.ref l) (upd H l (.lst ys))):=by
 intros xs us Q I r h;let#[22,p,ys,1,hq,q]:=h;let#[u,1,rx]:=eS r;cases rx;have fin:∀(its:List Value),Ge ys its->ys.length<=sizeLine->∀(h':Heap) (O:Nat),(∀b o',s.heap.get? b=some o'->h'.get? b=some o')->
   h'.get? s.heap.objs.size=some { cls:=.type "list",dict:=none,data:=.seq its.toArray O,slots:=#[8] }->EP X pins σ Q (.ref s.heap.objs.size) { s with heap:=h' }:=λits U hz h' O kp e=>
  #[22,.ref s.heap.objs.size,_,I.laid (t':=s.toks) kp (e_ _) (show Gg X.prog X.w _ h' _ (.lst ys) from#[0121,hz,its,O,U,e]),1,q _ (I.hok.fresh (e_ _))]
 rcases hq with hq|hq
 ·let#[12,its,U,pl,hz]:=I.list hq;have Z:=U.length;let#[1210,o,ho,hc,n,hd]:=pl.isList;rwa[call_list_seq p (.inl rfl) ho hc hd (λh' O kp e=>fin its U hz h' O kp e) (by simp only[HC]<;>lia)]
 ·let#[12,its,U,pl,hz]:=I.tuple hq;have Z:=U.length;let#[1210,o,ho,hc,n,hd]:=pl;rwa[call_list_seq p (.inr rfl) ho hc hd (λh' O kp e=>fin its U hz h' O kp e) (by simp only[HC]<;>lia)]
theorem nN:cU X (.type "tuple") (λxs H Q=>∃p ys,xs=[.ref p]/\((SqL X.K H p ys/\∀l,H l=none->Q (.ref l) (upd H l (.tup ys)))\/(SqT X.K H p ys/\Q (.ref p) H))):=by
 intros xs us Q I r h;let#[21,p,ys,1,h]:=h;let#[u,1,rx]:=eS r;cases rx
 rcases h with⟨hq,q⟩|⟨hq,q⟩
 ·let#[12,its,O,pl,hz]:=I.list hq;have Z:=O.length;erw[call_tuple_list pl.isList (λh' kp=>?_) (by simp only[HC]<;>lia)]
  have U:Inv X pins σ H { s with heap:=h' }:=I.kept (t':=s.toks) kp
  have I2:Inv X pins σ (upd H h'.objs.size (.tup ys)) { s with heap:=h'.push { cls:=.type "tuple",data:=.seq its.toArray } }:=
   U.laid (t':=s.toks) (λb o e=>g_ _ e) (e_ _) (show Gg X.prog X.w _ _ _ (.tup ys) from#[hz,its,O,IsTup.new _ _])
  rwa[22,.ref h'.objs.size,_,I2,1,q _ (U.hok.fresh (e_ _))]
 ·let#[12,its,O,pl,hz]:=I.tuple hq;rwa[call_tuple_same pl #[22,.ref p,H,I,1,q]]
def tyV(K:Frag)(T:String)(x:V)(H:Hp):Prop:=match x with
 |.str _=>T="str"
 |.int _=>T="int"
 |.ref p=>(T="list"/\∃xs,SqL K H p xs)\/(T="tuple"/\∃o,K.lookup p=some o/\o.cls=.type "tuple"/\o.dict=none) \/
   (T="dict"/\((∃kvs,H p=some (.dK kvs))\/∃kvs,H p=some (.dT kvs)))\/(T="set"/\∃S n,H p=some (.set S n))
 |_=>False
theorem zB{x:V}{v:Value}(I:#[7,7])(r:Gf x v)(ty:tyV X.K T x H):
  s.TypeIs v T/\∀a,v=.ref a->∃O,s.heap.get? a=some O/\O.dict=none:=by
 cases x with
 |str z=>
  let#[t,1]:=r;cases (show T="str" from ty)
  rwa[typeIs_str s z t,λ_ e=>nomatch e]
 |int i=>
  let#[t,1]:=r;cases (show T="int" from ty)
  rwa[typeIs_int s i t,λ_ e=>nomatch e]
 |ref p=>
  cases r
  rcases ty with⟨rfl,xs,hq⟩|⟨rfl,o,hk,hc,hd⟩|⟨rfl,hk⟩|⟨rfl,S,n,hk⟩
  ·let#[12,its,_,pl,_]:=I.list hq;erw[pl.isList.typeIs,λa e=>?_]
   cases e;let#[23,o,n,e,c,hd,_]:=pl;rwa[o,e,hd]
  ·erw[#[o,I.kIn p o hk,hc],λa e=>?_]
   cases e;rwa[o,I.kIn _ o hk,hd]
  ·have z:∃o,s.heap.get? p=some o/\o.ExactDict:=by
    rcases hk with⟨kvs,hk⟩|⟨kvs,hk⟩
    ·let#[0272,_,_,_,_,o,_,_,e,ex,_]:=I.hok p _ hk;rwa[o,e,ex]
    ·let#[0272,_,_,_,_,o,_,_,e,ex,_]:=I.hok p _ hk;rwa[o,e,ex]
   let#[o,e,ex]:=z;erw[#[o,e,ex.1],λa e2=>?_]
   cases e2;rwa[o,e,ex.2.1]
  ·let#[42,o,_,_,_,e,ex,_]:=I.hok p _ hk;erw[#[o,e,ex.1],λa e2=>?_]
   cases e2;rwa[o,e,ex.2.1]
 |_=>rwa[False.elim ty]
def FM(K:Frag)(T:String)(r:V->List V->Hp->VK->Prop)(to:TE):TE:=λσ H Q=>to σ H λx H1=>tyV K T x H1/\r x [] H1 Q
def tBM(K:Frag)(T:String)(r:V->List V->Hp->VK->Prop)(to:TE)(t:TA):TE:=λσ H Q=>to σ H λx H1=>tyV K T x H1/\t σ H1 λxs H2=>r x xs H2 Q
variable {o:Expr}{es:List Expr}{to:TE}{t:TA}{name:Str}{apos cpos:Pos}{id:String}{r:V->List V->Hp->VK->Prop}
theorem Em(pa:PlainAttrs T)(slot:Slot T name id)(hty:typeOf (.builtin id)=pure (.type "method_descriptor"))(hm:MtR X id r)(ho:PE X o to)(hbase:attributeBase o name X.env (eval o X.env)=eval o X.env:=by rfl)(hline:(apos.endLine==cpos.line)=true:=by rfl):PE X (.Call (.Attribute o name apos) [] [] cpos) (FM X.K T r to):=by
 intros Q I h;erw[wpAny_Call_method0_late hbase hline (thn (ho pins s σ H _ I h) λv s1 ⟨x,H1,O,U,ty,Z⟩=>?_)]
 let#[h1,h2]:=zB O U ty;rwa[25,T,id,pa,slot,hty,h1,h2,Calls.callWith_builtin rfl (PySem.evalArgs_none (hm pins s1 σ H1 x [] v [] Q O U .nil Z))]
theorem Ae(pa:PlainAttrs T)(slot:Slot T name id)(hty:typeOf (.builtin id)=pure (.type "method_descriptor"))(hm:MtR X id r)(ho:PE X o to)(ha:PA X (e::es) t)(hbase:attributeBase o name X.env (eval o X.env)=eval o X.env:=by rfl)(hfew:((backTo cpos (starEach (e::es) X.env)).all (λx=>!x.1)&&(backToKw cpos (keywordEach [] X.env)).all (λx=>x.1.isSome)
   && decide ((e::es).length+([]:List Keyword).length+(if ([]:List Keyword).isEmpty then 0 else 1)<30))=true:=by rfl)(hline:(apos.endLine==cpos.line)=true:=by rfl)(hs:starEach (e::es) X.env=(false,eval e X.env)::starEach es X.env:=by rfl)(hplain:(backTo cpos (starEach es X.env)).any (·.1)=false:=by rfl):
  PE X (.Call (.Attribute o name apos) (e::es) [] cpos) (tBM X.K T r to t):=by
 intros Q I h;erw[wpAny_Call_method_late hbase hfew hline rfl (thn (ho pins s σ H _ I h) λv s1 ⟨x,H1,O,Z,ty,q1⟩=>?_)]
 let#[h1,h2]:=zB O Z ty;erw[25,T,id,pa,slot,hty,h1,h2,?_];have U:=ha cpos pins s1 σ H1 _ O q1;rw[hs] at U ⊢;erw[Calls.callWith_builtin (by show(false || (backTo cpos (starEach es X.env)).any (·.1))=false;rw[hplain]<;>rfl) (Calls.evalArgs_plain ?_)]
 rwa[thn U λus s2 ⟨vs,H2,I2,r2,q2⟩=>hm pins s2 σ H2 x vs v us Q I2 Z r2 q2]
end
def MtM(X:Cx)(id:String)(r:V->List V->Hp->VK->Prop):Prop:=
 ∀(pins:List (Addr×Obj)) (s:Shared) (σ:St) (H:Hp) (x:V) (xs:List V) (v:Value) (us:List Value) (Q:VK),#[7,7]->Gf x v->Ge xs us->r x xs H Q->
  wpAny #[7] X.A (call (.builtin id) (v::us)) (EP X pins σ Q) X.xe s
theorem Ge.one:∀{x:V} {us:List Value},Ge [x] us->∃u,us=[u]/\Gf x u
 |_,_,.cons r .nil=>#[0,r]
theorem Ge.two:∀{x y:V} {us:List Value},Ge [x,y] us->∃u v,us=[u,v]/\Gf x u/\Gf y v
 |_,_,_,.cons r (.cons q .nil)=>#[22,_,0,r,q]
theorem Ge.reverse{us:List Value}(h:Ge xs us):Ge xs.reverse us.reverse:=by
 induction h with
 |nil=>rwa[.nil]
 |cons r t ih=>rw[reverse_cons,reverse_cons];rwa[Ge.append ih (.cons r .nil)]
section
variable {l b:Addr}{ys zs:List V}
theorem Inv.lset{f:Array Value->Array Value}(I:#[7,7])(hH:H l=some (.lst xs))(e:s.heap.get? l=some { cls:=.type "list",data:=.seq its.toArray n })(hf:f its.toArray=its'.toArray)(hv:Ge ys its')(hz:ys.length<=sizeLine):
  Inv X pins σ (upd H l (.lst ys)) { s with heap:=s.heap.update l (Obj.mapSeq f),toks:=t' }:=by
 have q:=PySem.IsL.update e f;rw[hf] at q;erw[I.write (x:=l) (e:=l) (by rw[hH];rwa[trivial]) (.inl rfl) (λZ u O U=>(NJ s.heap (Obj.mapSeq f) (Ne.symm O)).trans U) #[_,q] ?_]
 rwa[0121,hz,its',_,hv,q]
theorem Inv.lnew(I:#[7,7])(hv:Ge ys its)(hz:ys.length<=sizeLine):
  Inv X pins σ (upd H s.heap.objs.size (.lst ys)) { s with heap:=s.heap.push { cls:=.type "list",data:=.seq its.toArray },toks:=t' }:=
 I.laid (λ_ _ q=>g_ _ q) (e_ _) #[0121,hz,its,(0),hv,A_ _ rfl]
theorem Inv.fresh(I:#[7,7]):H s.heap.objs.size=none:=I.hok.fresh (e_ _)
theorem Inv.lstM(I:#[7,7])(hH:H l=some (.lst xs)):xs.length<=sizeLine/\∃(its:List Value) (n:Nat),Ge xs its/\xs.length=its.length/\s.heap.get? l=some { cls:=.type "list",data:=.seq its.toArray n }:=by
 let#[0121,z,its,n,r,e]:=I.hok l _ hH;rwa[0122,z,its,n,r,r.length,e]
theorem zO(h:n<=sizeLine):Builtin.List.listTooLong n=false:=by
 unfold Builtin.List.listTooLong;rwa[GN ()]
end
section
def vJ:V->List V->Hp->VK->Prop:=λx vs H Q=>∃l xs y,x=.ref l/\vs=[y]/\H l=some (.lst xs)/\xs.length<sizeLine/\Q .non (upd H l (.lst (xs++[y])))
theorem oB:MtM X "list.append" vJ:=by
 intros x vs v us Q I rx Z h;let#[34,l,xs,y,1,1,O,hz,q]:=h;cases rx;let#[u,1,U]:=Z.one;let#[0122,z,its,n,r,hl,e]:=I.lstM O;erw[call_meets F.slot_list_append #[_,e,1] F.entry_list_append (F.args_list_append_2 _ _) (PySem.list_append l its.toArray n u (by rw[HC];lia)) #[e,?_]]
 erw[22,.non,_,I.lset (its':=its++[u]) O e (by simp) (r.append (.cons U .nil)) ?_,1,q]
 rw[x_,He];lia
def vR:V->List V->Hp->VK->Prop:=λx vs H Q=>∃l b xs zs,x=.ref l/\vs=[.ref b]/\H l=some (.lst xs)/\H b=some (.lst zs)/\xs.length+zs.length<=sizeLine/\Q .non (upd H l (.lst (xs++zs)))
theorem xu:MtM X "list.extend" vR:=by
 intros x vs v us Q I rx rv h;let#[45,l,b,xs,zs,1,1,Z,hB,hz,q]:=h;cases rx;let#[u,1,ru]:=rv.one;cases ru;let#[0122,z,its,n,r,hl,e]:=I.lstM Z;let#[0122,z2,O,n2,r2,a1,e2]:=I.lstM hB;have hsz:its.toArray.size+O.toArray.size<=sizeLine:=by rw[HC,HC];lia
 have U:¬(!its.toArray.isEmpty&&Builtin.List.listTooLong (its.toArray.size+O.toArray.size))=true:=by
  rw[zO hsz,Bool.and_false];rwa[G_]
 erw[call_meets F.slot_list_extend #[_,e,1] F.entry_list_extend (F.args_list_extend_2 _ _)
  (AutoSeq1.list_extend_list_list_0 l its.toArray n b O.toArray n2 U (by rw[HC];lia) ()) #[e,e2,?_]]
 erw[22,.non,_,I.lset (its':=its++O) Z e (by simp) (r.append r2) ?_,1,q]
 rw[x_];lia
def yn:R2:=λx y H Q=>∃l b xs zs,x=.ref l/\y=.ref b/\H l=some (.lst xs)/\H b=some (.lst zs)/\xs.length+zs.length<=sizeLine/\∀p,H p=none->Q (.ref p) (upd H p (.lst (xs++zs)))
theorem bS:OpR X (binaryOp .Add) yn:=by
 intros x y v u Q I rx ry h;let#[45,l,b,xs,zs,1,1,hH,Z,hz,q]:=h;cases rx;cases ry;let#[0122,z,its,n,r,hl,e]:=I.lstM hH;let#[0122,z2,O,n2,r2,a1,e2]:=I.lstM Z;erw[PySem.P.add_list e e2 ?_ (by rw[HC,HC];lia)]
 have U:its.toArray++O.toArray=(its++O).toArray:=by simp
 rw[U];rwa[22,.ref _,_,I.lnew (t':=s.toks) (r.append r2) (by rw[x_];lia),1,q _ I.fresh]
end
end L2
namespace Att
open PySem PySem.W PySem.Calls PyProof.Rows
variable {P:Params}{h:Heap}{l:OpenLaw}{n:Nat}
theorem kQ:∀(ns:List Int) (vs:List Value),WellAll P h vs (ns.map WData.int)->IntsAre vs ns:=by
 intro ns
 induction ns with
 |nil=>
  intro vs w;rw[map_nil] at w;cases w;rwa[.nil]
 |cons n ns ih=>
  intro vs w;rw[NF] at w;cases w with
  |cons a b=>
   cases a;rwa[.cons _ _ (ih _ b)]
theorem xC(hn:l.most=some n){args:List WData}{vals:List Value}(hpre:l.row.toRowW.claim.pre args=true)(hwl:WellAll P h vals args):
  ∃a vs ns,vals=[Value.ref a]/\args=[WData.list (ns.map WData.int)]/\h.get? a=some { cls:=.type "list",data:=.seq vs.toArray }/\IntsAre vs ns/\ns.length<=n:=by
 have a1:WShape.hasAll [] args [.list .int]=true:=(pre_splitW hpre).1;have hc:l.pre.holds [] { args:=args }=true:=(pre_splitW hpre).2;let#[22,d,r,1,h1,h2]:=hasAllW_cons a1;obtain rfl:=hasAllW_nil h2;let#[xs,1,h3]:=hasW_list h1;let#[ns,1]:=items_int h3;have O:ns.length<=n:=by
  unfold OpenLaw.pre at hc;have U:(WTm.not (.lt (.lit (.int (n:Int))) (.len (.arg 0)))).holds [] { args:=[.list (ns.map .int)] }=true:=by
   have U:=(holds_andW hc).1;rw[hn] at U;rwa[U]
  have Z:=condW_of U (w_not (w_lt w_lit (w_len_list (w_arg rfl))));rw[z_] at Z;erw[Nat.le_of_not_lt λq=>?_]
  have q':(n:Int)<((ns.length:Nat):Int):=()
  first
   |(rw[q_ q'] at Z;rwa[absurd Z #[]])
   |(simp at Z;lia)
 cases hwl with
 |cons w1 w2=>
  cases w2;cases w1 with
  |list ho hall=>rwa[34,_,_,ns,1,1,ho,kQ ns _ hall,O]
theorem xD(l:OpenLaw)(args:List WData):l.row.toRowW.claim.post args (.bool true) args=true:=
 postW_of (r:=l.row.toRowW) (X:=(true==true))
  (show WShape.has [] (.bool true) .bool=true by first|rfl|decide|simp[WShape.has,WShape.arms,WShape.armsAll])
  (show(WTm.eq .res (.lit (.bool true))).value [] { args:=args,res:=some (.bool true),after:=args }=some (.bool (true==true)) from w_eq_bool (w_res rfl) w_lit) rfl
theorem attach_call{q:Program}{loose:List Str}{XP:(Str->Option Value)->Heap->Prop}{YP:World->Heap->Prop}{d:DefRec}(hn:l.most=some n)(hdf:d.params.defaults=[])(call:∀(w:World) (s₀ O:Shared) (mg mb:Str->Option Value) (Z:Addr) (o:Obj) (pm cd doc:Value) (a:Addr) (vs:List Value) (ns:List Int),
   Ground q loose [] XP w s₀ mg mb O.heap->YP w O.heap->
   O.heap.get? Z=some o->o.data=.func (docDef d.name d.params d.body d.scope pm cd doc)->O.heap.CodeRec cd d.name->mg d.name=some (.ref Z)->
   O.heap.get? a=some { cls:=.type "list",data:=.seq vs.toArray }->IntsAre vs ns->ns.length<=n->O.gens = #[8]->
   codeAny (model l.prog w) callerA (.call (.ref Z) #[[.ref a],[]]) (λr s'=>r=.ok (.ret (.bool true))/\OldK O.heap s'.heap/\s'.os=O.os/\AllBare s'.gens) O):
  WalkO q loose XP YP l.row.toRowW d [] (λf vs=>PySem.call f vs):=by
 intro w s₀ O mg mb G Y Z o pm cd doc dV kV ho hd a4 hD a5 hg args a8 as a3 a7 a' a6 a9;obtain rfl:dV=.none:=Dflts.none hD hdf;obtain rfl:kV=.none:=Dflts.noKw hD;let#[34,a,vs,ns,1,1,a2,U,a1]:=xC hn a3 a6;erw[enter_call (Ox (call w s₀ O mg mb Z o pm cd doc a vs ns G Y ho (fd_plain hd) a4 a5 a2 U a1 hg) λr s' hq=>?_)]
 let#[03,1,h2,h3,h4]:=hq;rwa[.inl #[34,.bool true,.bool true,[],1,λ_=>rfl,.bool true,xD l _,λ_=>#[List.Pairwise.nil,λ_ hm=>(nomatch hm)]],h2,h3,h4]
end Att
namespace L2
open PySem PySem.Spec PyProof.Rows
variable {P prog:Program}{w:World}{K:Frag}{mg:Str->Option Value}{a f l it z i1 i2 l1 l2 C:Addr}{x qual y cn:Str}{sp:Sp}{ns:List Int}{n k1 k2 ek:Nat}{X:Cx}{st:Stmt}{N ps:List Str}{pos ep p p2 apos:Pos}{A:Around}{B:Prop}{c:String}{H H' H0:Hp}{xs:List V}{s:Shared}{elt iter tg e e2:Expr}{ifs es:List Expr}{scope:Scope}{env:Env}{src:List (Option Nat)}{pins:List (Addr×Obj)}{σ σ0 rest:St}{g:TG}{tt:TT}{te te2:TE}{fp:List Addr}{J:It}{Q E:Value->Shared->Prop}{wi:TI}{h h':Heap}{ys items:Array Value}{t1 t2:Bool}{L:Life}{ta:TA}{D:gi}
theorem ku:∀{vs:List Value} {ns:List Int},IntsAre vs ns->Ge (ns.map V.int) vs
 |_,_,.nil=>.nil
 |_,_,.cons n t h=>.cons #[t,1] (ku h)
def Ew(H:Hp):Prop:=∀b,H b=none\/∃o xs,H b=some (.frz o (.lst xs))
theorem yF{mb:Str->Option Value}{CX:CXT}{k:Nat}{fa:Addr}{fd:FuncData}{s₁:Shared}{vs:List Value}(KX:K.In s₁.heap)(hns:s₁.heap.Ns mainGlobals mg)(U:s₁.heap.Ns builtinsNs mb)(hbb:∀x:Str,x≠"__name__"->mb x=bootBuiltins x)(hlim:s₁.heap.NoLimit)(hg:s₁.gens = #[8])(ha:s₁.heap.get? a=some { cls:=.type "list",data:=.seq vs.toArray })(hi:IntsAre vs ns)(hl:ns.length<=sizeLine)(hr:∀base:Heap,Gi base k callerA)(F:∀base:Heap,base.life={}->K.In base->base.Ns mainGlobals mg->`Gd CX k fa fd [x] sp)(hbind:∀(s:Shared) (u:Value),BindsTo s fd #[[u],[]] [(x,u)])(hsp:∀H:Hp,Ew H->SqL K H a (ns.map V.int)->sp [.ref a] H (λv _=>v=.bl true) λ_ _ _=>False)(hCX:∀H e s',CX [] H s₁ (λ_ _ _=>False) e s'->False):
  codeAny (model P w) callerA (.call (.ref fa) #[[.ref a],[]]) (λr s'=>r=.ok (.ret (.bool true))/\OldK s₁.heap s'.heap/\s'.os=s₁.os/\AllBare s'.gens) s₁:=by
 have rv:=ku hi;have a4:=hi.length;have a1:∀H:Hp,Ew H->SqL K H a (ns.map V.int)->HOk P w H s₁.heap->(∀b,H b≠none->b=a)->(H a≠none->K.lookup a=none)->
   codeAny (model P w) callerA (.call (.ref fa) #[[.ref a],[]]) (λr s'=>r=.ok (.ret (.bool true))/\OldK s₁.heap s'.heap/\s'.os=s₁.os/\AllBare s'.gens) s₁:=by
  intro H hO hS hok hA hK;have O:∀{b:Addr} {o:Obj},s₁.heap.get? b=some o->H b=none->(qr s₁.heap H).get? b=some o:=λe n=>Bc e n
  have a5:∀{b:Addr} {o:Obj} {es:Array DictEntry} {ep:Nat},s₁.heap.get? b=some o->o.data=.dict es ep->H b=none:=λ{b o es ep} e d=>by
   cases q:H b with
   |none=>rfl
   |some u=>
    have e':b=a:=hA b (by rw[q];simp)
    subst e';rw[ha] at e;cases e;have d':Data.seq vs.toArray _=Data.dict es ep:=d;cases d'
  have Z:∀{b:Addr} {m:Str->Option Value},s₁.heap.Ns b m->(qr s₁.heap H).Ns b m:=λ{b m} ⟨o,es,ep,e,d,r⟩=>#[32,o,es,ep,O e (a5 e d),d,r]
  have a2:K.In (qr s₁.heap H):=λb o e=>O (KX b o e) (by
   cases q:H b with
   |none=>rfl
   |some u=>
    have e':b=a:=hA b (by rw[q];simp)
    subst e';rw[hK (by rw[q];simp)] at e;cases e)
  have hM:Mod K mg (qr s₁.heap H):=#[a2,Z hns,#[mb,Z U,hbb],let ⟨mc,h1,h2⟩:=hlim;#[mc,Z h1,h2]]
  have e0:Env0 P w K mg (qr s₁.heap H) callerA [] s₁ H:=#[1,hM,λb o e=>B4 e,PU (wY _ _),trivial,λb U=>absurd (show b∈([]:List Addr) from U) (by simp),hok,.of_eq hg]
  erw[Ox ((F _ rfl a2 (Z hns)).run callerA [] s₁ H #[[.ref a],[]] [.ref a] [.ref a] _ _ (hr _) e0 (hbind s₁ (.ref a)) (.cons rfl .nil) (hsp H hO hS)) λr s' h=>?_]
  cases r with
  |error e=>exact(hCX H e s' h).elim
  |ok fl=>
   cases fl with
   |next=>rwa[False.elim h]
   |brk=>rwa[False.elim h]
   |cont=>rwa[False.elim h]
   |ret u=>
    let#[25,v,H',os,bare,un,a3,r',q]:=h;have q':v=.bl true:=q;subst q';obtain rfl:u=Value.bool true:=r';erw[1,OldK.of_keep λb o e=>?_,os,bare]
    cases q:H b with
    |none=>rwa[un.keep b o e q (by intro z;rwa[absurd (show b∈([]:List Addr) from z) (by simp)]) (by simp)]
    |some u=>
     rcases hO b with z|⟨ob,xs,z⟩
     ·rw[q] at z;cases z
     ·have z2:=un.frzs b ob _ z;let#[e1,_]:=hok b _ z;let#[e2,_]:=a3 b _ z2;rw[e] at e1;cases e1;rwa[e2]
 cases hk:K.lookup a with
 |some o=>
  have e:=KX a o hk;rw[ha] at e;cases e;erw[a1 (λ_=>none) (λ_=>.inl rfl) (.inr #[35,_,vs.toArray,_,hk,1,1,1,by rw[HC,a4];rwa[hl],by simpa using rv]) (λb u z=>by have z':(none:Option HO)=some u:=z;cases z') (λb z=>absurd rfl z) λz=>absurd rfl z]
 |none=>
  erw[a1 (λb=>if b=a then some (.frz { cls:=.type "list",data:=.seq vs.toArray } (.lst (ns.map V.int))) else none) (λb=>?_) (.inl (.inr #[{ cls:=.type "list",data:=.seq vs.toArray },C_ rfl])) (λb u z=>?_) (λb z=>?_) λ_=>hk]
  ·by_cases U:b=a
   ·rwa[.inr #[20,_,_,C_ U]]
   ·rwa[.inl (w_ U)]
  ·by_cases U:b=a
   ·have z':=(C_ U).symm.trans z;cases z';subst U;rwa[0221,ha,by rw[z_];rwa[hl],vs,_,rv,ha]
   ·have z':=(w_ U).symm.trans z;cases z'
  ·by_cases U:b=a
   ·rwa[U]
   ·rwa[absurd (w_ U) z]
theorem walk_of{l:PySem.W.OpenLaw}{k:Nat}{q:Program}{loose:List Str}{XP:(Str->Option Value)->Heap->Prop}{YP:World->Heap->Prop}{d:DefRec}{K:Params->Frag}{CX:World->CXT}{sp:World->Sp}(hn:l.most=some n)(hn2:n<=sizeLine)(hdf:d.params.defaults=[])(hr:∀base:Heap,Gi base k callerA)(hY:∀(w:World) (h:Heap),YP w h->(K w.params).In h)(F:∀(w:World) (mg:Str->Option Value) (fa:Addr) (h:Heap),(K w.params).In h->h.Ns mainGlobals mg->mg d.name=some (.ref fa)->
   ∃fd:FuncData,(∀(s:Shared) (u:Value),BindsTo s fd #[[u],[]] [(x,u)])/\
    ∀base:Heap,base.life={}->(K w.params).In base->base.Ns mainGlobals mg->Gd l.prog w (K w.params) mg base (CX w) k fa fd [x] (sp w))(hsp:∀(w:World) (H:Hp) (a:Addr) (ns:List Int),ns.length<=n->Ew H->SqL (K w.params) H a (ns.map V.int)->sp w [.ref a] H (λv _=>v=.bl true) λ_ _ _=>False)(hCX:∀(w:World) (H:Hp) (s:Shared) (e:Value) (s':Shared),CX w [] H s (λ_ _ _=>False) e s'->False):
  PySem.W.WalkO q loose XP YP l.row.toRowW d [] (λf vs=>PySem.call f vs):=by
 erw[Att.attach_call hn hdf λw s₀ s₁ mg mb fa o pm cd doc a vs ns G Y ho hd a2 a1 Z U O hg=>?_]
 have KX:=hY w _ Y;let#[fd,hb,hF]:=F w mg fa _ KX G.T.g a1;rwa[yF KX G.T.g G.T.b G.T.builtins G.T.nolimit hg Z U (Hb O hn2) hr hF hb (λH hO hS=>hsp w H a ns O hO hS) λH e s'=>hCX w H s₁ e s']
def inClass(s:Stmt)(j:Nat):Stmt:=match s with
 |.ClassDef _ _ _ body _ _ _ _ _ _ _=>body.getD j (.Pass #[(0),(0),(0),(0)])
 |_=>.Pass #[(0),(0),(0),(0)]
def bJ(s:Stmt):Arguments:=match s with
 |.FunctionDef _ a _ _ _ _ _ _ _ _=>a
 |_=>{ posonlyargs:=[],args:=[],vararg:=none,kwonlyargs:=[],kw_defaults:=[],kwarg:=none,defaults:=[] }
def aW(s:Stmt):List Stmt:=match s with
 |.FunctionDef _ _ b _ _ _ _ _ _ _=>b
 |_=>[]
def aj(s:Stmt):Scope:=match s with
 |.FunctionDef _ _ _ _ _ _ sc _ _ _=>sc
 |_=>{ kind:=.function,names:=[],isGenerator:=false,isCoroutine:=false }
abbrev CX0:CXT:=λ_ _ _ _ _ _=>False
abbrev E0:XK:=λ_ _ _=>False
theorem vd:dM CX0 X E0:=λ_ _ _ _ _ _ _ h=>h.elim
structure Fun (K:Frag) (x qual:Str) (st:Stmt) (f:Addr) (fd:FuncData):Prop where
 ex:∃(oc:Value) (od:Option Addr) (kV doc pm:Value) (an:Option Addr) (cdv ct:Value) (osl:Array (Option Value)),
  fd=fnOf x qual (bJ st) (aW st) (aj st) .none kV doc pm an cdv ct/\K.lookup f=some #[oc,od,.func fd,osl]/\codeIn K cdv qual=true
 kp:keepIn K (.ref f)=true
section
variable {base:Heap}
theorem Fun.ok{fd:FuncData}{k:Nat}(F:Fun K x qual st f fd)(S:Gb N ps (aj st))(len:∀vs H Q E,sp vs H Q E->vs.length=ps.length)(hbody:∀(cdv:Value) (A:Around) (outer:List Env) (s:Shared) (H:Hp) (vs:List V) (Q:VK) (E:XK),Gi base k (A.deeper (envOfC qual (aj st) s.heap.objs.size f cdv))->sp vs H Q E->
   ∃t,PSs (dQ CX0 P w K mg base N qual (aj st) f cdv A outer s H E).nox (aW st) t/\t { nx:=λ_ H'=>Q .non H',rt:=Q } (dX N vs) H):`Gd CX0 (k+1) f fd ps sp:=by
 let#[404012,oc,od,kV,doc,pm,an,cdv,ct,osl,1,lk,O]:=F.ex;erw[zM lk O S len λA outer s H vs Q E Z U=>?_]
 let#[t,h,q]:=hbody cdv A outer s H vs Q E Z U;rwa[t,h.nox,q]
theorem Fun.binds{fd:FuncData}(F:Fun K x qual st f fd)(h:∀(kV doc pm:Value) (an:Option Addr) (cdv ct:Value) (us:List Value),us.length=ps.length->bindArgs (fnOf x qual (bJ st) (aW st) (aj st) .none kV doc pm an cdv ct) #[us,[]]=pure (ps.zip us)):Gq K fd ps []:=by
 let#[404012,oc,od,kV,doc,pm,an,cdv,ct,osl,1,U,O]:=F.ex;rwa[.all (h kV doc pm an cdv ct)]
theorem Ac{oc:Value}{od an:Option Addr}{osl:Array (Option Value)}{kV doc pm cdv ct:Value}(l:K.lookup f=some #[oc,od,.func (fnOf x qual (bJ st) (aW st) (aj st) .none kV doc pm an cdv ct),osl])(c:codeIn K cdv qual=true)(k:keepIn K (.ref f)=true):Fun K x qual st f (fnOf x qual (bJ st) (aW st) (aj st) .none kV doc pm an cdv ct):=#[#[404012,oc,od,kV,doc,pm,an,cdv,ct,osl,1,l,c],k]
end
theorem jU(h:n<=1000):n<sizeLine:=Lk h #[]
section
theorem pv(i:Nat)(hN:X.N[i]? = some x:=by rfl)(hv:Vis X.env.scope x:=by first|rwa[Or.inl rfl]|rwa[Or.inr #[4]]|rwa[Or.inr (Or.inr rfl)])(hd:(x==("__debug__" : Str))=false:=by decide)(hcd:(x==("__classdict__" : Str))=false:=by decide):PE X (.Name x pos) (nQ i):=Ee hN hv hd hcd
end
theorem bO{A:Prop}(h:B):if false=true then A else B:=by
 rw[w_ G_];rwa[h]
theorem aU{A:Prop}(h:A):if true=true then A else B:=by
 rw[C_ rfl];rwa[h]
theorem bC{c A:Prop}[Decidable c](h1:c->A)(h2:¬c->B):if c then A else B:=by
 by_cases h:c
 ·rw[C_ h];rwa[h1 h]
 ·rw[w_ h];rwa[h2 h]
theorem vt{c A:Prop}[Decidable c](hc:c)(h:B):if (!decide c)=true then A else B:=by
 rw[q_ hc];rwa[bO h]
def Ga(H H':Hp):Prop:=∀b o,H b=some o->H' b=some o
theorem Ga.refl(H:Hp):Ga H H:=λ_ _ h=>h
theorem Ga.trans{H1 H2:Hp}(a:Ga H H1)(b:Ga H1 H2):Ga H H2:=λc o h=>b c o (a c o h)
theorem Ga.free(e:Ga H H')(h:H' l=Option.none):H l=Option.none:=by
 cases q:H l with
 |none=>rfl
 |some o=>
  rw[e l o q] at h;cases h
theorem Ga.seq(e:Ga H H')(h:SqL K H a xs):SqL K H' a xs:=by
 rcases h with(h|⟨o,h⟩)|h
 ·rwa[.inl (.inl (e _ _ h))]
 ·rwa[.inl (.inr #[o,e _ _ h])]
 ·rwa[.inr h]
section
variable {R:Result->Shared->Prop}
theorem pW{target:Expr}{it acc:Value}(I:Nat->Shared->Prop)(turn:∀n s,I n s->wpAny (model prog w) A (pyNext it) (λr Z=>match r with
   |none=>R (.ok .next) Z
   |some v=>wpAny (model prog w) A (letOwnedTupleGo target it v) (λ_ O=>wpAny (model prog w) A (assign target env v) (λ_ s₂=>
     wpAny (model prog w) A (forIn ifs true λc r=>if r=true then do let ok <- isTrue c env (eval c env);pure (ForInStep.yield ok) else pure (ForInStep.yield r)) (λok s₃=>
      if ok=true then wpAny (model prog w) A (eval elt env) (λx s₄=>
       wpAny (model prog w) A (call (.builtin "list.append") [acc,x]) (λ_ s₅=>∃m,m<n/\I m s₅) (λ_ _=>False) s₄) (λ_ _=>False) s₃
      else ∃m,m<n/\I m s₃) (λ_ _=>False) s₂) (λ_ _=>False) O) (λ_ _=>False) Z) (λ_ _=>False) s)(n:Nat)(h:I n s):
  codeAny (model prog w) A (.compLoop (.ListComp elt [#[target,iter,ifs,(0)]] scope pos) 0 it acc env) R s:=by
 erw[codeAny_loop rfl I (λn s hI=>?_) n h]
 show wpAny _ A ((compTurn (.ListComp elt [#[target,iter,ifs,(0)]] scope pos) 0 it acc env).onRaise (λx=>do noteFrame x env;theTreesLotGoes x)) _ _ s
 erw[wpAny_noted ?_];rw[compTurn_list];erw[c_ (N_ (c_ (Mf (turn n s hI) (λr Z h₁=>?_) λ_ _ h'=>h'.elim)))]
 cases r with
 |none=>rwa[f_ h₁]
 |some v=>
  erw[c_ (Mf h₁ (λ_ O U=>?_) λ_ _ h'=>h'.elim)]
  erw[c_ (Mf U (λ_ s₂ h₂=>c_ (Mf h₂ (λok s₃ h₃=>?_) λ_ _ h'=>h'.elim)) λ_ _ h'=>h'.elim)]
  cases ok with
  |false=>rwa[f_ #[1,h₃]]
  |true=>
   rwa[c_ (c_ (Mf h₃ (λx s₄ h₄=>c_ (Mf h₄ (λ_ s₅ h₅=>f_ (f_ #[1,h₅])) λ_ _ h'=>h'.elim)) λ_ _ h'=>h'.elim))]
end
def eQ(env:Env):List (Str×NameKind)->List (Str×Addr)->List (Str×Addr)
 |[],cs=>cs
 |(n,k)::r,cs=>eQ env r (if k == .free then(n,(env.cells.lookup n).getD 0)::cs else cs)
theorem mm{env:Env}:∀(l:List (Str×NameKind)) (cs:List (Str×Addr)),(∀x∈l,x.2=.free->∃c,env.cells.lookup x.1=some c)->
  (do let r <- forIn l cs (λ(x:Str×NameKind) (cs:List (Str×Addr))=>if (x.2 == .free)=true then do let a <- cellOf env x.1;pure (ForInStep.yield ((x.1,a)::cs)) else pure (ForInStep.yield cs));pure r:Sem (List (Str×Addr)))=pure (eQ env l cs)
 |[],cs,_=>rfl
 |(n,k)::r,cs,h=>by
  have ih:=λU=>mm (env:=env) r U λx hx=>h x (I_ _ hx)
  rw[forIn_cons];cases hk:(k==NameKind.free) with
  |false=>
   simp only[hk,M8,OP];show(do let r <- forIn r cs _;pure r:Sem _)=_
   rw[ih];simp only[eQ,hk,M8,OP]
  |true=>
   let#[c,O]:=h (n,k) LN (by simpa using hk)
   have Z:cellOf env n=pure c:=by unfold cellOf;simp only at O;rw[O]
   simp only[hk,PX,Z];show(do let r <- forIn r ((n,c)::cs) _;pure r:Sem _)=_
   rw[ih];simp only at O;simp only[eQ,hk,PX,O,Option.getD_some]
theorem l5(h:∀x∈scope.names,x.2=.free->∃c,env.cells.lookup x.1=some c):closureFor scope env=pure (eQ env scope.names []):=by
 have q:=mm scope.names [] h;unfold closureFor;rwa[LD (λ(m:Sem (List (Str×Addr)))=>m >>= pure) q]
theorem A7:∀(l:List (Str×NameKind)) (cs:List (Str×Addr)) (n:Str) (c:Addr),(∀x∈l,x.2=.free->∃c,env.cells.lookup x.1=some c)->
  (eQ env l cs).lookup n=some c->env.cells.lookup n=some c\/cs.lookup n=some c
 |[],cs,n,c,_,h=>.inr h
 |(m,k)::r,cs,n,c,hf,h=>by
  have O:=A7 r (if (k == .free)=true then(m,(env.cells.lookup m).getD 0)::cs else cs) n c (λx Z=>hf x (I_ _ Z)) h
  cases hk:(k==NameKind.free) with
  |false=>
   simp only[hk,M8,OP] at O;rwa[O]
  |true=>
   simp only[hk,PX] at O
   rcases O with O|O
   ·rwa[.inl O]
   ·cases Z:n==m with
    |true=>
     simp only[PJ,Z] at O;let#[c',U]:=hf (m,k) LN (by simpa using hk)
     simp only at U;rw[U] at O;have e:n=m:=by simpa using Z
     subst e;rwa[.inl (U.trans O)]
    |false=>
     simp only[PJ,Z] at O;rwa[.inr O]
theorem sg:∀(l:List (Str×NameKind)) (cs:List (Str×Addr)) (n:Str),(∃c,cs.lookup n=some c)->∃c,(eQ env l cs).lookup n=some c
 |[],cs,n,h=>h
 |(m,k)::r,cs,n,⟨c,h⟩=>by
  erw[sg r _ n ?_]
  by_cases hk:(k==NameKind.free)=true
  ·rw[C_ hk];cases hx:n==m with
   |true=>rwa[(env.cells.lookup m).getD 0,by simp only[PJ,hx]]
   |false=>rwa[c,by simp only[PJ,hx];rwa[h]]
  ·rw[w_ hk];rwa[c,h]
theorem p5:∀(l:List (Str×NameKind)) (cs:List (Str×Addr)) (n:Str),(n,NameKind.free)∈l->∃c,(eQ env l cs).lookup n=some c
 |[],_,_,h=>absurd h (by simp)
 |(m,k)::r,cs,n,h=>by
  rcases HB.mp h with e|e
  ·cases e;erw[sg r _ _ ?_];rwa[_,by simp[PJ];rfl]
  ·rwa[p5 r _ n e]
theorem eJ{env:Env}:∀(names:List (Str×NameKind)) (x:Str),
  (names.map λ(n,k)=>if (k==NameKind.free&&env.scope.kind == .function&&env.kindOf n==some .cell) then(n,NameKind.cell) else(n,k)).lookup x
   = (names.lookup x).map λk=>if (k==NameKind.free&&env.scope.kind == .function&&env.kindOf x==some .cell)=true then NameKind.cell else k
 |[],x=>rfl
 |(n,k)::r,x=>by
  have U:=eJ (env:=env) r x;show List.lookup x ((if (k==NameKind.free&&env.scope.kind == .function&&env.kindOf n==some .cell)=true then(n,NameKind.cell) else(n,k))::_)=_
  cases hx:x==n with
  |true=>
   have e:x=n:=by simpa using hx
   subst e
   by_cases O:(k==NameKind.free&&env.scope.kind == .function&&env.kindOf x==some .cell)=true
   ·rw[C_ O];simp only[PJ,hx,Option.map_some];rw[C_ O]
   ·rw[w_ O];simp only[PJ,hx,Option.map_some];rw[w_ O]
  |false=>
   by_cases O:(k==NameKind.free&&env.scope.kind == .function&&env.kindOf n==some .cell)=true
   ·rw[C_ O];simp only[PJ,hx];rwa[U]
   ·rw[w_ O];simp only[PJ,hx];rwa[U]
def p6(outer scope:Scope):Bool:=
 scope.kind == .function&&outer.kind == .function&&scope.names.all λx=>x.2 != .cell&&(x.2 != .local || scope.names.lookup x.1==some .local)&&(x.2 != .free || (outer.names.lookup x.1==some .cell || outer.names.lookup x.1==some .free))
def oZ(XN N:List Str)(src:List (Option Nat))(scope:Scope):Bool:=
 src.length==N.length&&(List.range N.length).all λi=>match src[i]?.join with
  |none=>true
  |some j=>N[i]? == XN[j]? && (N[i]?).any λx=>scope.names.lookup x==some .free
def cH(src:List (Option Nat))(σ:St):St:=src.map λo=>o.bind λj=>(σ[j]?).join
def cxC(X:Cx)(N:List Str)(scope:Scope)(s:Shared)(H:Hp)(ex:List Addr):Cx where
 prog:=X.prog
 w:=X.w
 K:=X.K
 mg:=X.mg
 base:=X.base
 A:=X.A
 N:=N
 s₀:=s
 H₀:=H
 env:=compEnvC scope (eQ X.env scope.names []) s.heap.objs.size X.env
 outer:=X.stack
 stack:=X.stack
 ex:=ex
 fn:=λ_=>false
 calm:=X.calm
 pn:=[]
 xe:=λ_ _=>False
structure Gy (X:Cx) (scope:Scope):Prop where
 kind:scope.kind=.function
 nocell:∀x∈scope.names,x.2≠.cell
 names:∀x∈scope.names,x.2=.local->scope.names.lookup x.1=some .local
 free:∀x∈scope.names,x.2=.free->X.env.kindOf x.1=some .cell\/X.env.kindOf x.1=some .free
theorem pB(h:p6 X.env.scope scope=true):Gy X scope:=by
 unfold p6 at h;simp only[Lw,OS,Q8,Bool.or_eq_true,bne_iff_ne] at h;let#[#[h1,_],h2]:=h;erw[h1,λx O=>(h2 x O).1.1,λx O e=>?_,λx O e=>?_]
 ·rcases(h2 x O).1.2 with z|z
  ·rwa[absurd e z]
  ·rwa[z]
 ·rcases(h2 x O).2 with z|z
  ·rwa[absurd e z]
  ·rwa[z]
theorem Gy.cells(f:Gy X scope)(ok:X.Ok):∀x∈scope.names,x.2=.free->∃c,X.env.cells.lookup x.1=some c:=λx O e=>ok.has x.1 (f.free x O e)
theorem Gy.cl(f:Gy X scope)(ok:X.Ok){n:Str}{c:Addr}(h:(eQ X.env scope.names []).lookup n=some c):X.env.cells.lookup n=some c:=by
 rcases A7 _ _ _ _ (f.cells ok) h with z|z
 ·rwa[z]
 ·cases z
theorem Gy.kf(f:Gy X scope)(h:(relabel scope X.env).names.lookup x=some .cell\/(relabel scope X.env).names.lookup x=some .free):scope.names.lookup x=some .free:=by
 unfold relabel at h;simp only at h;rw[eJ] at h;cases e:scope.names.lookup x with
 |none=>rw[e] at h;rcases h with z|z<;>cases z
 |some k=>
  rw[e] at h;simp only[Option.map_some,NO] at h;cases k with
  |free=>rfl
  |cell=>rwa[absurd rfl (f.nocell _ (PySem.mem_of_lookup e))]
  |_=>simp at h
theorem Gy.fk(h:scope.names.lookup x=some .free):(relabel scope X.env).names.lookup x=some .cell\/(relabel scope X.env).names.lookup x=some .free:=by
 unfold relabel;simp only;rw[eJ,h];simp only[Option.map_some,NO]
 split
 ·rwa[.inl rfl]
 ·rwa[.inr rfl]
theorem zf{XN:List Str}(h:oZ XN N src scope=true):src.length=N.length/\∀(i:Nat) (x:Str) (j:Nat),N[i]? = some x->src[i]? = some (some j)->XN[j]? = some x/\scope.names.lookup x=some .free:=by
 unfold oZ at h;simp only[Lw,OS,Q8] at h;erw[h.1,λi x j h1 h2=>?_]
 have hi:i<N.length:=(y_.mp h1).1;have q:=h.2 i (M_.mpr hi);rw[h2,h1] at q;simp only[Option.join_some,Lw,OS,Option.any_some] at q;rwa[q.1.symm,q.2]
section
theorem sP{ex:List Addr}{h1:Heap}{m:Str->Option Value}{tk:Nat}(I:#[7,7])(f:Gy X scope)(hsrc:oZ X.N N src scope=true)(hex:∀b∈ex,b<s.heap.objs.size/\b≠X.env.locals/\b∉X.fs/\(∀x c,X.env.cells.lookup x=some c->c≠b)/\∀o,X.base.get? b≠some o)(hn:h1.Ns s.heap.objs.size m)(hk:∀b o,s.heap.get? b=some o->h1.get? b=some o):
  Inv (cxC X N scope s H ex) [] (cH src σ) H { s with heap:=h1,toks:=tk }:=by
 let#[a2,a6]:=zf hsrc;have ok:=I.ok;have U:∀x c,(eQ X.env scope.names []).lookup x=some c->∃v,s.heap.IsCell c v:=λx c e=>I.cell x c (f.cl ok e)
 have a3:∀x c,(eQ X.env scope.names []).lookup x=some c->c<s.heap.objs.size:=λx c e=>by
  let#[21,v,o,ho,_]:=U x c e;rwa[Hl ho]
 have a4:∀b∈frs X.stack,b∈X.env.locals::X.fs:=I.stkSub
 erw[#[ok.mod,f.kind,ok.glob,ok.blt,e_ _,λx y c h1 h2=>ok.inj x y c (f.cl ok h1) (f.cl ok h2),λx hx=>?_,λx c hx=>?_,ok.hd,ok.frames,.inl rfl,λb Z=>#[F9 (hex b Z).1,λx c e=>(hex b Z).2.2.2.1 x c (f.cl ok e)],I.bs,Hb ok.bsz I.sz,λb o e Z=>(hex b Z).2.2.2.2 o e,λb Z a5=>?_,I.stack,I.stkFree],
  1,I.bare,Un.kept hk,#[m,hn,λi x v e1 e2 e3=>?_],λx c e=>?_,I.hok.fresh (e_ _),λx c e=>I.freeC x c (f.cl ok e),λp hp=>absurd (show p∈([]:List (Addr×Obj)) from hp) (by simp),I.hok.kept hk,?_]
 ·rwa[p5 _ _ _ (PySem.mem_of_lookup (f.kf hx))]
 ·cases hx
 ·rcases HB.mp (a4 b a5) with z|z
  ·exact(hex b Z).2.1 z
  ·exact(hex b Z).2.2.1 z
 ·have O:(cH src σ)[i]? = some (some v):=e2;unfold cH at O;rw[Hx] at O;cases hs:src[i]? with
  |none=>rw[hs] at O;cases O
  |some o=>
   rw[hs] at O;cases o with
   |none=>cases O
   |some j=>
    let#[q1,q2]:=a6 i x j e1 hs;have e4:σ[j]? = some (some v):=by
     simp only[Option.map_some,Option.bind_some,NO] at O;cases z:σ[j]? with
     |none=>rw[z] at O;cases O
     |some o=>rw[z] at O;simp only[Option.join_some] at O;rw[O]
    have kx:=f.free (x,.free) (PySem.mem_of_lookup q2) rfl;let#[mX,a7,hl]:=I.loc;let#[u,r,l]:=hl j x v q1 e4 (by rcases kx with z|z;rwa[.inr (.inl z)];rwa[.inr (.inr z)])
    erw[u,r,.inr #[Gy.fk (X:=X) q2,?_]]
    rcases l with⟨l,_⟩|⟨_,c,ec,ic⟩
    ·rcases kx with z|z
     ·rw[z] at l;cases l
     ·rw[z] at l;cases l
    ·let#[c',a1]:=p5 (env:=X.env) scope.names [] x (PySem.mem_of_lookup q2);have z:=f.cl ok a1;rw[ec] at z;cases z;let#[oc,ho,hd]:=ic;rwa[51,c,a1,oc,hk c oc ho,hd]
 ·let#[21,v,o,ho,hd]:=U x c e;rwa[21,v,o,hk c o ho,hd]
 ·show(cH src σ).length=N.length;unfold cH;rw[z_];rwa[a2]
def PIf(X:Cx)(ifs:List Expr)(t:TT):Prop:=
 ∀(pins:List (Addr×Obj)) (s:Shared) (σ:St) (H:Hp) (Q:Bool->Hp->Prop),#[7,7]->t σ H Q->
  wpAny #[7] X.A (forIn ifs true λc r=>if r=true then do let ok <- isTrue c X.env (eval c X.env);pure (ForInStep.yield ok) else pure (ForInStep.yield r)) (TP X pins σ Q) X.xe s
def kO:TT:=λ_ H Q=>Q true H
theorem aO:PIf X [] kO:=λpins s σ H Q I h=>f_ #[H,I,h]
theorem eR{c:Expr}{t:TT}(hc:PT X c t):PIf X [c] t:=by
 intros Q I h;rw[forIn_cons];simp only[PX];erw[c_ (c_ (thn (hc pins s σ H Q I h) λb s1 q=>f_ ?_))]
 rwa[f_ q]
def bZ(J:It)(src:List (Option Nat))(g:TG)(tt:TT)(te:TE)(σ:St)(H1:Hp)(Q:VK):Prop:=∀acc,H1 acc=none->
 ∃W:Nat->Nat->St->Hp->Prop,(∃m,W 0 m (cH src σ) (upd H1 acc (.lst [])))/\∀i m σ H,W i m σ H->
  (J.stop i H/\Q (.ref acc) H)\/(J.go i H/\∃N:St->Hp->Prop,(∀σ' H',N σ' H'->∃m',m'<m/\W (i+1) m' σ' H')/\∀x H',J.yld i H x H'->g x σ H' λσ2 H2=>tt σ2 H2 λb H3=>
   if b=true then te σ2 H3 λy H4=>∃ys,H4 acc=some (.lst ys)/\ys.length<sizeLine/\N σ2 (upd H4 acc (.lst (ys++[y]))) else N σ2 H3)
def CQ(src:List (Option Nat))(wi:TI)(g:TG)(tt:TT)(te:TE):TE:=λσ H Q=>wi σ H λJ H1=>bZ J src g tt te σ H1 Q
theorem rZ(use:Option (Value->Sem Unit))(PQ:Value->Shared->Prop)(E:Value->Shared->Prop)(hcalm:X.calm=true)(f:Gy X scope)(hsrc:oZ X.N N src scope=true)(O:∀(s:Shared) (H:Hp) (ex:List Addr),PG (cxC X N scope s H ex) tg g/\PIf (cxC X N scope s H ex) ifs tt/\PE (cxC X N scope s H ex) elt te){tn:Nat->Heap->Prop}(I:#[7,7])(T:my X.prog X.w X.K X.base.life tg J fp it tn)(st:tn 0 s.heap)(hf:∀b∈fp,gE X pins H b){Q:VK}(h:bZ J src g tt te σ H Q)(hfin:∀(acc C:Addr) (s':Shared) (H':Hp) (m:Str->Option Value),s'.heap.Ns C m->gE X pins H' C->(∀h',Heap.SameBut C s'.heap h'->Inv X pins σ H' { s' with heap:=h' })->Q (.ref acc) H'->compPost #[7] X.A E use PQ (.ref acc) C (.ok .next) s'):
  wpAny #[7] X.A (newList []) (λacc s₃=>
   wpAny #[7] X.A (newFunctionEnv scope X.env.globals (eQ X.env scope.names []) [] X.env.qual none .none (some X.env)) (λa2 s₄=>
    codeAny #[7] X.A (.compStart (.ListComp elt [#[tg,iter,ifs,(0)]] scope pos) 0 (.ref it) acc { a2 with scope:=relabel scope X.env }) (compPost #[7] X.A E use PQ acc a2.locals) s₄) E s₃) E s:=by
 have ok:=I.ok;have I3:Inv X pins σ (upd H s.heap.objs.size (.lst [])) { s with heap:=s.heap.push { cls:=.type "list",data:=.seq ([]:List Value).toArray },toks:=s.toks }:=I.lnew (ys:=[]) (its:=[]) .nil (Hj _)
 let#[W,#[m0,w0],turn]:=h s.heap.objs.size (I.hok.fresh (e_ _));erw[HI (wpAny_newFunctionEnv f.nocell (by intro y hy;simp at hy) (λh₁ a3 a4=>?_) f.kind)]
 dsimp only at a3 a4 ⊢;generalize hs3:({ s with heap:=s.heap.push { cls:=.type "list",data:=.seq ([]:List Value).toArray },toks:=s.toks }:Shared)=U at I3
 have e3:U.heap=s.heap.push { cls:=.type "list",data:=.seq ([]:List Value).toArray }:=by rw[<- hs3]
 have hk:∀b o,U.heap.get? b=some o->h₁.get? b=some o:=λb o e=>by
  rw[e3] at e;rwa[a4.extBut b o (F9 (Hl e)) (g_ _ e)]
 have a8:∀b o,s.heap.get? b=some o->U.heap.get? b=some o:=λb o e=>by rw[e3];rwa[g_ _ e]
 have b3:∀b∈fp,b≠s.heap.objs.size:=λb O z=>by
  let#[o,e,_]:=T.obj 0 _ st b O;rwa[absurd (Hl e) (by rw[z];rwa[ME _])]
 have av:∀b∈fp,b<U.heap.objs.size/\b≠X.env.locals/\b∉X.fs/\(∀x c,X.env.cells.lookup x=some c->c≠b)/\∀o,X.base.get? b≠some o:=λb O=>by
  let#[o,e,_]:=T.obj 0 _ st b O;let#[05,f0,f1,f2,f3,f4,f5]:=hf b O;erw[Hl (a8 b o e),f1,f2,f4,λo' z=>?_]
  rcases f3 with q|q
  ·rwa[ok.noex b o' z q]
  ·rwa[absurd (Hh (Hl (ok.bs b o' z).1) q) (ME _)]
 have a6:h₁.Ns U.heap.objs.size (λx=>([]:List (Str×Value)).reverse.lookup x):=by rw[e3];rwa[a3]
 have ac:Inv (cxC X N scope U (upd H s.heap.objs.size (.lst [])) fp) [] (cH src σ) (upd H s.heap.objs.size (.lst [])) { U with heap:=h₁,toks:=s.toks+([]:List (Str×Value)).length }:=
  sP (tk:=s.toks+([]:List (Str×Value)).length) I3 f hsrc av a6 hk
 generalize hY:cxC X N scope U (upd H s.heap.objs.size (.lst [])) fp=Y at ac;have bd:PG Y tg g/\PIf Y ifs tt/\PE Y elt te:=by rw[<- hY];rwa[O U _ fp]
 let#[hg,ht,he]:=bd;have Yp:Y.prog=X.prog:=by rw[<- hY];rfl
 have Yw:Y.w=X.w:=by rw[<- hY];rfl
 have YK:Y.K=X.K:=by rw[<- hY];rfl
 have YA:Y.A=X.A:=by rw[<- hY];rfl
 have Yl:Y.base.life=X.base.life:=by rw[<- hY];rfl
 have Yc:Y.calm=true:=by rw[<- hY];rwa[hcalm]
 have Yx:Y.xe=λ_ _=>False:=by rw[<- hY];rfl
 have Ye:Y.env=compEnvC scope (eQ X.env scope.names []) U.heap.objs.size X.env:=by rw[<- hY];rfl
 have Ys:Y.s₀=U:=by rw[<- hY];rfl
 have YH:Y.H₀=upd H s.heap.objs.size (.lst []):=by rw[<- hY];rfl
 have Yf:Y.fs=frs X.stack:=by rw[<- hY];rfl
 have ad:Y.ex=fp:=by rw[<- hY];rfl
 have b8:Y.pn=[]:=by rw[<- hY];rfl
 have a1:∀{H':Hp},(∀b∈fp,H' b=none)->∀b∈fp,gE Y [] H' b:=λ{H'} hn b O=>by
  let#[04,x1,x2,x3,x4,x5]:=av b O;erw[hn b O,?_,?_,.inl (by rw[ad];rwa[O]),?_,λp hp=>?_]
  ·rw[Ye];rwa[F9 x1]
  ·rw[Yf];intro z
   rcases HB.mp (I.stkSub b z) with q|q
   ·rwa[x2 q]
   ·rwa[x3 q]
  ·rw[Ye];intro x c e;rwa[x4 x c (f.cl ok e)]
  ·rw[b8] at hp;rwa[absurd hp (by simp)]
 have b2:∀s4:Shared,s4=({ U with heap:=h₁,toks:=s.toks+([]:List (Str×Value)).length }:Shared)->
   codeAny #[7] X.A (.compLoop (.ListComp elt [#[tg,iter,ifs,(0)]] scope pos) 0 (.ref it) (.ref s.heap.objs.size) (compEnvC scope (eQ X.env scope.names []) U.heap.objs.size X.env))
    (compPost #[7] X.A E use PQ (.ref s.heap.objs.size) U.heap.objs.size) s4:=by
  rintro s4 rfl;erw[pW (λn s'=>∃i σ' H',Inv Y [] σ' H' s'/\tn i s'.heap/\(∀b∈fp,H' b=none)/\W i n σ' H') ?_ m0
   #[33,(0),cH src σ,_,ac,T.keep 0 _ _ st λb O o e=>hk b o (a8 b o e),λb O=>by rw[ak (b3 b O)];exact(hf b O).1,w0]]
  rintro n s5 ⟨i,σ5,H5,I5,b4,ap,w5⟩
  rcases turn i n σ5 H5 w5 with⟨stop,qn⟩|⟨go,Nn,hNn,step⟩
  ·have q:=T.done Y Yp Yw YK Yl Yc i [] s5 σ5 H5 (λ_ _=>False) I5 (a1 ap) b4 stop
   rw[YA] at q;erw[thn q λr s6 ⟨hr,I6⟩=>?_]
   subst hr;let#[m6,ax,_]:=id I6.loc;have eL:Y.env.locals=U.heap.objs.size:=by rw[Ye];rfl
   rw[eL] at ax;erw[hfin s.heap.objs.size U.heap.objs.size s6 H5 m6 ax (I3.fpOk (e_ _) (by have z:=I6.free;rw[eL] at z;rwa[z])) (λh' sb=>?_) qn]
   ·have b6:=I6.base;rw[Ys,YH,Yf,ad] at b6;have ne:∀b o,U.heap.get? b=some o->b≠U.heap.objs.size:=λb o e=>F9 (Hl e)
    have u6:Un (frs X.stack) fp (upd H s.heap.objs.size (.lst [])) H5 U.heap h':=
     #[λb o e n O hx=>(sb.2 b (ne b o e)).trans (b6.keep b o e n O hx),λb o e n O hx=>by
       let#[sl,z]:=b6.slot b o e n O hx;rwa[sl,(sb.2 b (ne b o e)).trans z],b6.free,λb o e hx=>by
       let#[o',z]:=b6.there b o e hx;rwa[o',(sb.2 b (ne b o e)).trans z],b6.tups,b6.frzs,b6.tbls]
    have fL:H5 U.heap.objs.size=none:=by
     have z:=I6.free;rw[eL] at z;rwa[z]
    have ay:HOk X.prog X.w H5 h':=by
     have z:=I6.hok;rw[Yp,Yw] at z;intro b ob e;refine(z b ob e).stay (λc w' hc q=>(sb.2 c ?_).trans q) (λ_ q=>q) λ_ _ q=>q
     rintro rfl
     rcases hc with rfl|hc
     ·rw[fL] at e;cases e
     ·rw[fL] at hc;cases hc
    have bo:s6.os=U.os:=by
     have z:=I6.os;rw[Ys] at z;rwa[z]
    erw[Inv.call' (s':={ s6 with heap:=h' }) I3 bo u6 ay I6.bare λb O=>?_]
    let#[05,f0,f1,f2,f3,f4,f5]:=hf b O;rwa[f3,f1,f4,f5]
  ·have q:=T.item Y Yp Yw YK Yl Yc i [] s5 σ5 H5 (λ_ _=>False) I5 (a1 ap) b4 go
   rw[YA] at q;erw[thn q λr s6 ⟨u,hr,h6⟩=>?_]
   subst hr;erw[thn h6 λ_ s7 ⟨x,H7,I7,r7,y7,a7,bb⟩=>?_]
   have b7:=I7.pinned (a1 bb) (T.obj _ _ a7);have Z:∀{σ9:St} {H9:Hp} {s9:Shared},Inv Y ([]++mS fp s7.heap) σ9 H9 s9->tn (i+1) s9.heap/\∀b∈fp,H9 b=none:=λ{σ9 H9 s9} I9=>
    #[T.keep _ _ _ a7 λb O o e=>(I9.pin (b,o) (Nf _ (Nf _ (fM O e)))).1,λb O=>by
     let#[o,e,d]:=T.obj _ _ a7 b O;exact(I9.pin (b,o) (Nf _ (Nf _ (fM O e)))).2.1]
   have g1:=hg _ s7 σ5 H7 x u _ b7 r7 (step x H7 y7);rw[YA,Yx,Yp,Yw,Ye] at g1;erw[thn g1 λ_ s8 ⟨σ8,H8,I8,q8⟩=>?_]
   have g2:=ht _ s8 σ8 H8 _ I8 q8;rw[YA,Yx,Yp,Yw,Ye] at g2;erw[thn g2 λb s9 ⟨H9,I9,q9⟩=>?_]
   cases b with
   |false=>
    simp only[M8,OP] at q9 ⊢;let#[m',hm,w9]:=hNn _ _ q9;rwa[73,m',hm,i+1,σ8,H9,I9.unpinned,(Z I9).1,(Z I9).2,w9]
   |true=>
    simp only[PX] at q9 ⊢;have g3:=he _ s9 σ8 H9 _ I9 q9;rw[YA,Yx,Yp,Yw,Ye] at g3;erw[thn g3 λyv bt ⟨y,a9,b5,bp,ys,bg,hz,bi⟩=>?_]
    let#[m',hm,bz]:=hNn _ _ bi;have g4:=oB (X:=Y) _ bt σ8 a9 (.ref s.heap.objs.size) [y] (.ref s.heap.objs.size) [yv] (λ_ a'=>a'=upd a9 s.heap.objs.size (.lst (ys++[y]))) b5 rfl (.cons bp .nil) #[34,_,ys,y,1,1,bg,hz,1]
    rw[YA,Yx,Yp,Yw] at g4;erw[thn g4 λ_ c0 ⟨_,a',a5,_,b9⟩=>?_]
    subst b9;rwa[73,m',hm,i+1,σ8,_,a5.unpinned,(Z a5).1,(Z a5).2,bz]
 have q:=b2 _ rfl;have b':({ U with heap:=h₁,toks:=s.toks+([]:List (Str×Value)).length }:Shared)={ s with heap:=h₁,toks:=s.toks+([]:List (Str×Value)).length }:=by rw[<- hs3]
 rw[b'] at q;rw[e3] at q;have bv:tn 0 h₁:=T.keep 0 _ _ st λb O o e=>hk b o (a8 b o e)
 rwa[codeAny_compStart_list q (T.self X.A 0 _ _ _ bv q)]
theorem aR(hcalm:X.calm=true)(hsc:p6 X.env.scope scope=true)(hsrc:oZ X.N N src scope=true)(hi:PI X tg iter wi)(hb:∀(s:Shared) (H:Hp) (ex:List Addr),PG (cxC X N scope s H ex) tg g/\PIf (cxC X N scope s H ex) ifs tt/\PE (cxC X N scope s H ex) elt te)(hs:∀x,foldedSetIterable iter X.env x=pure x:=by intro _;rfl):
  PE X (.ListComp elt [#[tg,iter,ifs,(0)]] scope pos) (CQ src wi g tt te):=by
 intros Q I h;have f:=pB hsc;rw[eval_ListComp];erw[wpAny_comprehension_free (use:=none) rfl hs (l5 (f.cells I.ok)) f.kind f.names (thn (hi pins s σ H _ I h) λv s1 h1=>thn h1 λa1 s2 h2=>?_)]
 let#[4015,it,fp,tn,J,H2,1,U,T,O,Z,q2]:=h2;erw[rZ (N:=N) (src:=src) none (EP X pins σ Q) X.xe hcalm f hsrc hb U T O Z q2 ?_];intro acc C s' H' m hn _ hI hq;rwa[m,hn,λh' sb=>#[22,.ref acc,H',hI h' sb,1,hq]]
theorem dD{i:Nat}{py spos:Pos}(hN:X.N.Nodup)(hix:X.N[i]? = some y)(hx:Loc X.env.scope y)(hcalm:X.calm=true)(hsc:p6 X.env.scope scope=true)(hsrc:oZ X.N N src scope=true)(hi:PI X tg iter wi)(Z:∀(s:Shared) (H:Hp) (ex:List Addr),PG (cxC X N scope s H ex) tg g/\PIf (cxC X N scope s H ex) ifs tt/\PE (cxC X N scope s H ex) elt te)(hs:∀x,foldedSetIterable iter X.env x=pure x:=by intro _;rfl)(hsw:swapsWith (.ListComp elt [#[tg,iter,ifs,(0)]] scope pos) (some (.Name y py)) spos.line X.env=pure true:=by rfl)(hf:X.fn y=true\/X.env.scope.names.lookup y=some .local:=by first|rwa[.inl rfl]|rwa[.inr rfl]|assumption):
  PS X (.Assign [.Name y py] (.ListComp elt [#[tg,iter,ifs,(0)]] scope pos) spos) (BH (CQ src wi g tt te) (bP i)):=by
 intros D I h;have f:=pB hsc;rw[exec_Assign_Name_used _ _ _ _ hsw];erw[c_ (N_ (c_ ?_))];show wpAny _ X.A (do let _ <- comprehension (.ListComp elt [#[tg,iter,ifs,(0)]] scope pos) scope X.env _ (newList []) false (eval iter X.env) (some (assign (.Name y py) X.env))) _ _ s
 erw[c_ (Mf (wpAny_comprehension_free (use:=some (assign (.Name y py) X.env)) (Q:=λ_ s'=>SP X pins D .next s') rfl hs (l5 (f.cells I.ok)) f.kind f.names
  (thn (hi pins s σ H _ I h) λv s1 h1=>thn h1 λa3 s2 h2=>?_)) (λ_ s' hq=>f_ (f_ hq)) λ_ _ e=>e)]
 let#[4015,it,fp,tn,J,H2,1,I2,T,a2,f2,q2]:=h2;erw[rZ (N:=N) (src:=src) (some (assign (.Name y py) X.env)) (λ_ s'=>SP X pins D .next s') X.xe hcalm f hsrc Z I2 T a2 f2 (Q:=λx H1=>bP i x σ H1 D.nx) q2 ?_]
 intro acc C s' H' m hn O hI hq;let#[05,c0,c1,c2,c3,c4,c5]:=O;have I':Inv X pins σ H' s':=hI s'.heap (Heap.SameBut.refl ..);show wpAny _ X.A (assign (.Name y py) X.env (.ref acc)) _ _ _;erw[wpAny_assign_Name (oF (v:=.ref acc) I' hN hix hx rfl (λs2 J2 ⟨a,sb,ha⟩=>?_) hf)]
 have U:C≠a:=by
  rcases ha with rfl|ha
  ·rwa[c1]
  ·rwa[λz=>c4 y a ha z.symm]
 erw[m,hn.sameBut sb U,λh' a1=>?_]
 rwa[21,_,H',J2.turned (t':=s2.toks) (λb o Z e=>(a1.2 b Z).trans e) c0 c1 c3 c4 c5,hq]
end
def SqI(t:Bool)(h:Heap)(it l:Addr)(i:Nat):Prop:=if t=true then h.IsTupleIter it l i else h.IsListIter it l i
def SqO(t:Bool)(h:Heap)(l:Addr)(xs:Array Value):Prop:=if t=true then h.IsTuple l xs else h.IsList l xs
def SqV(t:Bool)(K:Frag)(H:Hp)(a:Addr)(xs:List V):Prop:=if t=true then SqT K H a xs else SqL K H a xs
theorem SqI.at{t:Bool}{i:Nat}(x:SqI t h it l i)(k:∀o,h.get? it=some o->h'.get? it=some o):SqI t h' it l i:=by
 cases t
 ·rwa[Heap.IsListIter.at x k]
 ·let#[o,O,r]:=(show h.IsTupleIter it l i from x)
  exact(show h'.IsTupleIter it l i from#[o,k o O,r])
theorem SqI.obj{t:Bool}{i:Nat}(x:SqI t h it l i):∃o,h.get? it=some o/\∀v,o.data≠.cell v:=by
 cases t
 ·let#[12,o,O,_,d]:=(show h.IsListIter it l i from x)
  rwa[o,O,λv z=>by rw[d] at z;cases z]
 ·let#[12,o,O,_,d]:=(show h.IsTupleIter it l i from x)
  rwa[o,O,λv z=>by rw[d] at z;cases z]
theorem SqO.at{t:Bool}{xs:Array Value}(x:SqO t h l xs)(k:∀o,h.get? l=some o->h'.get? l=some o):SqO t h' l xs:=by
 cases t
 ·let#[o,O,r]:=(show h.IsList l xs from x)
  exact(show h'.IsList l xs from#[o,k o O,r])
 ·let#[o,O,r]:=(show h.IsTuple l xs from x)
  exact(show h'.IsTuple l xs from#[o,k o O,r])
theorem SqO.obj{t:Bool}{xs:Array Value}(x:SqO t h l xs):∃o,h.get? l=some o:=by
 cases t
 ·let#[o,O,r]:=(show h.IsList l xs from x)
  rwa[o,O]
 ·let#[o,O,r]:=(show h.IsTuple l xs from x)
  rwa[o,O]
theorem Inv.seqV{t:Bool}(I:#[7,7])(h:SqV t X.K H a xs):∃its:List Value,Ge xs its/\SqO t s.heap a its.toArray/\xs.length<=sizeLine:=by
 cases t
 ·let#[12,its,r,p,z]:=I.list (show SqL X.K H a xs from h)
  rwa[its,r,p.isList,z]
 ·let#[12,its,r,p,z]:=I.tuple (show SqT X.K H a xs from h)
  rwa[its,r,p,z]
theorem Inv.seqV_inj{t:Bool}{ys:List V}(I:#[7,7])(h:SqV t X.K H a xs)(h':SqV t X.K H a ys):xs=ys:=by
 cases t
 ·rwa[I.list_inj h h']
 ·rwa[I.tuple_inj h h']
section
theorem jz{i:Nat}{x:Value}(hit:s.heap.IsTupleIter it l i)(hl:s.heap.IsTuple l items)(hx:items[i]? = some x)(hQ:∀h',h'.IsTupleIter it l (i+1)->Heap.SameBut it s.heap h'->Q x { s with heap:=h' }):
  wpAny (model prog w) A (Builtin.SmallTypes.nextOf (.ref it)) Q E s:=by
 let#[12,o,O,hc,hd]:=id hit;let#[1210,ol,Z,_,nl,U]:=hl;unfold Builtin.SmallTypes.nextOf;erw[c_ (Lz (name:=Str.ofString "__next__") hit.typeIs M9
  (Lv M9 hit.typeIs F.entry_tuple_iterator_next ?_ (F.args_tuple_iterator_next_1 _)))]
 show wpAny _ _ (field (.ref it) 0 >>= _) _ _ s;erw[c_ (Lq O hd (x:=.ref l) rfl ?_)];show wpAny _ _ (if (Value.ref l==Value.none)=true then _ else _) _ _ s
 rw[w_ (show ¬((Value.ref l==Value.none)=true) from G_)]
 show wpAny _ _ (field (.ref it) 1 >>= _) _ _ s;erw[c_ (Lq O hd (x:=.int i 0) rfl ?_)];show wpAny _ _ (seqItems? (.ref l) >>= _) _ _ s;erw[c_ (MS Z U ?_)];simp only[Mz,hx];erw[c_ (MC O hd (by simp) (f_ #[x,1,f_ (hQ _ ?_ (LY ..))]))]
 rwa[_,NC _ O (NZ (MD hd _)),(Obj.cls_mapFields ..).trans hc,by
  rw[MD hd];simp[rawInt]]
theorem gA{t:Bool}{i:Nat}{x:Value}(hit:SqI t s.heap it l i)(hl:SqO t s.heap l items)(hx:items[i]? = some x)(hQ:∀h',SqI t h' it l (i+1)->Heap.SameBut it s.heap h'->Q x { s with heap:=h' }):
  wpAny (model prog w) A (Builtin.SmallTypes.nextOf (.ref it)) Q E s:=by
 cases t
 ·rwa[wpAny_nextOf_list_item hit hl hx hQ]
 ·rwa[jz hit hl hx hQ]
theorem lO{t:Bool}{i:Nat}(hn:Hn A s.heap)(hni:A.handled≠some (.ref it))(hit:SqI t s.heap it l i)(hl:SqO t s.heap l items)(hx:items[i]? = none)(hE:∀h' e,Heap.ExtBut it s.heap h'->(∃o,h'.get? e=some o/\o.cls=.type "StopIteration")->E (.ref e) { s with heap:=h' }):
  wpAny (model prog w) A (Builtin.SmallTypes.nextOf (.ref it)) Q E s:=by
 cases t
 ·rwa[jF hn hni hit hl hx hE]
 ·rwa[nP hn hni hit hl hx hE]
theorem jX{t:Bool}(hl:SqO t s.heap l items)(hQ:∀o,SqI t (s.heap.push o) s.heap.objs.size l 0->Q (.ref s.heap.objs.size) { s with heap:=s.heap.push o }):wpAny (model prog w) A (pyIter (.ref l)) Q E s:=by
 cases t
 ·rwa[Nl hl (hQ _ (show Heap.IsListIter _ _ _ _ from#[_,A_ _ rfl,1,1]))]
 ·rwa[OR hl (hQ _ (show Heap.IsTupleIter _ _ _ _ from#[_,A_ _ rfl,1,1]))]
theorem xM{TI TO:Addr}{xs:Array Value}{x y a b:Value}(D:ZipApart z TI TO i1 i2 l1 l2)(hz:IsZip s.heap z TI TO .none)(hTI:IsPair s.heap TI (.ref i1) (.ref i2))(hTO:IsPair s.heap TO a b)(h1:SqI t1 s.heap i1 l1 k1)(h2:SqI t2 s.heap i2 l2 k2)(hl1:SqO t1 s.heap l1 xs)(hl2:SqO t2 s.heap l2 ys)(hx:xs[k1]? = some x)(hy:ys[k2]? = some y)(hQ:∀h',IsZip h' z TI TO (rawInt s.heap.objs.size)->IsPair h' TO x y->SqI t1 h' i1 l1 (k1+1)->SqI t2 h' i2 l2 (k2+1)->IsPair h' s.heap.objs.size x y->h'.objs.size=s.heap.objs.size+1->
   (∀c o,c≠z->c≠TO->c≠i1->c≠i2->s.heap.get? c=some o->h'.get? c=some o)->Q (.ref s.heap.objs.size) { s with heap:=h' }):
  wpAny (model prog w) A (Builtin.«zip.__next__» #[[.ref z],[]]) (λfin s'=>∃v,fin=.done (.ret v)/\Q v s') E s:=by
 show wpAny _ _ (field (.ref z) 2 >>= _) _ _ _;erw[c_ (Lq hz rfl (x:=.bool false) rfl ?_)];show wpAny _ _ (field (.ref z) 3 >>= _) _ _ _;erw[c_ (Lq hz rfl (x:=.ref TI) rfl ?_)];erw[c_ (MS hTI rfl ?_)];show wpAny _ _ (Builtin.SmallTypes.ownedTupleIsFree (.ref z) >>= _) _ _ _;erw[c_ ?_];unfold Builtin.SmallTypes.ownedTupleIsFree;erw[c_ (Lq hz rfl (x:=.none) rfl (f_ ?_))];simp only[PX];erw[c_ (N8 ?_)];erw[c_ (Lq hz rfl (x:=.ref TO) rfl ?_)];erw[c_ (MH hz (by simp) λh₁ ad Z=>?_)]
 replace ad:IsZip h₁ z TI TO .ellipsis:=ad
 erw[c_ ?_];simp only[List.zipIdx_cons,List.zipIdx_nil,forIn_cons,forIn_nil];erw[c_ (c_ (wpAny_onRaise ?_))];show wpAny _ _ (Builtin.SmallTypes.nextOf (.ref i1) >>= _) _ _ _;erw[c_ (gA (h1.at λo e=>Z.extBut _ _ D.i1z e) (hl1.at λo e=>Z.extBut _ _ D.l1z e) hx λh₂ b2 a1=>f_ ?_)]
 have a7:IsPair h₂ TO a b:=a1.extBut _ _ D.TOi1 (Z.extBut _ _ D.TOz hTO);erw[c_ (MS a7 rfl ?_)];erw[c_ (wpAny_updateSeq_pair a7 λh₃ a3 a2=>?_)]
 replace a3:IsPair h₃ TO x b:=a3
 erw[c_ (wpAny_letGo (f_ ?_))];erw[c_ (c_ (wpAny_onRaise ?_))];show wpAny _ _ (Builtin.SmallTypes.nextOf (.ref i2) >>= _) _ _ _;erw[c_ (gA (h2.at λo e=>a2.extBut _ _ D.TOi2.symm (a1.extBut _ _ D.i12.symm (Z.extBut _ _ D.i2z e)))
  (hl2.at λo e=>a2.extBut _ _ D.l2TO (a1.extBut _ _ D.l2i1 (Z.extBut _ _ D.l2z e))) hy λh₄ b4 a4=>f_ ?_)]
 have a8:IsPair h₄ TO x b:=a4.extBut _ _ D.TOi2 a3;erw[c_ (MS a8 rfl ?_)];erw[c_ (wpAny_updateSeq_pair a8 λU O a5=>?_)]
 replace O:IsPair U TO x y:=O
 erw[c_ (wpAny_letGo (f_ (f_ ?_)))];erw[c_ (MS O rfl ?_)];erw[c_ (wpAny_newTuple ?_)];have hsz:U.objs.size=s.heap.objs.size:=by rw[a5.1,a4.1,a2.1,a1.1,Z.1]
 have ay:IsZip U z TI TO .ellipsis:=a5.extBut _ _ D.TOz.symm (a4.extBut _ _ D.i2z.symm (a2.extBut _ _ D.TOz.symm (a1.extBut _ _ D.i1z.symm ad)));have b7:∀c o,c≠z->c≠TO->c≠i1->c≠i2->s.heap.get? c=some o->U.get? c=some o:=λc o c1 c2 c3 c4 e=>
  a5.extBut _ _ c2 (a4.extBut _ _ c4 (a2.extBut _ _ c2 (a1.extBut _ _ c3 (Z.extBut _ _ c1 e))))
 have b3:SqI t1 U i1 l1 (k1+1):=b2.at λo e=>a5.extBut _ _ D.TOi1.symm (a4.extBut _ _ D.i12 (a2.extBut _ _ D.TOi1.symm e))
 have b5:SqI t2 U i2 l2 (k2+1):=b4.at λo e=>a5.extBut _ _ D.TOi2.symm e
 have a9:z<U.objs.size:=Hl ay;have b6:TO<U.objs.size:=Hl O;show wpAny _ _ (Builtin.SmallTypes.ownedTupleHandOut (.ref z) (.ref U.objs.size) >>= _) _ _ _;erw[c_ ?_];unfold Builtin.SmallTypes.ownedTupleHandOut;have b8:IsZip (U.push { cls:=.type "tuple",data:=.seq #[8,x,y] }) z TI TO .ellipsis:=g_ _ ay;erw[c_ (MH b8 (by simp) λh₇ ap a'=>?_)]
 replace ap:IsZip h₇ z TI TO (rawInt U.objs.size):=ap
 erw[MH ap (by simp) λh₈ a6 ac=>?_]
 replace a6:IsZip h₈ z TI TO (rawInt U.objs.size):=a6
 have up:∀c o,c≠z->U.get? c=some o->h₈.get? c=some o:=λc o c1 e=>ac.extBut _ _ c1 (a'.extBut _ _ c1 (g_ _ e))
 have av:IsPair h₈ U.objs.size x y:=ac.extBut _ _ (O7 a9) (a'.extBut _ _ (O7 a9) (A_ _ rfl));have ax:h₈.objs.size=U.objs.size+1:=by rw[ac.1,a'.1,Ps]
 rw[hsz] at a6 av ax;erw[f_ #[0,?_]];show Q (.ref U.objs.size) _;rw[hsz];rwa[hQ h₈ a6 (up _ _ D.TOz O) (b3.at λo e=>up _ o D.i1z e) (b5.at λo e=>up _ o D.i2z e) av ax λc o c1 c2 c3 c4 e=>up c o c1 (b7 c o c1 c2 c3 c4 e)]
theorem yP{TI TO:Addr}{xs:Array Value}{a b:Value}{Q:PySem.Fin->Shared->Prop}(hn:Hn A s.heap)(hf:∀c∈[z,TO,i1,i2],A.handled≠some (.ref c))(D:ZipApart z TI TO i1 i2 l1 l2)(hz:IsZip s.heap z TI TO .none)(hTI:IsPair s.heap TI (.ref i1) (.ref i2))(hTO:IsPair s.heap TO a b)(h1:SqI t1 s.heap i1 l1 k1)(h2:SqI t2 s.heap i2 l2 k2)(hl1:SqO t1 s.heap l1 xs)(hl2:SqO t2 s.heap l2 ys)(hend:xs[k1]? = none\/ys[k2]? = none)(hE:∀h' e,(∀c o,c≠z->c≠TO->c≠i1->c≠i2->s.heap.get? c=some o->h'.get? c=some o)->(∃o,h'.get? e=some o/\o.cls=.type "StopIteration")->E (.ref e) { s with heap:=h' }):
  wpAny (model prog w) A (Builtin.«zip.__next__» #[[.ref z],[]]) Q E s:=by
 show wpAny _ _ (field (.ref z) 2 >>= _) _ _ _;erw[c_ (Lq hz rfl (x:=.bool false) rfl ?_)];show wpAny _ _ (field (.ref z) 3 >>= _) _ _ _;erw[c_ (Lq hz rfl (x:=.ref TI) rfl ?_)];erw[c_ (MS hTI rfl ?_)];show wpAny _ _ (Builtin.SmallTypes.ownedTupleIsFree (.ref z) >>= _) _ _ _;erw[c_ ?_];unfold Builtin.SmallTypes.ownedTupleIsFree;erw[c_ (Lq hz rfl (x:=.none) rfl (f_ ?_))];simp only[PX];erw[c_ (N8 ?_)];erw[c_ (Lq hz rfl (x:=.ref TO) rfl ?_)];erw[c_ (MH hz (by simp) λh₁ a3 O=>?_)]
 replace a3:IsZip h₁ z TI TO .ellipsis:=a3
 erw[c_ ?_];simp only[List.zipIdx_cons,List.zipIdx_nil,forIn_cons,forIn_nil];erw[c_ (c_ (wpAny_onRaise ?_))];show wpAny _ _ (Builtin.SmallTypes.nextOf (.ref i1) >>= _) _ _ _;cases hx:xs[k1]? with
 |none=>
  erw[c_ (lO (hn.but (hf z (by simp)) O.extBut) (hf i1 (by simp)) (h1.at λo e=>O.extBut _ _ D.i1z e) (hl1.at λo e=>O.extBut _ _ D.l1z e) hx λh₂ e U he=>?_)]
  let#[oe,a1,a2]:=he;have a8:IsZip h₂ z TI TO .ellipsis:=U _ _ D.i1z.symm a3;have a5:e≠z:=λx=>by subst x;rw[a8] at a1;cases a1;simp at a2
  erw[MH a8 (by simp) λh₃ _ Z=>hE h₃ e (λc o c1 _ c3 _ x=>Z.extBut _ _ c1 (U _ _ c3 (O.extBut _ _ c1 x))) #[oe,Z.extBut _ _ a5 a1,a2]]
 |some x=>
  have hy:ys[k2]? = none:=by rcases hend with h|h;rw[hx] at h;cases h;rwa[h]
  erw[c_ (gA (h1.at λo e=>O.extBut _ _ D.i1z e) (hl1.at λo e=>O.extBut _ _ D.l1z e) hx λh₂ ac U=>f_ ?_)]
  have a4:IsPair h₂ TO a b:=U.extBut _ _ D.TOi1 (O.extBut _ _ D.TOz hTO);erw[c_ (MS a4 rfl ?_)];erw[c_ (wpAny_updateSeq_pair a4 λh₃ a' Z=>?_)]
  erw[c_ (wpAny_letGo (f_ ?_))];erw[c_ (c_ (wpAny_onRaise ?_))];show wpAny _ _ (Builtin.SmallTypes.nextOf (.ref i2) >>= _) _ _ _;erw[c_ (lO (hn.away hf λc o hc e=>Z.extBut _ _ (λq=>hc (by simp[q])) (U.extBut _ _ (λq=>hc (by simp[q])) (O.extBut _ _ (λq=>hc (by simp[q])) e))) (hf i2 (by simp)) (h2.at λo e=>Z.extBut _ _ D.TOi2.symm (U.extBut _ _ D.i12.symm (O.extBut _ _ D.i2z e)))
   (hl2.at λo e=>Z.extBut _ _ D.l2TO (U.extBut _ _ D.l2i1 (O.extBut _ _ D.l2z e))) hy λh₄ e a6 he=>?_)]
  let#[oe,a1,a2]:=he;have a9:IsZip h₄ z TI TO .ellipsis:=a6 _ _ D.i2z.symm (Z.extBut _ _ D.TOz.symm (U.extBut _ _ D.i1z.symm a3));have a5:e≠z:=λx=>by subst x;rw[a9] at a1;cases a1;simp at a2
  erw[MH a9 (by simp) λh₅ _ a7=>hE h₅ e (λc o c1 c2 c3 c4 x=>a7.extBut _ _ c1 (a6 _ _ c4 (Z.extBut _ _ c2 (U.extBut _ _ c3 (O.extBut _ _ c1 x))))) #[oe,a7.extBut _ _ a5 a1,a2]]
theorem jN{TI TO:Addr}{xs:Array Value}{x y a b:Value}{Q:Option Value->Shared->Prop}(D:ZipApart z TI TO i1 i2 l1 l2)(hz:IsZip s.heap z TI TO .none)(hTI:IsPair s.heap TI (.ref i1) (.ref i2))(hTO:IsPair s.heap TO a b)(h1:SqI t1 s.heap i1 l1 k1)(h2:SqI t2 s.heap i2 l2 k2)(hl1:SqO t1 s.heap l1 xs)(hl2:SqO t2 s.heap l2 ys)(hx:xs[k1]? = some x)(hy:ys[k2]? = some y)(hQ:∀h',IsZip h' z TI TO (rawInt s.heap.objs.size)->IsPair h' TO x y->SqI t1 h' i1 l1 (k1+1)->SqI t2 h' i2 l2 (k2+1)->IsPair h' s.heap.objs.size x y->h'.objs.size=s.heap.objs.size+1->
   (∀c o,c≠z->c≠TO->c≠i1->c≠i2->s.heap.get? c=some o->h'.get? c=some o)->Q (some (.ref s.heap.objs.size)) { s with heap:=h' }):
  wpAny (model prog w) A (pyNext (.ref z)) Q E s:=by
 have O:s.TypeIs (.ref z) "zip":=#[_,hz,1];unfold pyNext;rwa[c_ (Nr (Lz (name:=Str.ofString "__next__") O F.slot_zip_next
  (Lv F.slot_zip_next O F.entry_zip_next
   (xM D hz hTI hTO h1 h2 hl1 hl2 hx hy λh' U Z a3 a4 a5 a6 a7=>f_ (hQ h' U Z a3 a4 a5 a6 a7)) (F.args_zip_next_1 _))))]
theorem kR{TI TO:Addr}{xs:Array Value}{a b:Value}{Q:Option Value->Shared->Prop}(hn:Hn A s.heap)(hf:∀c∈[z,TO,i1,i2],A.handled≠some (.ref c))(D:ZipApart z TI TO i1 i2 l1 l2)(hz:IsZip s.heap z TI TO .none)(hTI:IsPair s.heap TI (.ref i1) (.ref i2))(hTO:IsPair s.heap TO a b)(h1:SqI t1 s.heap i1 l1 k1)(h2:SqI t2 s.heap i2 l2 k2)(hl1:SqO t1 s.heap l1 xs)(hl2:SqO t2 s.heap l2 ys)(hend:xs[k1]? = none\/ys[k2]? = none)(hQ:∀h',(∀c o,c≠z->c≠TO->c≠i1->c≠i2->s.heap.get? c=some o->h'.get? c=some o)->Q none { s with heap:=h' }):wpAny (model prog w) A (pyNext (.ref z)) Q E s:=by
 have O:s.TypeIs (.ref z) "zip":=#[_,hz,1];unfold pyNext;erw[c_ (Nr (Lz (name:=Str.ofString "__next__") O F.slot_zip_next
  (Lv F.slot_zip_next O F.entry_zip_next (yP (A:=A.in1) hn hf D hz hTI hTO h1 h2 hl1 hl2 hend λh' e hk Z=>?_) (F.args_zip_next_1 _))))]
 let#[o,ho,U]:=Z;erw[c_ (N6 (T := "StopIteration") (b:=true) #[o,ho,U] isSubtype_stop ?_)];rwa[f_ (hQ _ hk)]
end
def wc(t:Bool)(l:Addr):Obj:=if t=true then { cls:=.type "tuple_iterator",data:=.fields #[8,.ref l,.int 0 0] } else { cls:=.type "list_iterator",data:=.fields #[8,.ref l,.int 0 0] }
theorem su{t:Bool}(e:h.get? it=some (wc t l)):SqI t h it l 0:=by
 cases t
 ·exact(show h.IsListIter it l 0 from#[_,e,1,1])
 ·exact(show h.IsTupleIter it l 0 from#[_,e,1,1])
abbrev BB(t1:Bool)(h:Heap)(l1:Addr):Heap:=h.push (wc t1 l1)
abbrev Cn(t1 t2:Bool)(h:Heap)(l1 l2:Addr):Heap:=(BB t1 h l1).push (wc t2 l2)
abbrev BM(t1 t2:Bool)(h:Heap)(l1 l2:Addr):Heap:=(Cn t1 t2 h l1 l2).push { cls:=.type "tuple",data:=.seq #[8,.ref h.objs.size,.ref (BB t1 h l1).objs.size] }
abbrev Bv(t1 t2:Bool)(h:Heap)(l1 l2:Addr):Heap:=(BM t1 t2 h l1 l2).push { cls:=.type "tuple",data:=.seq #[8,.none,.none] }
abbrev uA(t1 t2:Bool)(h:Heap)(l1 l2:Addr):Heap:=(Bv t1 t2 h l1 l2).push { cls:=.type "zip",data:=.fields #[8,.none,.bool false,.bool false,.ref (Cn t1 t2 h l1 l2).objs.size,.ref (BM t1 t2 h l1 l2).objs.size] }
set_option maxHeartbeats 8000000 in
theorem ue(t1 t2:Bool)(l1 l2:Addr)(xs ys:Array Value):
  Meets (Builtin.«zip.__new__» #[[.type "zip",.ref l1,.ref l2],[]]) (λ_ R s=>SqO t1 s.heap l1 xs/\SqO t2 s.heap l2 ys/\
   R (.ok (.ret (.ref (Bv t1 t2 s.heap l1 l2).objs.size))) { s with heap:=uA t1 t2 s.heap l1 l2 }):=
 .of_wp λprog w A R s h=>by
  let#[hp,g,d,tk,os]:=s;let#[Z,a1,h]:=h;have a2:=sub_zip;cases t1<;>cases t2
  ·have O:Heap.IsList (Shared.heap #[hp,g,d,tk,os]) l1 xs:=Z;have U:Heap.IsList (Shared.heap #[hp.push { cls:=.type "list_iterator",data:=.fields #[8,.ref l1,.int 0 0] },g,d,tk,os]) l2 ys:=Heap.IsList.push a1 _
   wp_walk using Nl O,Nl U
   rwa[0,h]
  ·have O:Heap.IsList (Shared.heap #[hp,g,d,tk,os]) l1 xs:=Z;have U:Heap.IsTuple (Shared.heap #[hp.push { cls:=.type "list_iterator",data:=.fields #[8,.ref l1,.int 0 0] },g,d,tk,os]) l2 ys:=Heap.IsTuple.push a1 _
   wp_walk using Nl O,OR U
   rwa[0,h]
  ·have O:Heap.IsTuple (Shared.heap #[hp,g,d,tk,os]) l1 xs:=Z;have U:Heap.IsList (Shared.heap #[hp.push { cls:=.type "tuple_iterator",data:=.fields #[8,.ref l1,.int 0 0] },g,d,tk,os]) l2 ys:=Heap.IsList.push a1 _
   wp_walk using OR O,Nl U
   rwa[0,h]
  ·have O:Heap.IsTuple (Shared.heap #[hp,g,d,tk,os]) l1 xs:=Z;have U:Heap.IsTuple (Shared.heap #[hp.push { cls:=.type "tuple_iterator",data:=.fields #[8,.ref l1,.int 0 0] },g,d,tk,os]) l2 ys:=Heap.IsTuple.push a1 _
   wp_walk using OR O,OR U
   rwa[0,h]
section
theorem xP{xs:Array Value}(hl1:SqO t1 s.heap l1 xs)(hl2:SqO t2 s.heap l2 ys)(h:∀h',IsZip h' (s.heap.objs.size+4) (s.heap.objs.size+2) (s.heap.objs.size+3) .none->IsPair h' (s.heap.objs.size+2) (.ref s.heap.objs.size) (.ref (s.heap.objs.size+1))->
   IsPair h' (s.heap.objs.size+3) .none .none->SqI t1 h' s.heap.objs.size l1 0->SqI t2 h' (s.heap.objs.size+1) l2 0->h'.objs.size=s.heap.objs.size+5->
   (∀c o,s.heap.get? c=some o->h'.get? c=some o)->Q (.ref (s.heap.objs.size+4)) { s with heap:=h' }):
  wpAny (model prog w) A (call (.type "zip") [.ref l1,.ref l2]) Q E s:=by
 erw[callType_new F.called_zip #[] (F.typeCall_zip_2 _ _) (F.newCall_zip_2 _ _) (λobj=>F.args_object_init_3 obj _ _) F.entry_zip_new
  (ue t1 t2 l1 l2 xs ys) #[hl1,hl2,?_]]
 have fr:∀t l,(wc t l).isFreed=false:=λt l=>by cases t<;>rfl
 have U:(BB t1 s.heap l1).objs.size=s.heap.objs.size+1:=Ps ..;have Z:(Cn t1 t2 s.heap l1 l2).objs.size=s.heap.objs.size+2:=by rw[Ps,U]
 have z3:(BM t1 t2 s.heap l1 l2).objs.size=s.heap.objs.size+3:=by rw[Ps,Z]
 have z4:(Bv t1 t2 s.heap l1 l2).objs.size=s.heap.objs.size+4:=by rw[Ps,z3]
 have z5:(uA t1 t2 s.heap l1 l2).objs.size=s.heap.objs.size+5:=by rw[Ps,z4]
 have O:(uA t1 t2 s.heap l1 l2).get? (Bv t1 t2 s.heap l1 l2).objs.size=some _:=A_ _ rfl;have g4:(uA t1 t2 s.heap l1 l2).get? (BM t1 t2 s.heap l1 l2).objs.size=some _:=g_ _ (A_ _ rfl);have g3:(uA t1 t2 s.heap l1 l2).get? (Cn t1 t2 s.heap l1 l2).objs.size=some _:=g_ _ (g_ _ (A_ _ rfl));have g2:(uA t1 t2 s.heap l1 l2).get? (BB t1 s.heap l1).objs.size=some _:=g_ _ (g_ _ (g_ _ (A_ _ (fr t2 l2))));have g1:(uA t1 t2 s.heap l1 l2).get? s.heap.objs.size=some _:=g_ _ (g_ _ (g_ _ (g_ _ (A_ _ (fr t1 l1)))));show _/\_;rw[Z,z3,z4] at O;rw[U,Z] at g3;rw[z3] at g4;rw[U] at g2;rw[z4];rwa[#[_,O,1],h _ O g3 g4 (su g1) (su g2) z5 λc o x=>
  g_ _ (g_ _ (g_ _ (g_ _ (g_ _ x))))]
end
def Itz(t1 t2:Bool)(K:Frag)(a b:Addr):It:=
 #[λi H=>∃xs ys x y,SqV t1 K H a xs/\SqV t2 K H b ys/\xs[i]? = some x/\ys[i]? = some y,
  λi H v H'=>∃p x y,v=.ref p/\H p=none/\H'=upd H p (.tup [x,y])/\(∀xs,SqV t1 K H a xs->xs[i]? = some x)/\∀ys,SqV t2 K H b ys->ys[i]? = some y,
  λi H=>∃xs ys,SqV t1 K H a xs/\SqV t2 K H b ys/\(xs.length<=i\/ys.length<=i)]
def Zst(t1 t2:Bool)(z TI TO i1 i2 a b:Addr)(i:Nat)(h:Heap):Prop:=
 IsZip h z TI TO .none/\IsPair h TI (.ref i1) (.ref i2)/\(∃x y,IsPair h TO x y)/\SqI t1 h i1 a i/\SqI t2 h i2 b i
structure Db (z TI TO i1 i2:Addr):Prop where
 TIz:TI≠z
 TOz:TO≠z
 i1z:i1≠z
 i2z:i2≠z
 TITO:TI≠TO
 TIi1:TI≠i1
 TIi2:TI≠i2
 TOi1:TO≠i1
 TOi2:TO≠i2
 i12:i1≠i2
theorem Inv.turnedN{t':Nat}(I:#[7,7])(k:∀b o,b∉fp->s.heap.get? b=some o->h'.get? b=some o)(hf:∀b∈fp,gE X pins H b):Inv X pins σ H { s with heap:=h',toks:=t' }:=by
 have U:∀b u,H b=some u->b∉fp:=λb u e z=>by rw[(hf b z).1] at e;cases e
 erw[I.step (g':=s.gens) (d':=s.drawn) (ch:=fp) (λb hb=>?_) (λb o _ _ O e _=>k b o O e) (λb o _ _ O e _=>#[o.slots,k b o O e]) (λ_ _ _ _ n=>n)
  (λb o O e=>#[o,k b o O e]) (λ_ _ e=>e) (λ_ _ _ e=>e) (λb ps e=>#[#[8],by rw[e];simp]) (λm hm=>?_) (λb u e=>?_) I.bare]
 ·let#[05,f0,Z,f2,f3,f4,f5]:=hf b hb;rwa[f3,Z,f4,f5]
 ·let#[31,o,es,ep,ho,r]:=hm;rwa[31,o,es,ep,k _ o (λz=>(hf _ z).2.1 rfl) ho,r]
 ·refine(I.hok b u e).stay (λc v O q=>k c v ?_ q) (λ_ q=>q) λ_ _ q=>q
  rcases O with z|z
  ·rw[z];rwa[U b u e]
  ·rwa[U c _ z]
theorem Fb(n:Nat):Db (n+4) (n+2) (n+3) n (n+1):=by
 constructor<;>(intro h;have h':(_:Nat)=_:=h;lia)
theorem gC{t:Bool}{vs:List V}(I:#[7,7])(hf:∀b∈fp,gE X pins H b)(q:SqV t X.K H l vs):l∉fp:=λZ=>by
 have hn:=hf l Z;have O:∀o,X.K.lookup l=some o->False:=λo hk=>by
  rcases hn.2.2.2.1 with U|U
  ·rwa[I.ok.noex l o (I.ok.mod.kin l o hk) U]
  ·rwa[absurd (Hh (Hl (I.ok.bs l o (I.ok.mod.kin l o hk)).1) U) (ME _)]
 cases t
 ·rcases(show SqL X.K H l vs from q) with(q|⟨o,q⟩)|⟨o,_,_,hk,_⟩
  ·rw[hn.1] at q;cases q
  ·rw[hn.1] at q;cases q
  ·rwa[O o hk]
 ·rcases(show SqT X.K H l vs from q) with(q|⟨o,q⟩)|⟨o,_,_,hk,_⟩
  ·rw[hn.1] at q;cases q
  ·rw[hn.1] at q;cases q
  ·rwa[O o hk]
theorem Aj(a b z TI TO i1 i2:Addr)(D:Db z TI TO i1 i2):
  my P w K L (.Tuple es ek ep) (Itz t1 t2 K a b) [z,TI,TO,i1,i2] z (Zst t1 t2 z TI TO i1 i2 a b) where
 mem:=by simp
 obj:=λi h ⟨hz,U,⟨x,y,Z⟩,h1,h2⟩ c O=>by
  simp only[OT,Nm,Pb] at O
  rcases O with rfl|rfl|rfl|rfl|rfl
  ·rwa[_,hz,λv z=>by cases z]
  ·rwa[_,U,λv z=>by cases z]
  ·rwa[_,Z,λv z=>by cases z]
  ·rwa[h1.obj]
  ·rwa[h2.obj]
 keep:=λi h h' ⟨hz,U,⟨x,y,Z⟩,h1,h2⟩ k=>
  #[k z (by simp) _ hz,k TI (by simp) _ U,#[20,x,y,k TO (by simp) _ Z],h1.at λo e=>k i1 (by simp) o e,h2.at λo e=>k i2 (by simp) o e]
 item:=by
  intro X hP hw hK hL O i pins s σ H E I hf st hg;subst hP hw hK;let#[43,xs,ys,x,y,qx,qy,hx,hy]:=hg;let#[04,hz,U,#[xo,yo,Z],h1,h2]:=st;let#[12,ix,rx,px,zx]:=I.seqV qx;let#[12,iy,ry,py,zy]:=I.seqV qy;let#[u,hu,ru]:=rx.get hx;let#[v,hv,rv]:=ry.get hy;have ad:∀c,c∈[z,TI,TO,i1,i2]->H c=none:=λc O=>(hf c O).1
  have na:=gC I hf qx;have nb:=gC I hf qy;simp only[OT,Nm,Pb,not_or] at na nb;have DA:ZipApart z TI TO i1 i2 a b:=#[D.TIz,D.TOz,D.i1z,D.i2z,D.TITO,D.TIi1,D.TIi2,D.TOi1,D.TOi2,D.i12,na.1,na.2.2.1,na.2.2.2.1,na.2.2.2.2,nb.1,nb.2.2.1,nb.2.2.2.1,nb.2.2.2.2];erw[jN DA hz U Z h1 h2 px py (x:=u) (y:=v) (by simpa using hu) (by simpa using hv) λh' a1 a2 a3 a4 a5 a6 hk=>?_]
  erw[0,wpAny_letOwnedTupleGo_zip a1 λa7 a' sb=>?_]
  have kk:∀c o,c∉[z,TI,TO,i1,i2]->s.heap.get? c=some o->a7.get? c=some o:=λc o O e=>by
   simp only[OT,Nm,Pb,not_or] at O;exact(sb.2 c O.1).trans (hk c o O.1 O.2.2.1 O.2.2.2.1 O.2.2.2.2 e)
  have ac:∀c∈[z,TI,TO,i1,i2],c<s.heap.objs.size:=λc O=>by
   simp only[OT,Nm,Pb] at O
   rcases O with rfl|rfl|rfl|rfl|rfl
   ·rwa[Hl hz]
   ·rwa[Hl U]
   ·rwa[Hl Z]
   ·let#[o,e,_]:=h1.obj;rwa[Hl e]
   ·let#[o,e,_]:=h2.obj;rwa[Hl e]
  have nT:s.heap.objs.size∉[z,TI,TO,i1,i2]:=λO=>absurd (ac _ O) (ME _)
  have hT:a7.get? s.heap.objs.size=some { cls:=.type "tuple",data:=.seq #[8,u,v] }:=(sb.2 _ (λe=>nT (by simp[e]))).trans a5
  have fresh:H s.heap.objs.size=none:=I.hok.fresh (e_ _);have gT:(s.heap.push { cls:=.type "tuple",data:=.seq #[8,u,v] }).get? s.heap.objs.size=some { cls:=.type "tuple",data:=.seq #[8,u,v] }:=A_ _ rfl;have I1:Inv X pins σ (upd H s.heap.objs.size (.tup [x,y])) { s with heap:=s.heap.push { cls:=.type "tuple",data:=.seq #[8,u,v] },toks:=s.toks }:=
   I.laid (λb o e=>g_ _ e) (e_ _) #[015210,by show 2<=sizeLine;decide,[u,v],.cons ru (.cons rv .nil),_,gT,1,0]
  have a8:∀c∈[z,TI,TO,i1,i2],gE X pins (upd H s.heap.objs.size (.tup [x,y])) c:=λc O=>
   #[by rw[ak (F9 (ac c O))];exact(hf c O).1,(hf c O).2]
  have I2:=I1.turnedN (h':=a7) (t':=s.toks) (fp:=[z,TI,TO,i1,i2]) (λc o O e=>by
   rcases get?_push_cases e with⟨e1,e2⟩|e1
   ·rw[e1,e2];rwa[hT]
   ·rwa[kk c o O e1]) a8
  erw[24,.ref s.heap.objs.size,_,I2,1,#[34,_,x,y,1,fresh,1,λap q=>by rw[I.seqV_inj q qx];rwa[hx],λav q=>by rw[I.seqV_inj q qy];rwa[hy]],?_,λc O=>(a8 c O).1]
  rwa[a',(sb.2 _ D.TIz).trans (hk _ _ D.TIz D.TITO D.TIi1 D.TIi2 U),#[20,u,v,(sb.2 _ D.TOz).trans a2],a3.at λo e=>(sb.2 _ D.i1z).trans e,a4.at λo e=>(sb.2 _ D.i2z).trans e]
 done:=by
  intro X hP hw hK hL O i pins s σ H E I hf st hg;subst hP hw hK;let#[22,xs,ys,qx,qy,a9]:=hg;let#[04,hz,U,#[xo,yo,Z],h1,h2]:=st;let#[12,ix,rx,px,zx]:=I.seqV qx;let#[12,iy,ry,py,zy]:=I.seqV qy;have na:=gC I hf qx;have nb:=gC I hf qy;simp only[OT,Nm,Pb,not_or] at na nb;have DA:ZipApart z TI TO i1 i2 a b:=#[D.TIz,D.TOz,D.i1z,D.i2z,D.TITO,D.TIi1,D.TIi2,D.TOi1,D.TOi2,D.i12,na.1,na.2.2.1,na.2.2.2.1,na.2.2.2.2,nb.1,nb.2.2.1,nb.2.2.2.1,nb.2.2.2.2];have lx:=rx.length;have ly:=ry.length;erw[kR (I.hn O) (λc h=>I.hni O (hf c (by simp only[OT,Nm,Pb] at h ⊢;rcases h with h|h|h|h<;>simp[h])).2.2.2.1) DA hz U Z h1 h2 px py ?_ λh' hk=>#[1,I.turnedN (t':=s.toks) (λc o O e=>?_) hf]]
  ·rcases a9 with q|q
   ·rwa[.inl (by simp;lia)]
   ·rwa[.inr (by simp;lia)]
  ·simp only[OT,Nm,Pb,not_or] at O;rwa[hk c o O.1 O.2.2.1 O.2.2.2.1 O.2.2.2.2 e]
 self:=λ_ _ _ _ _ st h=>wpAny_pyIter_zip st.1 h
def F2(t1 t2:Bool)(K:Frag)(ta:TA):TI:=λσ H R=>ta σ H λvs H1=>∃a b,vs=[.ref a,.ref b]/\(∃xs,SqV t1 K H1 a xs)/\(∃ys,SqV t2 K H1 b ys)/\R (Itz t1 t2 K a b) H1
theorem Dh(t1 t2:Bool){a b:Expr}(hg:Gl X "zip")(hm:X.mg "zip" = none)(ha:PA X [a,b] ta)(hs:starEach [a,b] X.env=[(false,eval a X.env),(false,eval b X.env)]:=by rfl)(hs2:starEach [b] X.env=[(false,eval b X.env)]:=by rfl):
  PI X (.Tuple es ek ep) (.Call (.Name "zip" p) [a,b] [] pos) (F2 t1 t2 X.K ta):=by
 intros R I h;erw[Call_ (eB I hg hm boot_zip (Mt (thn (ha pos pins s σ H _ I h) λus s1 ⟨vs,H1,O,r1,q1⟩=>?_) (by rw[hs,hs2]) (by rw[hs2];rfl)))]
 let#[23,l1,l2,e,#[xs,qx],#[ys,qy],q]:=q1;subst e;cases r1 with
 |cons r rr=>
  cases rr with
  |cons r' rr=>
   cases rr;cases r;cases r';let#[12,ix,rx,px,zx]:=O.seqV qx;let#[12,iy,ry,py,zy]:=O.seqV qy;erw[xP px py λh' Z a2 a3 a4 a5 a6 a7=>?_]
   have I2:Inv X pins σ H1 { s1 with heap:=h',toks:=s1.toks }:=O.kept a7
   erw[wpAny_pyIter_zip (s:={ s1 with heap:=h' }) Z ?_]
   erw[4015,_,[s1.heap.objs.size+4,s1.heap.objs.size+2,s1.heap.objs.size+3,s1.heap.objs.size,s1.heap.objs.size+1],_,_,H1,1,I2,Aj l1 l2 (s1.heap.objs.size+4) (s1.heap.objs.size+2) (s1.heap.objs.size+3) s1.heap.objs.size (s1.heap.objs.size+1) (Fb _),#[Z,a2,#[20,_,_,a3],a4,a5],λb hb=>?_,q]
   have U:s1.heap.objs.size<=b:=by
    simp only[OT,Nm,Pb] at hb
    rcases hb with rfl|rfl|rfl|rfl|rfl
    ·rwa[Py _ _]
    ·rwa[Py _ _]
    ·rwa[Py _ _]
    ·rwa[e_ _]
    ·rwa[Py _ _]
   rwa[O.fpOk U (O.hok.fresh U)]
mutual
inductive DR (K:Frag) (H:Hp):PyData->V->Prop
 |non:DR K H .none .non
 |bl (b:Bool):DR K H (.bool b) (.bl b)
 |int (i:Int):DR K H (.int i) (.int i)
 |str (x:Str):DR K H (.str x) (.str x)
 |tup {a:Addr} {vs:List V} {ds:List PyData}:SqT K H a vs->DRs K H ds vs->DR K H (.tuple ds) (.ref a)
 |lst {a:Addr} {vs:List V} {ds:List PyData}:SqL K H a vs->DRs K H ds vs->DR K H (.list ds) (.ref a)
inductive DRs (K:Frag) (H:Hp):List PyData->List V->Prop
 |nil:DRs K H [] []
 |cons {d:PyData} {v:V} {ds:List PyData} {vs:List V}:DR K H d v->DRs K H ds vs->DRs K H (d::ds) (v::vs)
end
section
mutual
theorem DR.reads(I:#[7,7]):∀{d:PyData} {v:V} {u:Value},DR X.K H d v->Gf v u->∃as,Reads s.heap u d as
 |_,_,_,.non,r=>by cases (show _=Value.none from r);rwa[_,.none]
 |_,_,_,.bl b,r=>by cases (show _=Value.bool b from r);rwa[_,.bool b]
 |_,_,_,.int i,r=>by let#[t,q]:=(show ∃t,_=Value.int i t from r);subst q;rwa[_,.int i t]
 |_,_,_,.str x,r=>by let#[t,q]:=(show ∃t,_=Value.str x t from r);subst q;rwa[_,.str x t]
 |_,_,_,.tup (a:=a) q qs,r=>by
  cases (show _=Value.ref a from r)
  let#[12,its,U,#[o,e,c,n,d],z]:=I.tuple q;let#[as,O]:=DRs.reads I qs U;rwa[as,.tuple e c d (by simpa using O)]
 |_,_,_,.lst (a:=a) q qs,r=>by
  cases (show _=Value.ref a from r)
  let#[12,its,U,#[o,n,e,c,_,d],z]:=I.list q;let#[as,O]:=DRs.reads I qs U;rwa[_,.list e c d (by simpa using O)]
theorem DRs.reads(I:#[7,7]):∀{ds:List PyData} {vs:List V} {us:List Value},DRs X.K H ds vs->Ge vs us->∃as,ReadsAll s.heap us ds as
 |_,_,_,.nil,r=>by cases r;rwa[_,.nil]
 |_,_,_,.cons q qs,r=>by
  cases r with
  |cons r rr=>
   let#[as,O]:=DR.reads I q r;let#[bs,U]:=DRs.reads I qs rr;rwa[_,.cons O U]
end
def FC(K:Frag):R2:=λx y H Q=>∃d e,DR K H d x/\DR K H e y/\SeqAt.shaped d=true/\SeqAt.shaped e=true/\Q (.bl (PyData.eqv d e)) H
def EW(K:Frag):R2:=λx y H Q=>∃d e,DR K H d x/\DR K H e y/\SeqAt.shaped d=true/\SeqAt.shaped e=true/\Q (.bl (!PyData.eqv d e)) H
theorem EO(hu:X.A.units+64<cLine):OpR X (compareOp .Eq) (FC X.K):=by
 intros x y v u Q I rx ry h;let#[24,d,e,dx,O,sx,sy,q]:=h;let#[as,U]:=dx.reads I rx;let#[bs,Z]:=O.reads I ry;rwa[eq_dataH U Z sx sy hu #[22,.bl _,H,I,1,q]]
theorem Dm(hu:X.A.units+64<cLine):OpR X (compareOp .NotEq) (EW X.K):=by
 intros x y v u Q I rx ry h;let#[24,d,e,dx,O,sx,sy,q]:=h;let#[as,U]:=dx.reads I rx;let#[bs,Z]:=O.reads I ry;rwa[ne_dataH U Z sx sy hu #[22,.bl _,H,I,1,q]]
end
def jC(ns:List Int):PyData:=.tuple (ns.map .int)
theorem jm:∀ns:List Int,DRs K H (ns.map PyData.int) (ns.map V.int)
 |[]=>.nil
 |n::r=>.cons (.int n) (jm r)
theorem jf(h:SqT K H a (ns.map V.int)):DR K H (jC ns) (.ref a):=.tup h (jm ns)
theorem dF(ns:List Int):SeqAt.shaped (jC ns)=true:=by
 simp[jC,SeqAt.shaped,PyData.canLay0,PyData.depth,PySem.W.ke_canLayAll0,PySem.W.ke_depthAll]
theorem kG:∀ns ms:List Int,PyData.eqvAll (ns.map PyData.int) (ms.map PyData.int)=decide (ns=ms)
 |[],[]=>by simp[PyData.eqvAll]
 |[],_::_=>by simp[PyData.eqvAll]
 |_::_,[]=>by simp[PyData.eqvAll]
 |a::r,b::t=>by
  simp only[NF,PyData.eqvAll,PyData.eqv,kG r t]
  by_cases h:a=b<;>by_cases h':r=t<;>simp[h,h']
theorem mK(ns ms:List Int):PyData.eqv (jC ns) (jC ms)=decide (ns=ms):=by
 simp only[jC,PyData.eqv];rwa[kG ns ms]
section
theorem Walks.sq(t:Bool)(hh:A.handled=none)(I ax:Addr)(hne:ax≠I)(items:Array Value):
  Walks prog w A I [I,ax] [I] items.size (λi v=>items[i]? = some v) (λi h=>SqI t h I ax i/\SqO t h ax items):=by
 cases t
 ·rwa[Walks.list hh I ax hne items]
 ·rwa[Walks.tuple hh I ax hne items]
theorem wW(t:Bool)(hn:Hn A s.heap)(I ax:Addr)(hI:A.handled≠some (.ref I))(hne:ax≠I)(items:Array Value):
  ∃fp,Walks prog w A I fp [I] items.size (λi v=>items[i]? = some v) (λi h=>(SqI t h I ax i/\SqO t h ax items)/\Hn A h):=by
 cases t
 ·rwa[rK hn I ax hI hne items]
 ·rwa[qp hn I ax hI hne items]
theorem wG(hc:X.calm=true)(t:Bool):cU X (.builtin "all") (λxs H Q=>∃(p:Addr) (bs:List Bool),xs=[.ref p]/\SqV t X.K H p (bs.map V.bl)/\Q (.bl (bs.all id)) H):=by
 intros xs us Q I rv h;let#[22,p,bs,1,q,hq]:=h;let#[u,1,ru]:=eS rv;cases ru;let#[12,its,rb,po,z]:=I.seqV q;erw[call_all_walk (jX po λo hi=>?_)]
 have a1:p<s.heap.objs.size:=by let#[ob,e]:=po.obj;rwa[Hl e]
 have hh:Hn X.A.in1 s.heap:=I.hn hc;let#[a2,W]:=wW (prog:=X.prog) (w:=X.w) (A:=X.A.in1) (s:=s) t hh s.heap.objs.size p (hh.ne (e_ _)) (F9 a1) its.toArray;erw[4034,s.heap.objs.size,_,_,_,_,_,λi=>bs.getD i false,1,W,#[#[hi,po.at λo' e=>g_ _ e],hh.keeps λb o' e=>g_ _ e],?_,λh' tk hk=>?_]
 ·intro i v s' Q' E' hv hQ;have Z:its[i]? = some v:=by simpa using hv
  have O:=rb.length;have a3:i<its.length:=(y_.mp Z).1;rw[z_] at O;have U:(bs.map V.bl)[i]? = some (.bl (bs.getD i false)):=by
   rw[Hx,LR,ge ()]
   rfl
  let#[u,hu,ru]:=rb.get U;rw[Z] at hu;cases hu;cases (show v=Value.bool _ from ru)
  rwa[On hQ]
 ·have I1:Inv X pins σ H { s with heap:=s.heap.push o,toks:=s.toks }:=I.kept λb u e=>g_ _ e
  have fp:gE X pins H s.heap.objs.size:=I.fpOk (e_ _) (I.hok.fresh (e_ _));have I2:Inv X pins σ H { s with heap:=h',toks:=tk }:=by
   have:=I1.turnedN (fp:=[s.heap.objs.size]) (h':=h') (t':=tk) (λb ob U e=>hk b ob U e) (λb U=>by have e:b=s.heap.objs.size:=(by simpa using U);subst e;rwa[fp])
   rwa[this]
  erw[22,.bl (bs.all id),H,I2,?_,hq];show Value.bool _=Value.bool _;congr 1;have O:=rb.length;rw[z_] at O;have hsz:its.toArray.size=bs.length:=by simp[O]
  rw[hsz];rw[Bool.eq_iff_iff];simp only[Q8,mem_range]
  constructor
  ·intro h b U;let#[i,hi,1]:=List.getElem_of_mem U;have:=h i hi;simpa[LR,ge hi] using this
  ·intro h i hi;have:=h (bs[i]) (NX hi);simpa[LR,ge hi] using this
theorem qT(ns:List Int):∀k,k<=ns.length->preSum (λi=>ns.getD i 0) k=(ns.take k).sum:=by
 intro k
 induction k with
 |zero=>intro _;rfl
 |succ k ih=>
  intro h;have e:=ih ()
  show preSum _ k+_=_;rw[e,take_succ,sum_append,ge ()]
  show _+ns.getD k 0=_;rw[LR,ge ()]
  simp
theorem wE(hc:X.still)(t:Bool):cU X (.builtin "sum") (λxs H Q=>∃(p:Addr) (ns:List Int),xs=[.ref p]/\SqV t X.K H p (ns.map V.int)/\Q (.int ns.sum) H):=by
 intros xs us Q I rv h;let#[22,p,ns,1,q,hq]:=h;let#[u,1,ru]:=eS rv;cases ru;let#[12,its,rb,po,z]:=I.seqV q;have hh:X.A.in1.handled=none:=I.hd0 hc;erw[call_sum_walkG (jX po λo hi=>?_)]
 have Z:p<s.heap.objs.size:=by let#[ob,e]:=po.obj;rwa[Hl e]
 erw[4035,s.heap.objs.size,_,_,_,_,_,λi=>ns.getD i 0,1,Walks.sq t hh s.heap.objs.size p (F9 Z) its.toArray,#[hi,po.at λo' e=>g_ _ e],λb U=>?_,?_,λh' tk t' hk=>?_]
 ·show b<(s.heap.push o).objs.size;rw[Ps]
  rcases HB.mp U with rfl|U
  ·rwa[Pt _]
  ·rcases HB.mp U with rfl|U
   ·rwa[O3 Z]
   ·cases U
 ·intro i v hv;have a1:its[i]? = some v:=by simpa using hv
  have O:=rb.length;have a2:i<its.length:=(y_.mp a1).1;rw[z_] at O;have U:(ns.map V.int)[i]? = some (.int (ns.getD i 0)):=by
   rw[Hx,LR,ge ()]
   rfl
  let#[u,hu,ru]:=rb.get U;rw[a1] at hu;cases hu;rwa[ru]
 ·have I1:Inv X pins σ H { s with heap:=s.heap.push o,toks:=s.toks }:=I.kept λb u e=>g_ _ e
  have fp:gE X pins H s.heap.objs.size:=I.fpOk (e_ _) (I.hok.fresh (e_ _));have I2:Inv X pins σ H { s with heap:=h',toks:=tk }:=by
   have:=I1.turnedN (fp:=[s.heap.objs.size]) (h':=h') (t':=tk) (λb ob U e=>hk b ob U e) (λb U=>by have e:b=s.heap.objs.size:=(by simpa using U);subst e;rwa[fp])
   rwa[this]
  have O:=rb.length;rw[z_] at O;have hsz:its.toArray.size=ns.length:=by simp[O]
  erw[22,.int ns.sum,H,I2,#[t',?_],hq];rw[hsz,qT ns _ (e_ _),NI (e_ _)]
end
section
def rIsT(K:Frag):List V->Hp->VK->Prop:=λxs H Q=>∃(x:V) (t:Value) (c:String) (b:Bool),xs=[x,.ty c]/\GE K H x t/\kitOne K t (.type c)=some b/\Q (.bl b) H
theorem xY:cU X (.builtin "isinstance") (rIsT X.K):=by
 intros xs us Q I Z h;let#[43,x,t,c,b,1,ty,e,q]:=h;let#[22,u,u',1,O,U]:=yi Z;cases (show u'=Value.type c from U)
 rwa[we I O ty e λtk=>#[22,.bl b,H,I.tok tk,1,q]]
theorem kE:bootBuiltins "isinstance"=some (.builtin "isinstance"):=#[5]
theorem xk:bootBuiltins "all"=some (.builtin "all"):=#[5]
theorem xJ:bootBuiltins "sum"=some (.builtin "sum"):=#[5]
theorem pf:bootBuiltins "max"=some (.builtin "max"):=#[5]
theorem wC:bootBuiltins "abs"=some (.builtin "abs"):=#[5]
theorem eT:bootBuiltins "tuple"=some (.type "tuple"):=#[5]
theorem dh:bootBuiltins "list"=some (.type "list"):=#[5]
theorem gZ:bootBuiltins "int"=some (.type "int"):=#[5]
theorem mw:bootBuiltins "bool"=some (.type "bool"):=#[5]
theorem j8:bootBuiltins "ValueError"=some (.type "ValueError"):=#[5]
theorem br:OpR X (binaryOp .Mult) (rI IntMulOk λi j=>.int (i*j)):=opI λ_ _ _ _ _ _ _ O q=>mul_int q O
end
structure FnB (P:Program) (w:World) (K:Frag) (mg:Str->Option Value) (base:Heap) (k:Nat) (x:Str) (sp:Sp):Prop where
 ex:∃f fd ps,`Gd CX0 k f fd ps sp/\mg x=some (.ref f)/\keepIn K (.ref f)=true/\Gq K fd ps []
structure Blt (mg:Str->Option Value):Prop where
 len:mg "len" = none
 range:mg "range" = none
 zip:mg "zip" = none
 all:mg "all" = none
 sum:mg "sum" = none
 max:mg "max" = none
 min:mg "min" = none
 abs:mg "abs" = none
 tuple:mg "tuple" = none
 list:mg "list" = none
 int:mg "int" = none
 bool:mg "bool" = none
 isinst:mg "isinstance" = none
 enum:mg "enumerate" = none
 sorted:mg "sorted" = none
 set:mg "set" = none
 str:mg "str" = none
section
variable {t:TA}
theorem az{k:Nat}(F:FnB X.prog X.w X.K X.mg X.base k x sp)(hr:Gi X.base k X.A)(ha:PA X (e::es) t)(hg:Gl X x:=by rfl)(hdb:(x==("__debug__" : Str))=false:=by decide)(he:starEach (e::es) X.env=(false,eval e X.env)::starEach es X.env:=by rfl)(hpl:(backTo pos (starEach es X.env)).any (·.1)=false:=by rfl):PE X (.Call (.Name x p) (e::es) [] pos) (sr sp [] E0 t):=by
 let#[33,f,fd,ps,O,hm,hk,U]:=F.ex;rwa[uM O hr hg hm hk U .nil vd ha hdb he hpl]
theorem EB(T:Blt X.mg)(ha:PE X e te)(hg:Gl X "len":=by rfl)(hs:starEach [e] X.env=[(false,eval e X.env)]:=by rfl):PE X (.Call (.Name "len" p) [e] [] pos) (tCB (λxs H Q=>∃p ys,xs=[.ref p]/\(SqL X.K H p ys\/SqT X.K H p ys)/\Q (.int ys.length) H) (ci te cQ)):=
 cJ qt hg T.len PySem.boot_len (aa ha ag hs) #[] #[] hs
theorem DV(T:Blt X.mg)(ha:PE X e te)(b:Bool)(hc:X.calm=true:=by rfl)(hg:Gl X "all":=by rfl)(hs:starEach [e] X.env=[(false,eval e X.env)]:=by rfl):PE X (.Call (.Name "all" p) [e] [] pos) (tCB (λxs H Q=>∃(p:Addr) (bs:List Bool),xs=[.ref p]/\SqV b X.K H p (bs.map V.bl)/\Q (.bl (bs.all id)) H) (ci te cQ)):=
 cJ (wG hc b) hg T.all xk (aa ha ag hs) #[] #[] hs
theorem EQ(T:Blt X.mg)(ha:PE X e te)(b:Bool)(hc:X.still:=by rwa[1,by first|assumption|exact(‹Quiet _›).q])(hg:Gl X "sum":=by rfl)(hs:starEach [e] X.env=[(false,eval e X.env)]:=by rfl):PE X (.Call (.Name "sum" p) [e] [] pos) (tCB (λxs H Q=>∃(p:Addr) (ns:List Int),xs=[.ref p]/\SqV b X.K H p (ns.map V.int)/\Q (.int ns.sum) H) (ci te cQ)):=
 cJ (wE hc b) hg T.sum xJ (aa ha ag hs) #[] #[] hs
theorem Ba(T:Blt X.mg)(ha:PE X e te)(hg:Gl X "tuple":=by rfl)(hs:starEach [e] X.env=[(false,eval e X.env)]:=by rfl):PE X (.Call (.Name "tuple" p) [e] [] pos) (tCB (λxs H Q=>∃p ys,xs=[.ref p]/\SqL X.K H p ys/\∀l,H l=none->Q (.ref l) (upd H l (.tup ys))) (ci te cQ)):=by
 erw[cZ (r:=λxs H Q=>∃p ys,xs=[.ref p]/\SqL X.K H p ys/\∀l,H l=none->Q (.ref l) (upd H l (.tup ys))) ?_ hg T.tuple eT (aa ha ag hs) #[] #[] hs]
 intros xs us Q I U h;let#[22,p,ys,1,q,O]:=h;rwa[nN pins s σ H _ us Q I U #[21,p,ys,1,.inl #[q,O]]]
theorem DE(T:Blt X.mg)(ha:PA X [e,e2] t)(hc:X.still:=by rwa[1,by first|assumption|exact(‹Quiet _›).q])(hg:Gl X "max":=by rfl)(he:starEach [e,e2] X.env=(false,eval e X.env)::starEach [e2] X.env:=by rfl)(hpl:(backTo pos (starEach [e2] X.env)).any (·.1)=false:=by rfl):
  PE X (.Call (.Name "max" p) [e,e2] [] pos) (tCB (λxs H Q=>∃i j,xs=[.int i,.int j]/\Q (.int (if j>i then j else i)) H) t):=
 cJ (xr hc) hg T.max pf ha #[] #[] he hpl
theorem pX(T:Blt X.mg)(ha:PE X e te)(hg:Gl X "abs":=by rfl)(hs:starEach [e] X.env=[(false,eval e X.env)]:=by rfl):PE X (.Call (.Name "abs" p) [e] [] pos) (tCB (λxs H Q=>∃i,xs=[.int i]/\Q (.int (if i<0 then -i else i)) H) (ci te cQ)):=
 cJ yT hg T.abs wC (aa ha ag hs) #[] #[] hs
def Cc(K:Frag):List V->Hp->VK->Prop:=λxs H Q=>match xs with
 |[x,.ty c]=>∃(t:Value) (b:Bool),GE K H x t/\kitOne K t (.type c)=some b/\Q (.bl b) H
 |_=>False
theorem zj:cU X (.builtin "isinstance") (Cc X.K):=by
 intros xs us Q I O h;unfold Cc at h
 split at h
 ·let#[22,t,b,ty,e,q]:=h;rwa[xY pins s σ H _ us Q I O #[43,_,t,_,b,1,ty,e,q]]
 ·rwa[h.elim]
theorem Fi(T:Blt X.mg)(ha:PE X e te)(hm:X.mg cn=none)(hv:bootBuiltins cn=some (.type c))(hg:Gl X "isinstance":=by rfl)(hg2:Gl X cn:=by rfl)(hn:cn≠"__name__":=by decide)(hd:(cn==("__debug__" : Str))=false:=by decide)(he:starEach [e,.Name cn p2] X.env=(false,eval e X.env)::starEach [.Name cn p2] X.env:=by rfl)(he2:starEach [.Name cn p2] X.env=[(false,eval (.Name cn p2) X.env)]:=by rfl):
  PE X (.Call (.Name "isinstance" p) [e,.Name cn p2] [] pos) (tCB (Cc X.K) (ci te (ci (tC (.ty c)) cQ))):=
 cJ (X:=X) (p:=p) (pos:=pos) zj hg T.isinst kE (aa ha (aa (vN (v:=.ty c) (pos:=p2) hg2 hm hv rfl hn hd) ag he2) he) #[] #[] he (by rw[he2];rfl)
end
theorem mq{acc:Addr}{Q:VK}(Pv:Nat->List V->St->Hp->Prop)(hn:n<=sizeLine)(h0:Pv 0 [] σ0 (upd H0 acc (.lst [])))(hgo:∀i zs σ H,i<n->H acc=some (.lst zs)->Pv i zs σ H->J.go i H)(hst:∀zs σ H,H acc=some (.lst zs)->Pv n zs σ H->J.stop n H)(hs:∀i zs σ H x H',i<n->H acc=some (.lst zs)->zs.length<=i->Pv i zs σ H->J.yld i H x H'->g x σ H' λσ2 H2=>tt σ2 H2 λb U=>
   if b=true then te σ2 U λy Z=>∃ys,Z acc=some (.lst ys)/\ys.length<sizeLine/\∃zs,(upd Z acc (.lst (ys++[y]))) acc=some (.lst zs)/\zs.length<=i+1/\Pv (i+1) zs σ2 (upd Z acc (.lst (ys++[y])))
   else ∃zs,U acc=some (.lst zs)/\zs.length<=i+1/\Pv (i+1) zs σ2 U)(hd:∀zs σ H,H acc=some (.lst zs)->zs.length<=n->Pv n zs σ H->Q (.ref acc) H):
  ∃W:Nat->Nat->St->Hp->Prop,(∃m,W 0 m σ0 (upd H0 acc (.lst [])))/\∀i m σ H,W i m σ H->
   (J.stop i H/\Q (.ref acc) H)\/(J.go i H/\∃N:St->Hp->Prop,(∀σ' H',N σ' H'->∃m',m'<m/\W (i+1) m' σ' H')/\∀x H',J.yld i H x H'->g x σ H' λσ2 H2=>tt σ2 H2 λb U=>
    if b=true then te σ2 U λy Z=>∃ys,Z acc=some (.lst ys)/\ys.length<sizeLine/\N σ2 (upd Z acc (.lst (ys++[y]))) else N σ2 U):=by
 erw[λi m σ H=>m=n-i/\i<=n/\∃zs,H acc=some (.lst zs)/\zs.length<=i/\Pv i zs σ H,#[n,by simp,Hj _,[],ae,e_ _,h0],?_]
 rintro i m σ H ⟨rfl,hi,zs,hz,hl,p⟩
 by_cases O:i<n
 ·erw[.inr #[hgo i zs σ H O hz p,λσ' H'=>∃zs,H' acc=some (.lst zs)/\zs.length<=i+1/\Pv (i+1) zs σ' H',λσ' H' p'=>#[n-(i+1),(),1,O,p'],λx H' y=>?_]]
  rwa[hs i zs σ H x H' O hz hl p y]
 ·have e:i=n:=()
  subst e;rwa[.inl #[hst zs σ H hz p,hd zs σ H hz hl p]]
theorem Ga.sqT(e:Ga H H')(h:SqT K H a xs):SqT K H' a xs:=by
 rcases h with(h|⟨o,h⟩)|h
 ·rwa[.inl (.inl (e _ _ h))]
 ·rwa[.inl (.inr #[o,e _ _ h])]
 ·rwa[.inr h]
theorem Ga.sqV{t:Bool}(e:Ga H H')(h:SqV t K H a xs):SqV t K H' a xs:=by
 cases t
 ·rwa[Ga.seq e h]
 ·rwa[Ga.sqT e h]
theorem Ga.new{o:HO}(h:H a=none):Ga H (upd H a o):=λb u e=>by rw[ak (al e h)];rwa[e]
theorem Ga.put{o:HO}(s:Ga H H')(h:H a=none):Ga H (upd H' a o):=λb u e=>by rw[ak (al e h)];rwa[s b u e]
theorem qB{α β γ:Type}(f:α->β->γ):∀(xs:List α) (ys:List β) (i:Nat) (x:α) (y:β),xs[i]? = some x->ys[i]? = some y->(List.zipWith f xs ys).take (i+1)=(List.zipWith f xs ys).take i++[f x y]:=by
 intro xs ys i x y O U;rw[take_succ,List.getElem?_zipWith,O,U]
 rfl
theorem An{α β:Type}(f:α->β)(xs:List α)(i:Nat)(x:α)(hx:xs[i]? = some x):(xs.map f).take (i+1)=(xs.map f).take i++[f x]:=by
 rw[take_succ,Hx,hx]
 rfl
theorem yp{K':Frag}{b:Addr}{ys:List V}{Q:VK}{σ:St}(f:V->V->V)(hσ:cH src σ=none::none::rest)(hx:SqV t1 K H0 a xs)(hy:SqV t2 K H0 b ys)(hl:xs.length<=sizeLine)(he:∀(i:Nat) x y H (R:VK),xs[i]? = some x->ys[i]? = some y->Ga H0 H->R (f x y) H->te (some x::some y::rest) H R)(hd:∀acc H,H0 acc=none->Ga H0 H->H acc=some (.lst (List.zipWith f xs ys))->Q (.ref acc) H):
  bZ (Itz t1 t2 K a b) src (zL K' 2 (iu (bP 0) (iu (bP 1) Bg))) kO te σ H0 Q:=by
 intro acc U;rw[hσ];have a6:(List.zipWith f xs ys).length=min xs.length ys.length:=length_zipWith;erw[mq (n:=min xs.length ys.length) (λi zs σ H=>Ga H0 H/\zs=(List.zipWith f xs ys).take i/\∃u v,σ=u::v::rest) () #[0220,Ga.new U,1,none,none,1] ?_ ?_ ?_ ?_]
 ·rintro i zs σ H hi hz ⟨O,_⟩;rwa[43,xs,ys,xs[i]'(),ys[i]'(),O.sqV hx,O.sqV hy,by simp,by simp]
 ·rintro zs σ H hz ⟨O,_⟩;erw[22,xs,ys,O.sqV hx,O.sqV hy,?_];lia
 ·rintro i zs σ H x H' hi hz a5 ⟨O,ez,u,v,rfl⟩ ⟨p,x1,Z,rfl,hp,rfl,gx,gy⟩;have a2:=gx xs (O.sqV hx);have a3:=gy ys (O.sqV hy);have a4:acc≠p:=al hz hp;have a1:H0 p=none:=O.free hp;erw[232122,p,[x1,Z],1,SqT.of ae,1,x1,[Z],1,Z,[],1,1,?_];show te (some x1::some Z::rest) _ _;erw[he i x1 Z _ _ a2 a3 (O.put a1) ?_];erw[121420,zs,by rw[ak a4];rwa[hz],(),zs++[f x1 Z],ae,by rw[x_,He];lia,(O.put a1).put U,?_,_,0]
  rw[qB f xs ys i x1 Z a2 a3,ez]
 ·rintro zs σ H hz a5 ⟨O,ez,_⟩;erw[hd acc H U O ?_];rw[hz,ez,NI ()]
theorem cc{Q:VK}{σ:St}(hσ:cH src σ=σ0)(Pv:Addr->Nat->List V->St->Hp->Prop)(hn:n<=sizeLine)(h0:∀acc,H0 acc=none->Pv acc 0 [] σ0 (upd H0 acc (.lst [])))(hgo:∀acc i zs σ H,H0 acc=none->i<n->H acc=some (.lst zs)->Pv acc i zs σ H->J.go i H)(hst:∀acc zs σ H,H0 acc=none->H acc=some (.lst zs)->Pv acc n zs σ H->J.stop n H)(hs:∀acc i zs σ H x H',H0 acc=none->i<n->H acc=some (.lst zs)->zs.length<=i->Pv acc i zs σ H->J.yld i H x H'->g x σ H' λσ2 H2=>tt σ2 H2 λb U=>
   if b=true then te σ2 U λy Z=>∃ys,Z acc=some (.lst ys)/\ys.length<sizeLine/\∃zs,(upd Z acc (.lst (ys++[y]))) acc=some (.lst zs)/\zs.length<=i+1/\Pv acc (i+1) zs σ2 (upd Z acc (.lst (ys++[y])))
   else ∃zs,U acc=some (.lst zs)/\zs.length<=i+1/\Pv acc (i+1) zs σ2 U)(hd:∀acc zs σ H,H0 acc=none->H acc=some (.lst zs)->zs.length<=n->Pv acc n zs σ H->Q (.ref acc) H):bZ J src g tt te σ H0 Q:=by
 intro acc O;rw[hσ];rwa[mq (Pv acc) hn (h0 acc O) (λi zs σ H=>hgo acc i zs σ H O) (λzs σ H=>hst acc zs σ H O) (λi zs σ H x H'=>hs acc i zs σ H x H' O) (λzs σ H=>hd acc zs σ H O)]
theorem bL{i:Nat}(hN:X.N.Nodup)(hi:X.N[i]? = some x)(hx:X.env.scope.names.lookup x=some .local):PG X (.Name x pos) (bP i):=aM hN hi (.inl hx) (.inr hx)
section
variable (K:Frag){t:TA}
theorem bx{i j:Nat}{p1:Pos}{k:Nat}(hK:X.K=K)(hc:X.calm=true)(hN:X.N.Nodup)(hi:X.N[i]? = some x)(hj:X.N[j]? = some y)(hx:X.env.scope.names.lookup x=some .local)(hy:X.env.scope.names.lookup y=some .local):
  PG X (.Tuple [.Name x p1,.Name y p2] k pos) (zL K 2 (iu (bP i) (iu (bP j) Bg))):=by
 subst hK;rwa[km hc (aS (bL hN hi hx) (aS (bL hN hj hy) ii))]
theorem aH(hK:X.K=K):IxR X (FJ K):=hK▸BS
theorem aA(hK:X.K=K):IxR X (FP K):=hK▸Dq
theorem bh(hK:X.K=K):SlR X (wf K):=hK▸BV
theorem BJ(hK:X.K=K):SlR X (EY K):=hK▸Dz
theorem keqD(hK:X.K=K)(hu:X.A.units+64<cLine):OpR X (compareOp .Eq) (FC K):=hK▸EO hu
theorem zK(hK:X.K=K)(hu:X.A.units+64<cLine):OpR X (compareOp .NotEq) (EW K):=hK▸Dm hu
theorem aG(hK:X.K=K)(hl:PE X e te):PI X tg e (CW K te):=hK▸Bw hl
theorem BW(hK:X.K=K)(hl:PE X e te):PI X tg e (FZ K te):=hK▸DZ hl
theorem qo(t1 t2:Bool){a b:Expr}(hK:X.K=K)(hg:Gl X "zip")(hm:X.mg "zip" = none)(ha:PA X [a,b] ta)(hs:starEach [a,b] X.env=[(false,eval a X.env),(false,eval b X.env)]:=by rfl)(hs2:starEach [b] X.env=[(false,eval b X.env)]:=by rfl):
  PI X (.Tuple es ek ep) (.Call (.Name "zip" p) [a,b] [] pos) (F2 t1 t2 K ta):=hK▸Dh t1 t2 hg hm ha hs hs2
def rLen(K:Frag):List V->Hp->VK->Prop:=λxs H Q=>∃p ys,xs=[.ref p]/\(SqL K H p ys\/SqT K H p ys)/\Q (.int ys.length) H
def rAll(b:Bool)(K:Frag):List V->Hp->VK->Prop:=λxs H Q=>∃(p:Addr) (bs:List Bool),xs=[.ref p]/\SqV b K H p (bs.map V.bl)/\Q (.bl (bs.all id)) H
def rSum(b:Bool)(K:Frag):List V->Hp->VK->Prop:=λxs H Q=>∃(p:Addr) (ns:List Int),xs=[.ref p]/\SqV b K H p (ns.map V.int)/\Q (.int ns.sum) H
def EA(K:Frag):List V->Hp->VK->Prop:=λxs H Q=>∃p ys,xs=[.ref p]/\SqL K H p ys/\∀l,H l=none->Q (.ref l) (upd H l (.tup ys))
theorem bY(T:Blt X.mg)(ha:PE X e te)(hK:X.K=K:=by rfl)(hg:Gl X "len":=by rfl)(hs:starEach [e] X.env=[(false,eval e X.env)]:=by rfl):PE X (.Call (.Name "len" p) [e] [] pos) (tCB (rLen K) (ci te cQ)):=by
 subst hK;rwa[EB T ha hg hs]
theorem lD(T:Blt X.mg)(ha:PE X e te)(b:Bool)(hK:X.K=K:=by rfl)(hc:X.calm=true:=by rfl)(hg:Gl X "all":=by rfl)(hs:starEach [e] X.env=[(false,eval e X.env)]:=by rfl):PE X (.Call (.Name "all" p) [e] [] pos) (tCB (rAll b K) (ci te cQ)):=by
 subst hK;rwa[DV T ha b hc hg hs]
theorem BK(T:Blt X.mg)(ha:PE X e te)(b:Bool)(hK:X.K=K:=by rfl)(hc:X.still:=by rwa[1,by first|assumption|exact(‹Quiet _›).q])(hg:Gl X "sum":=by rfl)(hs:starEach [e] X.env=[(false,eval e X.env)]:=by rfl):PE X (.Call (.Name "sum" p) [e] [] pos) (tCB (rSum b K) (ci te cQ)):=by
 subst hK;rwa[EQ T ha b hc hg hs]
theorem j5(T:Blt X.mg)(ha:PE X e te)(hK:X.K=K:=by rfl)(hg:Gl X "tuple":=by rfl)(hs:starEach [e] X.env=[(false,eval e X.env)]:=by rfl):PE X (.Call (.Name "tuple" p) [e] [] pos) (tCB (EA K) (ci te cQ)):=by
 subst hK;rwa[Ba T ha hg hs]
theorem eG(T:Blt X.mg)(ha:PE X e te)(hm:X.mg cn=none)(hv:bootBuiltins cn=some (.type c))(hK:X.K=K:=by rfl)(hg:Gl X "isinstance":=by rfl)(hg2:Gl X cn:=by rfl)(hn:cn≠"__name__":=by decide)(hd:(cn==("__debug__" : Str))=false:=by decide)(he:starEach [e,.Name cn p2] X.env=(false,eval e X.env)::starEach [.Name cn p2] X.env:=by rfl)(he2:starEach [.Name cn p2] X.env=[(false,eval (.Name cn p2) X.env)]:=by rfl):
  PE X (.Call (.Name "isinstance" p) [e,.Name cn p2] [] pos) (tCB (Cc K) (ci te (ci (tC (.ty c)) cQ))):=by
 subst hK;rwa[Fi T ha hm hv hg hg2 hn hd he he2]
end
section
variable (K:Frag){t:TA}
def Dl(K:Frag):List V->Hp->VK->Prop:=λxs H Q=>∃p ys,xs=[.ref p]/\(SqL K H p ys\/SqT K H p ys)/\∀l,H l=none->Q (.ref l) (upd H l (.lst ys))
theorem jg(T:Blt X.mg)(ha:PE X e te)(hK:X.K=K:=by rfl)(hg:Gl X "list":=by rfl)(hs:starEach [e] X.env=[(false,eval e X.env)]:=by rfl):PE X (.Call (.Name "list" p) [e] [] pos) (tCB (Dl K) (ci te cQ)):=by
 subst hK;rwa[cZ qc hg T.list dh (aa ha ag hs) #[] #[] hs]
end
theorem GE.same{x:V}{t:Value}(s:Ga H H')(h:GE K H x t):GE K H' x t:=by
 cases h with
 |non=>rwa[.non]
 |bl b=>rwa[.bl b]
 |int i=>rwa[.int i]
 |str x=>rwa[.str x]
 |flt x=>rwa[.flt x]
 |lst e=>rwa[.lst (s _ _ e)]
 |frz e=>rwa[.frz (s _ _ e)]
 |tup e=>rwa[.tup (s _ _ e)]
 |dK e=>rwa[.dK (s _ _ e)]
 |dT e=>rwa[.dT (s _ _ e)]
 |ins e cl ha hn htk hm=>rwa[.ins (s _ _ e) cl ha hn htk hm]
theorem p7{t u:TS}(M:St->Hp->Prop)(h1:∀R:St->Hp->Prop,(∀σ' H',M σ' H'->R σ' H')->t { D with nx:=R } σ H)(h2:∀σ' H',M σ' H'->u D σ' H'):ip t u D σ H:=h1 (u D) h2
theorem vQ{i:Nat}{x:V}{t u:TS}(M:St->Hp->Prop)(h1:∀R:St->Hp->Prop,(∀σ' H',M σ' H'->R σ' H')->t { D with nx:=R } (σ.set i (some x)) H)(h2:∀σ' H',M σ' H'->u D σ' H'):bP i x σ H (ip t u D):=h1 (u D) h2
theorem rj:∀{ns ms:List Int},ns.map V.int=ms.map V.int->ns=ms
 |[],[],_=>rfl
 |[],_::_,h=>by cases h
 |_::_,[],h=>by cases h
 |n::ns,m::ms,h=>by
  rw[NF,NF] at h;injection h with h1 h2
  injection h1 with h1
  rw[h1,rj h2]
def Ite(K:Frag)(a:Addr):It:=
 #[λi H=>∃xs x,SqL K H a xs/\xs[i]? = some x,
  λi H v H'=>∃p x,v=.ref p/\H p=none/\H'=upd H p (.tup [.int i,x])/\∀xs,SqL K H a xs->xs[i]? = some x,
  λi H=>∃xs,SqL K H a xs/\xs.length<=i]
theorem wN(a e it:Addr)(hne:e≠it):
  my P w K L (.Tuple es ek ep) (Ite K a) [e,it] e (λi h=>(∃U,IsEnum h e it ((i:Nat):Int) U)/\h.IsListIter it a i) where
 mem:=by simp
 obj:=λi h ⟨⟨U,Z⟩,hi⟩ c O=>by
  simp only[OT,Nm,Pb] at O
  rcases O with rfl|rfl
  ·rwa[_,Z,λv z=>by cases z]
  ·let#[12,o,ho,_,d]:=hi;rwa[o,ho,λv z=>by rw[d] at z;cases z]
 keep:=λi h h' ⟨⟨U,Z⟩,hi⟩ k=>#[#[U,k e (by simp) _ Z],hi.at λo q=>k it (by simp) o q]
 item:=by
  intro X hP hw hK hL O i pins s σ H E I hf st hg;subst hP hw hK;let#[21,xs,x,qx,hx]:=hg;let#[#[U,Z],hi]:=st;let#[12,ix,rx,px,zx]:=I.list qx;let#[u,hu,ru]:=rx.get hx;have na:=gC (t:=false) I hf qx;simp only[OT,Nm,Pb,not_or] at na;erw[wpAny_pyNext_enum_item Z hi px.isList (x:=u) (by simpa using hu) hne λh' a1 a2 a3 a4 hk=>?_]
  erw[0,wpAny_letOwnedTupleGo_enum a1 λa5 a7 sb=>?_]
  have a8:∀c∈[e,it],c<s.heap.objs.size:=λc O=>by
   simp only[OT,Nm,Pb] at O
   rcases O with rfl|rfl
   ·rwa[Hl Z]
   ·let#[o,ho,_]:=hi;rwa[Hl ho]
  have nT:s.heap.objs.size∉[e,it]:=λO=>absurd (a8 _ O) (ME _)
  have kk:∀c o,c∉[e,it]->s.heap.get? c=some o->a5.get? c=some o:=λc o O q=>by
   simp only[OT,Nm,Pb,not_or] at O;exact(sb.2 c O.1).trans (hk c o O.1 O.2 q)
  have hT:a5.get? s.heap.objs.size=some { cls:=.type "tuple",data:=.seq #[8,.int i s.toks,u] }:=(sb.2 _ (λz=>nT (by simp[z]))).trans a3
  have fresh:H s.heap.objs.size=none:=I.hok.fresh (e_ _);have gT:(s.heap.push { cls:=.type "tuple",data:=.seq #[8,.int i s.toks,u] }).get? s.heap.objs.size=some { cls:=.type "tuple",data:=.seq #[8,.int i s.toks,u] }:=A_ _ rfl;have I1:Inv X pins σ (upd H s.heap.objs.size (.tup [.int i,x])) { s with heap:=s.heap.push { cls:=.type "tuple",data:=.seq #[8,.int i s.toks,u] },toks:=s.toks+1 }:=
   I.laid (λb o q=>g_ _ q) (e_ _) #[015210,by show 2<=sizeLine;decide,[.int i s.toks,u],.cons #[0] (.cons ru .nil),_,gT,1,0]
  have a6:∀c∈[e,it],gE X pins (upd H s.heap.objs.size (.tup [.int i,x])) c:=λc O=>
   #[by rw[ak (F9 (a8 c O))];exact(hf c O).1,(hf c O).2]
  have I2:=I1.turnedN (h':=a5) (t':=s.toks+1) (fp:=[e,it]) (λc o O q=>by
   rcases get?_push_cases q with⟨e1,e2⟩|e1
   ·rw[e1,e2];rwa[hT]
   ·rwa[kk c o O e1]) a6
  erw[24,.ref s.heap.objs.size,_,I2,1,#[23,_,x,1,fresh,1,λa' q=>by rw[I.list_inj q qx];rwa[hx]],#[#[u,?_],a2.extBut sb.extBut hne.symm],λc O=>(a6 c O).1]
  have e1:((i+1:Nat):Int)=(i:Int)+1:=by push_cast;rfl
  rw[e1];rwa[a7]
 done:=by
  intro X hP hw hK hL O i pins s σ H E I hf st hg;subst hP hw hK;let#[xs,qx,a9]:=hg;let#[#[U,Z],hi]:=st;let#[12,ix,rx,px,zx]:=I.list qx;have lx:=rx.length;erw[xN (I.hn O) (I.hni O (hf it (by simp)).2.2.2.1) Z hi px.isList (by simp;lia) λh' eb=>#[1,I.turnedN (fp:=[e,it]) (t':=s.toks) (λc o O q=>?_) hf]]
  simp only[OT,Nm,Pb,not_or] at O;rwa[eb c o O.2 q]
 self:=λ_ _ _ _ _ st h=>by
  let#[#[U,Z],_]:=st;rwa[wpAny_pyIter_enum Z h]
def Fe(K:Frag)(ta:TA):TI:=λσ H R=>ta σ H λvs H1=>∃a,vs=[.ref a]/\(∃xs,SqL K H1 a xs)/\R (Ite K a) H1
theorem mV(K:Frag){a:Expr}(hK:X.K=K)(hg:Gl X "enumerate")(hm:X.mg "enumerate" = none)(ha:PA X [a] ta)(hs:starEach [a] X.env=[(false,eval a X.env)]:=by rfl):
  PI X (.Tuple es ek ep) (.Call (.Name "enumerate" p) [a] [] pos) (Fe K ta):=by
 subst hK;intros R I h;erw[Call_ (eB I hg hm boot_enumerate (Mt (thn (ha pos pins s σ H _ I h) λus s1 ⟨vs,H1,U,r1,q1⟩=>?_) hs rfl))]
 let#[12,l,e,#[xs,qx],q]:=q1;subst e;cases r1 with
 |cons r rr=>
  cases rr;cases r;let#[12,ix,rx,px,zx]:=U.list qx;erw[call_enumerate_list px.isList λh' Z a2 a3 a4=>?_]
  have I2:Inv X pins σ H1 { s1 with heap:=h',toks:=s1.toks }:=U.kept a4
  erw[wpAny_pyIter_enum (s:={ s1 with heap:=h' }) Z ?_]
  erw[4015,_,[s1.heap.objs.size+1,s1.heap.objs.size],_,_,H1,1,I2,wN l (s1.heap.objs.size+1) s1.heap.objs.size (Nat.succ_ne_self _),#[#[.none,Z],a2],λb hb=>?_,q]
  have O:s1.heap.objs.size<=b:=by
   simp only[OT,Nm,Pb] at hb
   rcases hb with rfl|rfl
   ·rwa[Py _ _]
   ·rwa[e_ _]
  rwa[U.fpOk O (U.hok.fresh O)]
theorem qX{tb:TS}(Pv:Nat->St->Hp->Prop)(h0:Pv 0 σ H)(hl:∀i σ H,i<=xs.length->Pv i σ H->SqL K H a xs)(hs:∀i x σ H p,xs[i]? = some x->Pv i σ H->H p=none->g (.ref p) σ (upd H p (.tup [.int i,x])) λσ2 H2=>tb { D with nx:=Pv (i+1),ct:=Pv (i+1),bk:=D.nx } σ2 H2)(hd:∀σ H,Pv xs.length σ H->D.nx σ H):
  ∃W:Nat->Nat->St->Hp->Prop,(∃m,W 0 m σ H)/\∀i m σ H,W i m σ H->
   ((Ite K a).stop i H/\D.nx σ H)\/((Ite K a).go i H/\∃N:St->Hp->Prop,(∀σ' H',N σ' H'->∃Z,Z<m/\W (i+1) Z σ' H')/\∀x H',(Ite K a).yld i H x H'->g x σ H' λσ2 H2=>tb { D with nx:=N,ct:=N,bk:=D.nx } σ2 H2):=by
 erw[λi m σ H=>m=xs.length-i/\i<=xs.length/\Pv i σ H,#[xs.length,by simp,Hj _,h0],?_]
 rintro i m σ H ⟨rfl,hi,p⟩;have q:=hl i σ H hi p
 by_cases O:i<xs.length
 ·erw[.inr #[#[21,xs,xs[i],q,by simp[O]],Pv (i+1),λσ' H' p'=>#[xs.length-(i+1),(),1,O,p'],λx H' y=>?_]]
  let#[23,l,x1,1,U,1,y]:=y;rwa[hs i x1 σ _ l (y xs q) p U]
 ·have e:i=xs.length:=()
  subst e;rwa[.inl #[#[xs,q,e_ _],hd σ H p]]
def wQ(t1 t2:TE):TE:=λσ H Q=>t1 σ H Q\/t2 σ H Q
def tMk0(C:Addr):TE:=λσ H Q=>∀x dx,H x=none->H dx=none->dx≠x->Q (.ref x) (upd (upd H dx (.own x)) x (.ins C dx []))
section
variable {o:Expr}{ta t1 t2:TE}{t:TA}
theorem iP(h1:PE X e t1)(h2:PE X e t2):PE X e (wQ t1 t2):=λpins s σ H Q I h=>h.elim (h1 pins s σ H Q I) (h2 pins s σ H Q I)
structure Mk0 (K:Frag) (C:Addr):Prop where
 makes:makesIn K C=true
 init:findIn K (.ref C) "__init__"=some (some (.builtin "object.__init__"))
 kp:keepIn K (.ref C)=true
theorem DH(M:Mk0 X.K C)(hm:X.mg x=some (.ref C))(hg:Gl X x:=by rfl)(hdb:(x==("__debug__" : Str))=false:=by decide):PE X (.Call (.Name x p) [] [] pos) (tMk0 C):=by
 intros Q I h;erw[MG (dY I hg hm ?_ hdb)];have Z:=h (s.heap.objs.size+1) s.heap.objs.size (I.hok.fresh (Nat.le_succ _)) (I.hok.fresh (e_ _)) (F9 (Pt _));have U:=Inv.made (C:=C) I;erw[PySem.W.callWith_K0 I.kIn M.kp (PV (xT I.kIn M.makes M.init (λself=>PySem.W.Looks.of_pure (PySem.W.oi_bind self)) ?_))]
 have Y:=PySem.W.makes_of (M:=model X.prog X.w) I.kIn M.makes;have hx:((s.heap.push emptyDict).push (instObj C s.heap.objs.size)).get? (s.heap.objs.size+1)=some (instObj C s.heap.objs.size):=by
  have:=A_ (s.heap.push emptyDict) (o:=instObj C s.heap.objs.size) rfl;rwa [Ps] at this
 have y1:Looks #[7] ((s.heap.push emptyDict).push (instObj C s.heap.objs.size)) (typeOf (.ref (s.heap.objs.size+1))) (.ref C):=(PySem.W.Looks.ld hx).andThen .now;have y2:Looks #[7] ((s.heap.push emptyDict).push (instObj C s.heap.objs.size)) (isInstance (.ref (s.heap.objs.size+1)) (.type "object")) true:=y1.andThen (Y.top.keeps λb o e=>g_ _ (g_ _ e))
 let#[O,g,d,tk,os]:=s;erw[codeAny_call_builtin PySem.W.oi_plain PySem.W.entry_oi (@PySem.W.check_slot #[7] _ _ _ "object.__init__" "object" "__init__" (.ref (O.objs.size+1)) [] [] _ PySem.W.oi_kind PySem.W.oi_split y2 (PySem.W.oi_args (.ref (O.objs.size+1))) ?_)];rw[PySem.W.oi_run];rwa[f_ (And.intro rfl #[22,V.ref (O.objs.size+1),_,U,1,Z])]
end
structure MtB (P:Program) (w:World) (K:Frag) (mg:Str->Option Value) (base:Heap) (k:Nat) (C:Addr) (m:Str) (sp:Sp):Prop where
 ex:∃f fd ps,`Gd CX0 k f fd ps sp/\nu K C m f/\Gq K fd ps []
 cl:Cls K C
structure MkB (P:Program) (w:World) (K:Frag) (mg:Str->Option Value) (base:Heap) (k:Nat) (C:Addr) (x:Str) (sp:Sp):Prop where
 ex:∃f fd ps,`Gd CX0 k f fd ps sp/\Mk K C f/\Gq K fd ps []
 at_:mg x=some (.ref C)
section
variable {m:Str}{k:Nat}{o:Expr}{ta:TE}{t:TA}
theorem jk{pl:Sem Bool}(M:MtB X.prog X.w X.K X.mg X.base k C m sp)(hr:Gi X.base k X.A)(he:PE X o ta)(ha:PA X (e::es) t)(hst:starEach (e::es) X.env=(false,eval e X.env)::starEach es X.env:=by rfl)(hpl:(backTo pos (starEach es X.env)).any (·.1)=false:=by rfl)(ht:eval (.Call (.Attribute o m apos) (e::es) [] pos) X.env=(do
   let ov <- eval o X.env
   standAt apos.atName
   let (f,first) <- holding [ov] (getMethod ov m pl)
   callWith pos f first (backTo pos (starEach (e::es) X.env)) (backToKw pos (keywordEach [] X.env))):=by rfl):
  PE X (.Call (.Attribute o m apos) (e::es) [] pos) (dW C m sp [] E0 ta t):=by
 let#[32,f,fd,ps,F,hm,O]:=M.ex;rwa[vf he M.cl hm F hr O .nil vd ha hst hpl ht]
theorem t8(M:MkB X.prog X.w X.K X.mg X.base k C x sp)(hr:Gi X.base (k+1) X.A)(ha:PA X (e::es) t)(hg:Gl X x:=by rfl)(hdb:(x==("__debug__" : Str))=false:=by decide)(he:starEach (e::es) X.env=(false,eval e X.env)::starEach es X.env:=by rfl)(hpl:(backTo pos (starEach es X.env)).any (·.1)=false:=by rfl):
  PE X (.Call (.Name x p) (e::es) [] pos) (vA C sp [] E0 t):=by
 let#[32,f,fd,ps,F,hm,O]:=M.ex;rwa[uP hm F hr hg M.at_ O .nil vd ha hdb he hpl]
end
def nrm(a b:Int):Int×Int:=if b<0 then(a.fdiv (-(Int.gcd a b:Int)),b.fdiv (-(Int.gcd a b:Int))) else(a.fdiv (Int.gcd a b:Int),b.fdiv (Int.gcd a b:Int))
theorem mC(a b:Int)(h:b≠0):∃(g:Nat) (O U:Int),0<g/\Int.gcd a b=g/\a=g*O/\b=g*U/\Int.gcd O U=1/\nrm a b=(if b<0 then(-O,-U) else(O,U)):=by
 have hg:0<Int.gcd a b:=Int.gcd_pos_of_ne_zero_right a h;let#[O,ha]:=Int.gcd_dvd_left (a:=a) (b:=b);let#[U,hb]:=Int.gcd_dvd_right (a:=a) (b:=b);have Z:(Int.gcd a b:Int)≠0:=()
 erw[35,Int.gcd a b,O,U,hg,1,ha,hb,?_,?_]
 ·have e:Int.gcd (Int.gcd a b*O) (Int.gcd a b*U)=Int.gcd a b*Int.gcd O U:=by
   rw[Int.gcd_mul_left];rfl
  rw[<- ha,<- hb] at e;have:Int.gcd a b*1=Int.gcd a b*Int.gcd O U:=()
  exact(Nat.eq_of_mul_eq_mul_left hg this).symm
 ·unfold nrm;generalize hG:(Int.gcd a b:Int)=G at *;have f1:a.fdiv G=O:=by rw[ha];rwa[LW _ Z]
  have f2:b.fdiv G=U:=by rw[hb];rwa[LW _ Z]
  have f3:a.fdiv (-G) = -O:=by rw[ha,show G*O=(-G)*(-O) by rw[Int.neg_mul_neg]];rwa[LW _ ()]
  have f4:b.fdiv (-G) = -U:=by rw[hb,show G*U=(-G)*(-U) by rw[Int.neg_mul_neg]];rwa[LW _ ()]
  rw[f1,f2,f3,f4]
theorem fG(a b:Int)(h:b≠0):0<(nrm a b).2:=by
 let#[35,g,Z,O,hg,_,ha,hb,_,e]:=mC a b h;rw[e]
 by_cases U:b<0
 ·rw[C_ U];show 0 < -O;have:¬0<=O:=λz=>by have:=Int.mul_nonneg (show(0:Int)<=g by lia) z;lia
  lia
 ·rw[w_ U];show 0<O;have:¬O<=0:=λz=>by have:=Int.mul_nonneg (show(0:Int)<=g by lia) (show 0 <= -O by lia);rw[Int.mul_neg] at this;lia
  lia
theorem fW(a b:Int)(h:b≠0):Int.gcd (nrm a b).1 (nrm a b).2=1:=by
 let#[35,g,O,U,hg,_,ha,Z,c,e]:=mC a b h;rw[e]
 split
 ·show Int.gcd (-O) (-U)=1;rw[Int.neg_gcd,Int.gcd_neg];rwa[c]
 ·rwa[c]
theorem kh(a b:Int)(h:b≠0):(nrm a b).1*b=a*(nrm a b).2:=by
 let#[35,g,O,U,hg,_,ha,Z,c,e]:=mC a b h;rw[e]
 split
 ·show -O*b=a * -U;rw[ha,Z,Int.neg_mul,Int.mul_neg,Int.mul_left_comm,Nv]
 ·show O*b=a*U;rw[ha,Z,Int.mul_left_comm,Nv]
theorem iA(g:Nat)(x:Int)(hg:0<g):x.natAbs<=((g:Int)*x).natAbs:=by
 rw[J_,HM];rwa[Mu _ hg]
theorem tO(a b:Int)(h:b≠0):(nrm a b).1.natAbs<=a.natAbs/\(nrm a b).2.natAbs<=b.natAbs:=by
 let#[35,g,O,U,Z,_,ha,hb,c,e]:=mC a b h;have h1:=iA g O Z;have h2:=iA g U Z;rw[<- ha] at h1;rw[<- hb] at h2;rw[e]
 split
 ·rwa[by show(-O).natAbs<=_;lia,by show(-U).natAbs<=_;lia]
 ·rwa[h1,h2]
theorem fm(a b:Int)(h:0<b):nrm a b=(a,b)↔Int.gcd a b=1:=by
 let#[35,g,U,Z,hg,O,ha,hb,c,e]:=mC a b ()
 constructor
 ·intro z;have:=fW a b ()
  rw[z] at this;rwa[this]
 ·intro z;rw[z] at O;subst O;rw[e,w_ ()]
  rw[show U=a by lia,show Z=b by lia]
theorem Fo{k m n:Int}(h:Int.gcd k m=1)(hd:k ∣ m*n):k ∣ n:=Int.natAbs_dvd_natAbs.mp (Nat.Coprime.dvd_of_dvd_mul_left (show Nat.Coprime k.natAbs m.natAbs from h) (by rw[<- J_];rwa[Int.natAbs_dvd_natAbs.mpr hd]))
theorem CC{n d n' d':Int}(h1:0<d)(h2:0<d')(c1:Int.gcd n d=1)(c2:Int.gcd n' d'=1)(e:n*d'=n'*d):n=n'/\d=d':=by
 have g1:Int.gcd d n=1:=by rw[Int.gcd_comm];rwa[c1]
 have g2:Int.gcd d' n'=1:=by rw[Int.gcd_comm];rwa[c2]
 have O:d ∣ d':=Fo g1 (show d ∣ n*d' from#[n',by rw[e,Qx]])
 have U:d' ∣ d:=Fo g2 (show d' ∣ n'*d from#[n,by rw[<- e,Qx]])
 have Z:d=d':=Int.dvd_antisymm () () O U
 subst Z;rwa[Int.eq_of_mul_eq_mul_right () e,1]
theorem lV{Q:VK}{σ:St}(f:V->V)(hσ:cH src σ=none::rest)(hx:SqL K H0 a xs)(hl:xs.length<=sizeLine)(he:∀(i:Nat) x H (R:VK),xs[i]? = some x->Ga H0 H->R (f x) H->te (some x::rest) H R)(hd:∀acc H,H0 acc=none->Ga H0 H->H acc=some (.lst (xs.map f))->Q (.ref acc) H):
  bZ (Itl K a) src (bP 0) kO te σ H0 Q:=by
 intro acc O;rw[hσ];have a2:(xs.map f).length=xs.length:=z_ ..;erw[mq (n:=xs.length) (λi zs σ H=>Ga H0 H/\zs=(xs.map f).take i/\∃u,σ=u::rest) () #[Ga.new O,1,none,1] ?_ ?_ ?_ ?_]
 ·rintro i zs σ H hi hz ⟨U,_⟩;rwa[21,xs,xs[i],U.seq hx,by simp]
 ·rintro zs σ H hz ⟨U,_⟩;rwa[xs,U.seq hx,e_ _]
 ·rintro i zs σ H x H' hi hz a1 ⟨U,ez,u,rfl⟩ ⟨rfl,gx⟩;have Z:=gx xs (U.seq hx);show te (some x::rest) _ _;erw[he i x _ _ Z U ?_];erw[zs,hz,(),zs++[f x],ae,by rw[x_,He];lia,U.put O,?_,0]
  rw[An f xs i x Z,ez]
 ·rintro zs σ H hz a1 ⟨U,ez,_⟩;erw[hd acc H O U ?_];rw[hz,ez,NI ()]
end L2
set_option exponentiation.threshold 5000
namespace L2
open PySem PySem.Spec PyProof.Rows
variable {P prog:Program}{x qual name q:Str}{y v:V}{j tk n e1 ep nl:Nat}{w:World}{K:Frag}{mg:Str->Option Value}{st:Stmt}{f C D d kS it:Addr}{oc doc pm cdv ct cd cls u:Value}{od an:Option Addr}{osl:Array (Option Value)}{X:Cx}{L:Life}{H H₀ H' H0:Hp}{h h':Heap}{N ps:List Str}{scope:Scope}{A:Around}{outer:List Env}{s₀ s:Shared}{E Q:Value->Shared->Prop}{pins:List (Addr×Obj)}{σ:St}{e value tg l:Expr}{cpos pos apos tp p2:Pos}{es tes:List Expr}{sp:Sp}{dvs:List V}{p:Array Nat}{te ta tl:TE}{pl:Sem Bool}{us:List Value}{vs:List (Key×Value)}{B:List V->Prop}{R:Result->Shared->Prop}{α β:Type}{c:Option (Int×Tok)}{kvs:List (List Key×V)}{xs ks:List (List Key×Addr×Value)}{trs:List (TE×TE)}{key:V->Int×List Int}{items:Array Value}{led:Bool}
def bT(P:Int)(x y:Int×Int):Int×Int:=if P=0 then nrm (x.1*y.2+y.1*x.2) (x.2*y.2) else((x.1+y.1)%P,1)
def subN(P:Int)(x y:Int×Int):Int×Int:=if P=0 then nrm (x.1*y.2-y.1*x.2) (x.2*y.2) else((x.1-y.1)%P,1)
def bV(P:Int)(x y:Int×Int):Int×Int:=if P=0 then nrm (x.1*y.1) (x.2*y.2) else((x.1*y.1)%P,1)
def ij(P:Int)(x:Int×Int):Int×Int:=if P=0 then(0-x.1,x.2) else((0-x.1)%P,1)
def OkN(P:Int)(x:Int×Int):Prop:=(P=0/\0<x.2/\Int.gcd x.1 x.2=1)\/(P≠0/\0<=x.1/\x.1<P/\x.2=1)
theorem i9{a b:Int}(h:b≠0):OkN 0 (nrm a b):=.inl #[1,fG a b h,fW a b h]
theorem js{P a:Int}(h:0<=P)(h0:P≠0):OkN P (a%P,1):=.inr #[h0,L5 a h0,LC a (),1]
theorem OkN.den{P:Int}{x:Int×Int}(h:OkN P x):0<x.2:=by
 rcases h with⟨_,h,_⟩|⟨_,_,_,h⟩<;>lia
theorem i3{x y:Int×Int}(h1:0<x.2)(h2:0<y.2):x.2*y.2≠0:=λz=>by have:=Qp h1 h2;lia
theorem i6{P:Int}{x y:Int×Int}(hP:0<=P)(h1:OkN P x)(h2:OkN P y):OkN P (bT P x y):=by
 unfold bT
 split
 ·rename_i h;subst h;rwa[i9 (i3 h1.den h2.den)]
 ·rwa[js hP ‹_›]
theorem ie{P:Int}{x y:Int×Int}(hP:0<=P)(h1:OkN P x)(h2:OkN P y):OkN P (bV P x y):=by
 unfold bV
 split
 ·rename_i h;subst h;rwa[i9 (i3 h1.den h2.den)]
 ·rwa[js hP ‹_›]
theorem hJ{P:Int}{x:Int×Int}(hP:0<=P)(h1:OkN P x):OkN P (ij P x):=by
 unfold ij
 split
 ·rcases h1 with⟨h,a,b⟩|⟨h,_⟩
  ·erw[.inl #[h,a,?_]];show Int.gcd (0-x.1) x.2=1;rw[show 0-x.1 = -x.1 by lia,Int.neg_gcd]
   rwa[b]
  ·rwa[absurd ‹_› h]
 ·rwa[js hP ‹_›]
theorem dG{P:Int}(hP:0<=P)(h2:P≠1):OkN P (0,1):=by
 by_cases h:P=0
 ·rwa[.inl #[h,#[],#[]]]
 ·rwa[.inr #[h,#[],by show(0:Int)<P;lia,1]]
def Sz(k:Nat)(x:Int×Int):Prop:=x.1.natAbs<2^k/\x.2.natAbs<2^k
theorem fQ{a b:Int}{i:Nat}(h1:a.natAbs<2^i)(h2:b.natAbs<2^j):(a*b).natAbs<2^(i+j):=by
 rw[J_,NG];rwa[Nat.mul_lt_mul'' h1 h2]
theorem pQ{i:Nat}(h:i<=j):2^i<=2^j:=Hr #[] h
theorem Sz.mono{i:Nat}{x:Int×Int}(h:Sz i x)(hij:i<=j):Sz j x:=#[Hh h.1 (pQ hij),Hh h.2 (pQ hij)]
theorem tf{a b:Int}{k:Nat}(hb:b≠0)(h1:a.natAbs<2^k)(h2:b.natAbs<2^k):Sz k (nrm a b):=#[Lk (tO a b hb).1 h1,Lk (tO a b hb).2 h2]
structure FunD (K:Frag) (x qual:Str) (st:Stmt) (f:Addr) (fd:FuncData):Prop where
 ex:∃(oc:Value) (od:Option Addr) (dV kV doc pm:Value) (an:Option Addr) (cdv ct:Value) (osl:Array (Option Value)),
  fd=fnOf x qual (bJ st) (aW st) (aj st) dV kV doc pm an cdv ct/\K.lookup f=some #[oc,od,.func fd,osl]/\codeIn K cdv qual=true
 kp:keepIn K (.ref f)=true
section
variable {base:Heap}
theorem v3{dV kV:Value}(l:K.lookup f=some #[oc,od,.func (fnOf x qual (bJ st) (aW st) (aj st) dV kV doc pm an cdv ct),osl])(c:codeIn K cdv qual=true)(k:keepIn K (.ref f)=true):FunD K x qual st f (fnOf x qual (bJ st) (aW st) (aj st) dV kV doc pm an cdv ct):=#[#[404022,oc,od,dV,kV,doc,pm,an,cdv,ct,osl,1,l,c],k]
end
structure Fly (P:Program) (w:World) (L:Life) (outer:List Env) (H:Hp) (s:Shared) (x:Addr) (cls:Value) (B:Heap) (H':Hp) (s':Shared):Prop where
 os:s'.os=s.os
 bare:AllBare s'.gens
 fly:∃a0,Heap.FlyingW B outer x cls a0 s'.heap
 keep:∀b o,s.heap.get? b=some o->H b=none->b∉frs outer->B.get? b=some o
 there:∀b o,s.heap.get? b=some o->b∉frs outer->∃o',B.get? b=some o'
 slot:∀b o,s.heap.get? b=some o->b∈frs outer->∃sl,s'.heap.get? b=some { o with slots:=sl }
 free:∀b o,s.heap.get? b=some o->H b=none->H' b=none
 tups:∀b xs,H b=some (.tup xs)->H' b=some (.tup xs)
 frzs:∀b o u,H b=some (.frz o u)->H' b=some (.frz o u)
 tbls:∀b ps,H b=some (.tbl ps)->∃more,H' b=some (.tbl (ps++more))
 hok:HOk P w H' B
 ctx:L={}->jx s'.heap x (some .none)
def CXE(P:Program)(w:World)(L:Life):CXT:=λouter H s E e s'=>∃x cls B H',e=.ref x/\Fly P w L outer H s x cls B H' s'/\E cls none H'
theorem iO:dM (CXE P w L) X E0:=λ_ _ _ _ _ _ _ ⟨_,_,_,_,_,_,z⟩=>z.elim
theorem Gg.obj{a:Addr}{o:HO}(x:Gg P w H h a o):∃O,h.get? a=some O:=by
 cases o with
 |lst xs=>let#[0121,_,_,_,_,e]:=x;rwa[_,e]
 |tup xs=>let#[0151,_,_,_,O,e,_]:=x;rwa[O,e]
 |dK kvs=>let#[0271,_,_,_,_,O,_,_,e,_]:=x;rwa[_,e]
 |dT kvs=>let#[0271,_,_,_,_,O,_,_,e,_]:=x;rwa[_,e]
 |set S n=>let#[41,O,_,_,_,e,_]:=x;rwa[_,e]
 |ins C dx fs=>let#[04,_,_,_,e,_]:=x;rwa[_,e]
 |own y=>rwa[x]
 |xd fs=>let#[_,#[_,_,_,e,_],_]:=x;rwa[_,e]
 |rng lo hi=>let#[30,_,_,_,e]:=x;rwa[_,e]
 |frz O u=>let#[e,_]:=x;rwa[_,e]
 |tbl ps=>rwa[_,(show h.get? a=some _ from x)]
 |met f y=>rwa[_,(show h.get? a=some _ from x)]
 |ext φ=>let#[_,#[_,e],_]:=x;rwa[_,e]
section
variable {base:Heap}{E:XK}
theorem A9{e:Addr}(I:Inv (dQ (CXE P w base.life) P w K mg base N qual scope f cd A outer s₀ H₀ E) pins σ H s)(hx:tS (A.deeper (envOfC qual scope s₀.heap.objs.size f cd)) s.heap h' e cls)(q:E cls none H):
  (dQ (CXE P w base.life) P w K mg base N qual scope f cd A outer s₀ H₀ E).xe (.ref e) { s with heap:=h' }:=by
 show wpAny (model P w) (A.deeper (envOfC qual scope s₀.heap.objs.size f cd)) (leaving (envOfC qual scope s₀.heap.objs.size f cd) (.ref e)) (λ_ a1=>CXE P w base.life outer H₀ s₀ E (.ref e) a1) (λe' a1=>CXE P w base.life outer H₀ s₀ E e' a1) { s with heap:=h' }
 have a5:s.heap.FunFrames base (envOfC qual scope s₀.heap.objs.size f cd::outer):=I.stack;have U:∀b:Addr,b∉(dQ (CXE P w base.life) P w K mg base N qual scope f cd A outer s₀ H₀ E).ex:=λb z=>absurd (show b∈([]:List Addr) from z) (by simp)
 have nL:∀b o,s₀.heap.get? b=some o->b∉frs outer->b∉frs (envOfC qual scope s₀.heap.objs.size f cd::outer):=λb o Z O hm=>by
  rcases HB.mp (I.stkSub b hm) with z|z
  ·have a2:=Hl Z;rw[show b=s₀.heap.objs.size from z] at a2
   rwa[absurd a2 (ME _)]
  ·rwa[O z]
 let#[35,oe,vs,a0,he,a4,hd,h0,h1,h2]:=hx.there;subst a4;have new:∀b o,(hideAll s.heap (frs (envOfC qual scope s₀.heap.objs.size f cd::outer))).get? b=some o->h'.get? b=some o:=λb o z=>hx.keeps b o (of_hideAll _ z)
 have nE:(hideAll s.heap (frs (envOfC qual scope s₀.heap.objs.size f cd::outer))).get? e=none:=by
  cases z:(hideAll s.heap (frs (envOfC qual scope s₀.heap.objs.size f cd::outer))).get? e with
  |none=>rfl
  |some o=>
   have:=of_hideAll _ z;rw[hx.new] at this;cases this
 erw[zP (base:=hideAll s.heap (frs (envOfC qual scope s₀.heap.objs.size f cd::outer))) (s:={ s with heap:=h' }) I.ok.frames
  ((PySem.W.funFrames_hide a5 λenv he a ha=>PR.mpr #[env,he,ha]).of_keeps λb o O _=>#[o,hx.keeps b o O,1]) rfl he new nE hd h0 (.inl h1) λa7 fl up ct=>?_]
 erw[42,e,oe.cls,_,H,1,#[I.os,I.bare,#[_,fl],λb o Z n O=>?_,λb o Z O=>?_,λb o Z O=>?_,λb o Z n=>I.base.free b o Z n (U b),I.base.tups,I.base.frzs,I.base.tbls,λa ob ea=>?_,λq=>ct _ #[22,oe,vs,he,hd,h2 ((I.ok.hd rfl).1 q)]],q]
 ·rwa[hideAll_get _ (I.base.keep b o Z n O (U b)) (nL b o Z O)]
 ·let#[o',e2]:=I.base.there b o Z (U b);rwa[o',hideAll_get _ e2 (nL b o Z O)]
 ·let#[sl,e2]:=I.base.slot b o Z (I.ok.frf b O) O (U b);let#[0111,_,o3,e3,hd]:=I.ok.funs.mem O;have a3:(dQ (CXE P w base.life) P w K mg base N qual scope f cd A outer s₀ H₀ E).s₀.heap.get? b=some o:=Z;rw[a3] at e3;cases e3;let#[a6,e4]:=up b _ (hx.keeps b _ e2) hd;rwa[a6,e4]
 ·refine(I.hok a ob ea).stay (λb u O e2=>hideAll_get _ e2 λhm=>?_) (λ_ z=>z) λ_ _ z=>z
  have hn:=I.stkFree b hm
  rcases O with z|z
  ·rw[z,ea] at hn;cases hn
  ·rw[z] at hn;cases hn
theorem oG:dM (CXE P w base.life) (dQ (CXE P w base.life) P w K mg base N qual scope f cd A outer s₀ H₀ E) E:=by
 intro pins σ H s e s' I hx;let#[42,x,cls,B,H',1,F,q]:=hx;show wpAny (model P w) (A.deeper (envOfC qual scope s₀.heap.objs.size f cd)) (leaving (envOfC qual scope s₀.heap.objs.size f cd) (.ref x)) (λ_ a1=>CXE P w base.life outer H₀ s₀ E (.ref x) a1) (λe' a1=>CXE P w base.life outer H₀ s₀ E e' a1) s'
 have U:∀b:Addr,b∉(dQ (CXE P w base.life) P w K mg base N qual scope f cd A outer s₀ H₀ E).ex:=λb z=>absurd (show b∈([]:List Addr) from z) (by simp)
 have nL:∀b o,s₀.heap.get? b=some o->b∉frs outer->b∉frs (envOfC qual scope s₀.heap.objs.size f cd::outer):=λb o O Z hm=>by
  rcases HB.mp (I.stkSub b hm) with z|z
  ·have a2:=Hl O;rw[show b=s₀.heap.objs.size from z] at a2
   rwa[absurd a2 (ME _)]
  ·rwa[Z z]
 let#[a0,fl]:=F.fly;erw[xH (base:=B) I.ok.frames rfl fl λa7 a4 up ct=>?_]
 erw[42,x,cls,B,H',1,#[F.os.trans I.os,F.bare,#[_,a4],λb o O n Z=>?_,λb o O Z=>?_,λb o O Z=>?_,λb o O n=>?_,λb xs O=>F.tups b xs (I.base.tups b xs O),λb o u O=>F.frzs b o u (I.base.frzs b o u O),λb ps O=>?_,F.hok,λz=>ct _ (F.ctx z)],q]
 ·rwa[F.keep b o (I.base.keep b o O n Z (U b)) (I.base.free b o O n (U b)) (nL b o O Z)]
 ·let#[o',e2]:=I.base.there b o O (U b);rwa[F.there b o' e2 (nL b o O Z)]
 ·let#[sl,e2]:=I.base.slot b o O (I.ok.frf b Z) Z (U b);let#[0111,_,o3,e3,hd]:=I.ok.funs.mem Z;have a3:(dQ (CXE P w base.life) P w K mg base N qual scope f cd A outer s₀ H₀ E).s₀.heap.get? b=some o:=O;rw[a3] at e3;cases e3;have a5:b∈frs (envOfC qual scope s₀.heap.objs.size f cd::outer):=by
   let#[env,he,hf]:=PR.mp Z;rwa[PR.mpr #[env,I_ _ he,hf]]
  let#[a8,e4]:=F.slot b _ e2 a5;let#[a6,e5]:=up b _ e4 hd;rwa[a6,e5]
 ·let#[o',e2]:=I.base.there b o O (U b);rwa[F.free b o' e2 (I.base.free b o O n (U b))]
 ·let#[m1,e2]:=I.base.tbls b ps O;let#[m2,e3]:=F.tbls b _ e2;rwa[m1++m2,by rw[e3,Array.append_assoc]]
end
abbrev uC:List Value:=[.type "ValueError",.type "Exception",.type "BaseException",.type "object"]
abbrev Bo(K:Frag)(C:Addr):Prop:=PySem.W.excIn K C uC "ValueError.__new__"=true
theorem pM(X:K.In h)(q:Bo K C):∃bm N nm qn bs hdct sn sub ab col dd k0 k1 k2 k3 k5 mN,
  h.get? C=some (excClassObj nm qn C N bs bm hdct sn sub ab col dd k0 k1 k2 k3 k5 "ValueError.__new__")/\h.Ns N mN/\mN "__init__" = none/\OwnTail h uC bm:=by
 have O:=q;unfold Bo PySem.W.excIn at O;cases hl:K.lookup C with
 |none=>rw[hl] at O;cases O
 |some ob=>
  rw[hl] at O;let#[oc,od,a2,osl]:=ob
  split at O
  ·rename_i dz cz sz heq;cases heq
   split at O
   ·rename_i Cz bz z0 z1 z2 z3 nz z5 hm hs;rw[Lw,Lw,Lw,Lw,Lw] at O;let#[#[#[#[#[w1,w2],w3],w4],Z],w6]:=O;let#[c1,c2,c3,c4,c5,c6,c7,c8,c9,a1,U]:=cz;have e1:=OS.mp w1;have e2:=OS.mp w2;have e6:=OS.mp w6;have e3:U=false:=by simpa using w3
    have em:c3=.ref Cz::bz:=hm;subst e1 e2 e3 em;have es:osl = #[8,z0,z1,z2,z3,some (.builtin "ValueError.__new__"),z5]:=by
     cases osl;simp only at hs;rw[hs]
    subst es;rwa[4040404013,bz,_,_,_,_,_,_,_,_,_,_,_,_,_,_,_,_,X _ _ hl,.of_isNs (PySem.W.isNs_of_in X Z),PySem.W.nsMap_none_of_in X Z e6,PySem.W.tail_of_in X w4]
   ·cases O
  ·cases O
def DD(E:XK)(C:Addr)(t:TA):TS:=λ_ σ H=>t σ H λvs H1=>vs.length<=sizeLine/\E (.ref C) none H1
section
variable {base:Heap}{E:XK}
theorem fy{np:Pos}{e₀:Expr}{t:TA}(hC:Bo K C)(hm:mg x=some (.ref C))(ha:PA (dQ (CXE P w base.life) P w K mg base N qual scope f cd A outer s₀ H₀ E) (e₀::es) t)(hg:Gl (dQ (CXE P w base.life) P w K mg base N qual scope f cd A outer s₀ H₀ E) x:=by rfl)(hd:(x==("__debug__" : Str))=false:=by decide)(he:starEach (e₀::es) (dQ (CXE P w base.life) P w K mg base N qual scope f cd A outer s₀ H₀ E).env=(false,eval e₀ (dQ (CXE P w base.life) P w K mg base N qual scope f cd A outer s₀ H₀ E).env)::starEach es (dQ (CXE P w base.life) P w K mg base N qual scope f cd A outer s₀ H₀ E).env:=by rfl)(hpl:(backTo cpos (starEach es (dQ (CXE P w base.life) P w K mg base N qual scope f cd A outer s₀ H₀ E).env)).any (·.1)=false:=by rfl):
  PS (dQ (CXE P w base.life) P w K mg base N qual scope f cd A outer s₀ H₀ E) (.Raise (some (.Call (.Name x np) (e₀::es) [] cpos)) none pos) (DD E C t):=by
 intros D I h;let#[4040404013,bm,Nn,nm,qn,bs,hdct,sn,sub,ab,col,dd,k0,k1,k2,k3,k5,mN,a2,hN,hni,T]:=pM I.mod.kin hC;have U:(backTo cpos (starEach (e₀::es) (dQ (CXE P w base.life) P w K mg base N qual scope f cd A outer s₀ H₀ E).env)).any (·.1)=false:=by
  rw[he];show(false || (backTo cpos (starEach es _)).any (·.1))=false
  rw[hpl];rfl
 erw[qI (C:=C) (nm:=nm) (q:=qn) (N:=Nn) (bs:=bs) (bm:=bm) (hdct:=hdct) (sn:=sn) (sub:=sub) (ab:=ab) (col:=col) (dd:=dd) (k0:=k0) (k1:=k1) (k2:=k2) (k3:=k3) (k5:=k5)
  PySem.F.excBase_ValueError (bmB:=uC) #[5] PySem.F.excBase_ValueError (mN:=mN) (T.hasType PySem.F.excBase_ValueError.hasBase) U hni (dY I hg hm #[1,?_] hd)]
 have a1:=ha cpos pins s σ H _ I h;rw[he] at a1 ⊢;erw[Calls.evalArgs_plain (Mf a1 (λus s2 z=>?_) λ_ _ z=>z)]
 let#[23,vs,H2,O,r,Z,q]:=z;rwa[1,by rw[<- r.length];rwa[Z],O.bk _ _ a2,hN.keeps O.bk,T.keeps O.bk,O.hn rfl,λh' e mk=>A9 O mk q]
end
section
variable {base:Heap}
theorem Fun.okX{fd:FuncData}{k:Nat}(F:Fun K x qual st f fd)(S:Gb N ps (aj st))(len:∀vs H Q E,sp vs H Q E->vs.length=ps.length)(hbody:∀(cdv:Value) (A:Around) (outer:List Env) (s:Shared) (H:Hp) (vs:List V) (Q:VK) (E:XK),Gi base k (A.deeper (envOfC qual (aj st) s.heap.objs.size f cdv))->sp vs H Q E->
   ∃t,PSs (dQ (CXE P w base.life) P w K mg base N qual (aj st) f cdv A outer s H E) (aW st) t/\t { nx:=λ_ H'=>Q .non H',rt:=Q } (dX N vs) H):`Gd (CXE P w base.life) (k+1) f fd ps sp:=by
 let#[404012,oc,od,kV,doc,pm,an,cdv,ct,osl,1,lk,O]:=F.ex;rwa[zM lk O S len λA outer s H vs Q E Z U=>hbody cdv A outer s H vs Q E Z U]
theorem FunD.okX{fd:FuncData}{k:Nat}(F:FunD K x qual st f fd)(S:Gb N ps (aj st))(len:∀vs H Q E,sp vs H Q E->vs.length=ps.length)(hbody:∀(cdv:Value) (A:Around) (outer:List Env) (s:Shared) (H:Hp) (vs:List V) (Q:VK) (E:XK),Gi base k (A.deeper (envOfC qual (aj st) s.heap.objs.size f cdv))->sp vs H Q E->
   ∃t,PSs (dQ (CXE P w base.life) P w K mg base N qual (aj st) f cdv A outer s H E) (aW st) t/\t { nx:=λ_ H'=>Q .non H',rt:=Q } (dX N vs) H):`Gd (CXE P w base.life) (k+1) f fd ps sp:=by
 let#[404022,oc,od,dV,kV,doc,pm,an,cdv,ct,osl,1,lk,O]:=F.ex;rwa[zM lk O S len λA outer s H vs Q E Z U=>hbody cdv A outer s H vs Q E Z U]
end
structure jY (P:Program) (w:World) (K:Frag) (mg:Str->Option Value) (base:Heap) (k:Nat) (x:Str) (sp:Sp):Prop where
 ex:∃f fd ps,`Gd (CXE P w base.life) k f fd ps sp/\mg x=some (.ref f)/\keepIn K (.ref f)=true/\Gq K fd ps []
structure nk (P:Program) (w:World) (K:Frag) (mg:Str->Option Value) (base:Heap) (k:Nat) (C:Addr) (m:Str) (dvs:List V) (sp:Sp):Prop where
 ex:∃f fd ps ds,`Gd (CXE P w base.life) k f fd ps sp/\nu K C m f/\Gq K fd ps ds/\Ge dvs ds
 cl:Cls K C
structure CH (P:Program) (w:World) (K:Frag) (mg:Str->Option Value) (base:Heap) (k:Nat) (C:Addr) (x:Str) (sp:Sp):Prop where
 ex:∃f fd ps,`Gd (CXE P w base.life) k f fd ps sp/\Mk K C f/\Gq K fd ps []
 at_:mg x=some (.ref C)
section
variable {m:Str}{k:Nat}{p:Pos}{o:Expr}{t:TA}{E:XK}
theorem uk(F:jY X.prog X.w X.K X.mg X.base k x sp)(hr:Gi X.base k X.A)(hx:dM (CXE X.prog X.w X.base.life) X E)(ha:PA X (e::es) t)(hg:Gl X x:=by rfl)(hdb:(x==("__debug__" : Str))=false:=by decide)(he:starEach (e::es) X.env=(false,eval e X.env)::starEach es X.env:=by rfl)(hpl:(backTo pos (starEach es X.env)).any (·.1)=false:=by rfl):
  PE X (.Call (.Name x p) (e::es) [] pos) (sr sp [] E t):=by
 let#[33,f,fd,ps,F,hm,hk,O]:=F.ex;rwa[uM F hr hg hm hk O .nil hx ha hdb he hpl]
theorem lL(M:nk X.prog X.w X.K X.mg X.base k C m dvs sp)(hr:Gi X.base k X.A)(hx:dM (CXE X.prog X.w X.base.life) X E)(he:PE X o ta)(ha:PA X (e::es) t)(hst:starEach (e::es) X.env=(false,eval e X.env)::starEach es X.env:=by rfl)(hpl:(backTo pos (starEach es X.env)).any (·.1)=false:=by rfl)(ht:eval (.Call (.Attribute o m apos) (e::es) [] pos) X.env=(do
   let ov <- eval o X.env
   standAt apos.atName
   let (f,first) <- holding [ov] (getMethod ov m pl)
   callWith pos f first (backTo pos (starEach (e::es) X.env)) (backToKw pos (keywordEach [] X.env))):=by rfl):
  PE X (.Call (.Attribute o m apos) (e::es) [] pos) (dW C m sp dvs E ta t):=by
 let#[43,f,fd,ps,ds,F,hm,O,U]:=M.ex;rwa[vf he M.cl hm F hr O U hx ha hst hpl ht]
theorem D2(M:CH X.prog X.w X.K X.mg X.base k C x sp)(hr:Gi X.base (k+1) X.A)(hx:dM (CXE X.prog X.w X.base.life) X E)(ha:PA X (e::es) t)(hg:Gl X x:=by rfl)(hdb:(x==("__debug__" : Str))=false:=by decide)(he:starEach (e::es) X.env=(false,eval e X.env)::starEach es X.env:=by rfl)(hpl:(backTo pos (starEach es X.env)).any (·.1)=false:=by rfl):
  PE X (.Call (.Name x p) (e::es) [] pos) (vA C sp [] E t):=by
 let#[32,f,fd,ps,F,hm,O]:=M.ex;rwa[uP hm F hr hg M.at_ O .nil hx ha hdb he hpl]
end
def nY(x C:Addr)(L:Life):HO:=.ext λh=>(∃oe,h.get? x=some oe/\oe.cls=.ref C)/\(L={}->jx h x (some .none))
def XQ(X:Cx)(L:Life)(pins:List (Addr×Obj))(σ:St)(EX:XK)(e:Value)(s':Shared):Prop:=∃H1 s1,Inv X pins σ H1 s1/\CXE X.prog X.w L X.stack H1 s1 EX e s'
def PEX(X:Cx)(L:Life)(e:Expr)(t:XK->TE):Prop:=
 ∀(pins:List (Addr×Obj)) (s:Shared) (σ:St) (H:Hp) (Q:VK) (EX:XK),#[7,7]->t EX σ H Q->wpAny #[7] X.A (eval e X.env) (EP X pins σ Q) (XQ X L pins σ EX) s
def PSX(X:Cx)(L:Life)(st:List Stmt)(t:XK->TS):Prop:=
 ∀(pins:List (Addr×Obj)) (s:Shared) (σ:St) (H:Hp) (D:gi) (EX:XK),#[7,7]->t EX D σ H->wpAny #[7] X.A (execs st X.env) (SP X pins D) (XQ X L pins σ EX) s
section
variable {m:Str}{k:Nat}{ds:List Value}{p:Pos}{o:Expr}{t:TA}{E:XK}{fd:FuncData}
theorem BZ{Q:VK}{vs:List V}(F:Gd X.prog X.w X.K X.mg X.base (CXE X.prog X.w X.base.life) k f fd ps sp)(hr:Gi X.base k X.A)(hb:Gq X.K fd ps ds)(hd:Ge dvs ds)(I:#[7,7])(r:Ge vs us)(h:sp (vs++dvs) H Q E):wpAny #[7] X.A (call (.ref f) us) (EP X pins σ Q) (XQ X X.base.life pins σ E) s:=by
 have U:Ge (vs++dvs) (us++ds):=r.append hd;have Z:(us++ds).length=ps.length:=by rw[<- U.length];rwa[F.len _ _ _ _ h]
 erw[PV (Ox (F.run X.A X.stack s H #[us,[]] (us++ds) (vs++dvs) Q E hr I.env0 (hb s us I.kIn Z) U h) λr s' O=>?_)]
 cases r with
 |error e=>rwa[21,H,s,I,O]
 |ok fl=>
  cases fl with
  |ret u=>rwa[I.after O]
  |next=>rwa[False.elim O]
  |brk=>rwa[False.elim O]
  |cont=>rwa[False.elim O]
theorem DN(F:jY X.prog X.w X.K X.mg X.base k x sp)(hr:Gi X.base k X.A)(ha:PA X.nox (e::es) t)(hg:Gl X x:=by rfl)(hdb:(x==("__debug__" : Str))=false:=by decide)(he:starEach (e::es) X.env=(false,eval e X.env)::starEach es X.env:=by rfl)(hpl:(backTo pos (starEach es X.env)).any (·.1)=false:=by rfl):
  PEX X X.base.life (.Call (.Name x p) (e::es) [] pos) (λO=>sr sp [] O t):=by
 let#[33,f,fd,ps,F,hm,hk,Z]:=F.ex;intros Q O I h;erw[MG (dY I hg hm ?_ hdb)];erw[callWith_K (h₀:=X.base) I.ok.mod.kin hk (Mf (ha pos pins s σ H _ (I.wish _) h) (λus s1 z=>?_) λ_ _ z=>False.elim z) he hpl]
 let#[22,vs,H1,U,r,q]:=z;rwa[U.kIn,BZ F hr Z .nil U.unwish r q]
theorem sO{t:XK->TE}(he:PEX X L e t)(hs:swapsWith e none pos.line X.env=pure false:=by rfl):PSX X L [.Expr e pos] (λO=>CM (t O)):=by
 intros D O I h;erw[wpAny_execs_cons (thn (Q:=SP X pins D) ?_ λf s1 q=>?_)]
 ·rwa[wpAny_Expr_any (thn (he pins s σ H _ O I h) λv s1 ⟨y,H1,U,r1,Z⟩=>#[21,σ,H1,U,Z]) I.quiet hs]
 ·cases f with
  |next=>rwa[P2 q]
  |ret v=>rwa[q]
  |brk=>rwa[q]
  |cont=>rwa[q]
end
abbrev Cx.caught(X:Cx)(x:Addr):Cx:={ X with A:=X.A.mark (some (.ref x)),calm:=false,xe:=λ_ _=>False }
section
variable {H1:Hp}{s1 s':Shared}{x:Addr}{B:Heap}
theorem Inv.caught(I:#[7,7])(x:Addr):Inv (X.caught x) pins σ H s:=
 have ok:=I.ok
 #[#[ok.mod,ok.kind,ok.glob,ok.blt,ok.above,ok.inj,ok.has,ok.cab,(λz=>nomatch z),ok.frames,ok.stk,ok.exf,ok.bs,ok.bsz,ok.noex,ok.exfs,ok.funs,ok.frf],I.os,I.bare,I.base,I.loc,I.cell,I.free,I.freeC,I.pin,I.hok,I.len]
theorem Inv.uncaught(I:Inv (X.caught x) pins σ H s)(hd:X.calm=true->HnB X.A X.base):#[7,7]:=
 have ok:=I.ok
 #[#[ok.mod,ok.kind,ok.glob,ok.blt,ok.above,ok.inj,ok.has,ok.cab,hd,ok.frames,ok.stk,ok.exf,ok.bs,ok.bsz,ok.noex,ok.exfs,ok.funs,ok.frf],I.os,I.bare,I.base,I.loc,I.cell,I.free,I.freeC,I.pin,I.hok,I.len]
theorem Fly.newB(F:Fly X.prog X.w L X.stack H1 s1 x cls B H' s'):B.get? x=none:=by
 let#[a0,O]:=F.fly;rwa[O.2.1]
theorem Fly.newH(F:Fly X.prog X.w L X.stack H1 s1 x cls B H' s'):H' x=none:=by
 cases e:H' x with
 |none=>rfl
 |some ob=>
  let#[o,O]:=(F.hok x ob e).obj;rw[F.newB] at O;cases O
theorem Fly.newS(I:Inv X pins σ H1 s1)(F:Fly X.prog X.w L X.stack H1 s1 x cls B H' s'):s1.heap.get? x=none:=by
 cases e:s1.heap.get? x with
 |none=>rfl
 |some ob=>
  by_cases hm:x∈frs X.stack
  ·let#[0111,_,o3,U,hd]:=I.stack.mem hm;rw[e] at U;cases U;let#[sl,e4]:=F.slot x ob e hm;let#[a0,fl]:=F.fly;let#[4013,oe,vs,T,oT,ts,he,_,O,_]:=fl.2.2.2;rw[e4] at he;cases he;rwa[absurd O (hd vs)]
  ·let#[o,Z]:=F.there x ob e hm;rw[F.newB] at Z;cases Z
theorem Fly.un(I:Inv X pins σ H1 s1)(F:Fly X.prog X.w L X.stack H1 s1 x cls B H' s')(st:B.StaysIn h)(up:s'.heap.UpToSlots h):Un (frs X.stack) [] H1 H' s1.heap h where
 keep:=λb o e n O _=>st b o (F.keep b o e n O)
 slot:=λb o e n O _=>by
  let#[sl,e2]:=F.slot b o e O;let#[0111,_,o3,U,hd]:=I.stack.mem O;rw[e] at U;cases U;let#[Z,e4]:=up b _ e2 hd;rwa[Z,e4]
 free:=λb o e n _=>F.free b o e n
 there:=λb o e _=>by
  by_cases O:b∈frs X.stack
  ·let#[sl,e2]:=F.slot b o e O;let#[0111,_,o3,U,hd]:=I.stack.mem O;rw[e] at U;cases U;let#[Z,e4]:=up b _ e2 hd;rwa[_,e4]
  ·let#[o',e2]:=F.there b o e O;rwa[o',st _ _ e2]
 tups:=F.tups
 frzs:=F.frzs
 tbls:=F.tbls
theorem Inv.fly(I:Inv X pins σ H1 s1)(F:Fly X.prog X.w L X.stack H1 s1 x cls B H' s')(st:B.StaysIn h)(up:s'.heap.UpToSlots h):Inv X pins σ H' { s' with heap:=h }:=
 Inv.call' (s':={ s' with heap:=h }) (ch:=[]) I F.os (Fly.un I F st up) (F.hok.kept st) F.bare λb O=>absurd O (by simp)
theorem Inv.flyX(I:Inv X pins σ H1 s1)(F:Fly X.prog X.w L X.stack H1 s1 x cls B H' s')(st:B.StaysIn h)(up:s'.heap.UpToSlots h)(hx:(∃oe,h.get? x=some oe/\oe.cls=.ref C)/\(L={}->jx h x (some .none))):
  Inv X pins σ (upd H' x (nY x C L)) { s' with heap:=h }:=by
 have u:=Fly.un I F st up;have nS:=Fly.newS I F;have O:=F.newH;erw[Inv.call' (s':={ s' with heap:=h }) (ch:=[]) I F.os #[u.keep,u.slot,λb o e n Z=>?_,u.there,λb xs e=>?_,λb o v e=>?_,λb ps e=>?_] (λb ob e=>?_) F.bare λb U=>absurd U (by simp)]
 ·rw[ak (λz=>by rw[z,nS] at e;cases e)]
  rwa[u.free b o e n Z]
 ·have e2:=u.tups b xs e;rw[ak (al e2 O)];rwa[e2]
 ·have e2:=u.frzs b o v e;rw[ak (al e2 O)];rwa[e2]
 ·let#[mo,e2]:=u.tbls b ps e;rwa[mo,by rw[ak (al e2 O)];rwa[e2]]
 ·by_cases U:b=x
  ·subst U;rw[ae] at e;cases e;let#[#[oe,h1,h2],h3]:=hx;rwa[#[#[oe,h1,h2],h3],#[oe,h1],λg1 g2 ⟨⟨o1,z1,z2⟩,z3⟩ k=>#[#[o1,k _ z1,z2],λq=>by let#[21,o2,v2,y1,y2]:=z3 q;rwa[21,o2,v2,k _ y1,y2]]]
  ·rw[ak U] at e;exact(F.hok b ob e).stay (λc v _ z=>st c v z) (λc z=>by rw[ak (al z O)];rwa[z]) λc xs z=>by rw[ak (al z O)];rwa[z]
theorem Inv.gone{m':Str->Option Value}(I:#[7,7])(hn:h.Ns X.env.locals m')(sb:Heap.SameBut X.env.locals s.heap h):Inv X pins (σ.map λ_=>none) H { s with heap:=h,toks:=tk }:=by
 have O:∀b o,X.s₀.heap.get? b=some o->b≠X.env.locals:=λb o e=>F9 (Hh (Hl e) I.ok.above)
 let#[m,#[oL,es,ep,a4,rL],_]:=id I.loc;let#[31,a5,a3,a2,a1,_]:=id hn;erw[I.ok,I.os,I.bare,#[λb o e n hb U=>(sb.2 b (O b o e)).trans (I.base.keep b o e n hb U),λb o e n hb U=>?_,I.base.free,λb o e U=>?_,I.base.tups,I.base.frzs,I.base.tbls],#[m',hn,λi y v Z e2 _=>?_],λy c e=>?_,I.free,I.freeC,λp hp=>?_,λb ob e=>?_,?_]
 ·let#[sl,Z]:=I.base.slot b o e n hb U;rwa[sl,(sb.2 b (O b o e)).trans Z]
 ·let#[o',Z]:=I.base.there b o e U;rwa[o',(sb.2 b (O b o e)).trans Z]
 ·rw[Hx] at e2;cases z:σ[i]? with
  |none=>rw[z] at e2;cases e2
  |some o=>rw[z] at e2;cases e2
 ·let#[v,z]:=I.cell y c e;rwa[v,z.sameBut sb (I.cne y c e)]
 ·let#[04,e,n,ne,nf,d]:=I.pin p hp;rwa[(sb.2 p.1 ne).trans e,n,ne,nf,d]
 ·refine(I.hok b ob e).stay (λc v hc z=>(sb.2 c λq=>?_).trans z) (λ_ z=>z) λ_ _ z=>z
  have hf:=I.free;rw[<- q] at hf
  rcases hc with z2|z2
  ·rw[z2,e] at hf;cases hf
  ·rw[hf] at z2;cases z2
 ·rw[z_];rwa[I.len]
end
def tTry(K:Frag)(CL:Addr)(i:Nat)(L:Life)(tb:XK->TS)(th:Addr->TS):TS:=λD σ H=>tb (λcls _ H'=>∃C,cls=.ref C/\PySem.W.exmOne K (.ref C) (.ref CL)=some true/\
 ∀x,H' x=none->th x { nx:=λσ' H2=>D.nx (σ'.map λ_=>none) H2,rt:=D.rt } (σ.set i (some (.ref x))) (upd H' x (nY x C L))) D σ H
theorem zq{i:Nat}{cn n:Str}{np hpos:Pos}{CL:Addr}{body:List Stmt}{b₀:Stmt}{suite:List Stmt}{tb:XK->TS}{th:Addr->TS}(hK:X.K=K)(hN:X.N.Nodup)(hi:X.N[i]? = some n)(hm:X.mg cn=some (.ref CL))(hb:PSX X L body tb)(hs:∀x,PSs (X.caught x) (b₀::suite) (th x))(hl:X.env.scope.names.lookup n=some .local:=by rfl)(hg:Gl X cn:=by rfl)(hstk:X.stack=X.env::X.outer:=by rfl)(hfr:X.env.frame=some X.env.locals:=by rfl)(hdb:(cn==("__debug__" : Str))=false:=by decide):
  PS X (.Try body [.ExceptHandler (some (.Name cn np)) (some n) (b₀::suite) hpos] [] [] pos) (tTry K CL i L tb th):=by
 subst hK;intros D I h;erw[wpAny_Try_except (Mf (hb pins s σ H D _ I h) (λf s1 q=>?_) λe s1 q=>?_)]
 ·cases f with
  |next=>rwa[P2 q]
  |ret v=>rwa[q]
  |brk=>rwa[q]
  |cont=>rwa[q]
 let#[214212,H1,s0,I0,x,cls,B,H',1,F,C,1,a',ap]:=q;let#[a0,fl]:=F.fly;have a9:X.A.frames=some (X.env::X.outer):=by rw[I.ok.frames,hstk]
 rw[hstk] at fl;erw[y8 (base:=B) a9 hfr fl λh4 U av a6=>?_]
 let#[03,f1,f2,f3,f4]:=U;erw[zQ (s:={ s1 with heap:=h4 }) f1 f2 f3 f4 λh5 O a5 a7=>?_]
 have a4:=av.trans a5;have I5:=(I0.fly F O.1 a4).caught x;have hX:∃oe,h5.get? x=some oe/\oe.cls=.ref C:=O.there
 erw[wpAny_handleBy_cons (codeAny_handlers_test (dY (X:=X.caught x) I5 hg hm ?_ hdb)) (by intro q;cases q)]
 let#[oe,ac,ad]:=hX;have LT:Looks #[7] h5 (typeOf (.ref x)) (.ref C):=ad▸(PySem.W.Looks.ld ac).andThen .now;refine(PySem.W.exm_one I5.kIn LT a').here ?_;erw[codeAny_handlers_suite_as ?_];let#[03,g1,g2,g3,g4]:=id O;erw[zQ (s:={ s1 with heap:=h5 }) g1 g2 g3 g4.at λh6 a3 ax a8=>?_]
 have I6:=(I0.flyX (C:=C) F a3.1 (a4.trans ax) #[a3.there,λz=>a8 _ (a7 _ (a6 _ (F.ctx z)))]).caught x
 erw[gH (X:=X.caught x) (v:=.ref x) I6 hN hi (.inl hl) rfl (λs7 I7=>?_) (.inr hl)]
 erw[Mf (hs x pins s7 _ _ _ I7 (ap x F.newH)) (λf s8 q8=>?_) λ_ _ z=>False.elim z]
 have lo:X.env.kindOf n=some .local:=hl;have a2:(X.env.scope.kind == .class || (X.env.scope.kind == .module&&X.env.locals != X.env.globals))=false:=by rw[I.ok.kind];rfl
 show wpAny _ X.A (do bindName X.env n .none;unbindBehindTheSuite X.env n hpos) (λ_ s3=>SP X pins D f s3) X.xe s8
 cases f with
 |next=>
  let#[21,σ',H2,J,q]:=q8;have J:=J.uncaught I.ok.hd;let#[m,hn,_]:=id J.loc;rwa[wpAny_nameGoes lo hn a2 λh9 m9 Z a1=>#[21,_,H2,J.gone Z a1,q]]
 |brk=>let#[21,_,_,_,q]:=q8;rwa[False.elim q]
 |cont=>let#[21,_,_,_,q]:=q8;rwa[False.elim q]
 |ret u=>
  let#[32,v,σ',H2,J,r,q]:=q8;have J:=J.uncaught I.ok.hd;let#[m,hn,_]:=id J.loc;rwa[wpAny_nameGoes lo hn a2 λh9 m9 Z a1=>#[32,v,_,H2,J.gone Z a1,r,q]]
structure XCl (K:Frag) (D:Addr):Prop where
 ek:Bo K D
 ga:findIn K (.ref D) "__getattribute__"=some (some (.builtin "BaseException.__getattribute__"))
 gt:findIn K (.ref D) "__getattr__"=some none
 ca:findIn K (.ref D) "__class__"=some (some (.builtin "object.__class__"))
 mo:PySem.W.mroIn K D (.type "object")=some true
 mb:PySem.W.mroIn K D (.type "BaseException")=some true
 dg:PySem.W.specialIn K (.builtin "object.__class__") "__get__"=some (some (.builtin "getset_descriptor.__get__"))
 dt:PySem.W.takesIn K (.builtin "object.__class__")=some true
section
variable {x:Addr}
theorem n5{tp:Value}(X:K.In s.heap)(c:XCl K D)(LT:Looks (model prog w) s.heap (typeOf (.ref x)) (.ref D))(h:R (.ok (.ret (.ref D))) s):
  codeAny (model prog w) A (.call (.builtin "getset_descriptor.__get__") #[[.builtin "object.__class__",.ref x,tp],[]]) R s:=by
 let#[Z,U,dr,tt,oo]:=s;have O:=PySem.W.looks_mroIn (M:=model prog w) X c.mo;erw[codeAny_call_builtin PySem.W.KF.slot_gs.plain PySem.W.KF.entry_gs (PySem.W.KF.slot_gs.check _ _ _ _ _ _ _ _ PySem.W.KF.type_class (PySem.W.KF.args_gs _ _ _) ?_)];unfold Builtin.«getset_descriptor.__get__» Builtin.Getset_descriptor.descrGet;rw[PySem.W.dga_obj];erw[c_ (f_ ?_)];unfold Builtin.Getset_descriptor.descrGetter Builtin.Getset_descriptor.descrCheckInstance Builtin.Getset_descriptor.descrNameAndClass isInstance;simp only[PySem.W.KF.owner_class]
 repeat lk
 erw[Code.quiet_builtin _ #[5],MP PySem.W.KF.entry_class ?_]
 unfold Builtin.«object.__class__» shownTypeOf
 repeat lk
 rwa[h]
theorem ya{M:Model}(X:K.In h)(c:XCl K D):Looks M h (Builtin.ObjectAttr.find (.ref x) (.ref D) "__class__") (.bind (.builtin "getset_descriptor.__get__") (.builtin "object.__class__")):=by
 unfold Builtin.ObjectAttr.find;refine(looks_findIn X c.ca).andThen ?_;erw[PySem.W.Looks.andThen (a:=some (.builtin "getset_descriptor.__get__")) (PySem.W.looks_specialIn X c.dg) ?_];erw[PySem.W.Looks.andThen (a:=some (.builtin "getset_descriptor.__get__",.builtin "object.__class__")) ((PySem.W.looks_takesIn X c.dt).andThen .now) ?_];rwa[PySem.W.Looks.tag .now]
set_option maxHeartbeats 1000000 in
theorem wO{Q:Option Value->Shared->Prop}(X:K.In s.heap)(c:XCl K D)(LT:Looks (model prog w) s.heap (typeOf (.ref x)) (.ref D))(h:Q (some (.ref D)) { s with toks:=s.toks+1 }):
  wpAny (model prog w) A (getAttr? (.ref x) "__class__") Q E s:=by
 let#[hh,gg,dr,U,oo]:=s;have Z:=looks_findIn (M:=model prog w) X c.ga;have L2:=looks_findIn (M:=model prog w) X c.gt;have L3:=ya (x:=x) (M:=model prog w) X c;unfold getAttr? getAttrBy? getAttrBy;erw[c_ (wpAny_mkText (c_ (Nr (Ls (c_ (LT.at (c_ (Z.at ?_))))))))];dsimp only;have O:(Value.builtin "BaseException.__getattribute__" == Value.builtin "object.__getattribute__")=false:=#[5]
 rw[w_ (by rw[O,Bool.and_false];rwa[G_])]
 unfold getAttrByItsOwn;erw[c_ (L2.at ?_)];erw[c_ (Nr (Ls ?_))];show wpAny _ _ (boundAndCalled (.builtin "BaseException.__getattribute__") (.ref x) _) _ _ _;unfold boundAndCalled;erw[c_ (M7 (PySem.F.attr_ValueError.ga.bind _) ?_)];erw[PV ?_];show codeAny _ _ (.call (.builtin "BaseException.__getattribute__") #[[.ref x,.str "__class__" U],[]]) _ _;have LB:Looks (model prog w) hh (isInstance (.ref x) (.type "BaseException")) true:=LT.andThen (PySem.W.looks_mroIn X c.mb);erw[codeAny_call_builtin PySem.F.attr_ValueError.ga.plain PySem.F.entry_bexc_ga ?_];erw[@PySem.W.check_slot (model prog w) _ _ _ "BaseException.__getattribute__" "BaseException" "__getattribute__" (.ref x) [.str "__class__" U] [] _ #[5] #[5] LB (PySem.F.args_bexc_ga _ _) ?_]
 unfold Builtin.«object.__getattribute__»;erw[c_ (f_ ?_)];erw[c_ (f_ ?_)];erw[c_ (LT.at ?_)];erw[c_ (L3.at ?_)];show wpAny _ _ (call (.builtin "getset_descriptor.__get__") [.builtin "object.__class__",.ref x,.ref D] >>= ret) _ _ _;erw[c_ (PV (n5 X c LT ?_))];rwa[f_ (f_ (f_ h))]
end
theorem rJ{x:Addr}(c:XCl K D):PySem.W.KitX K (.ref x) (.ref D) (λh=>∃oe,h.get? x=some oe/\oe.cls=.ref D) where
 ty:=λM h _ ⟨oe,h1,h2⟩=>h2▸(PySem.W.Looks.ld h1).andThen .now
 it:=λM h X _=>by
  let#[4040404011,bm,N,nm,qn,bs,hdct,sn,sub,ab,col,dd,k0,k1,k2,k3,k5,mN,O,_]:=pM X c.ek;intro A' Q' E' s' kk q;unfold isType loadHead;rwa[c_ (wpAny_loadPart (kk _ _ O) (f_ q))]
 ne:=λh tp dd its n sl X U=>by
  let#[4040404011,bm,N,nm,qn,bs,hdct,sn,sub,ab,col,Z,k0,k1,k2,k3,k5,mN,O,_]:=pM X c.ek;erw[No.mpr λq=>?_]
  have e:D=tp:=Value.ref.inj (OS.mp q);subst e;rw[O] at U;rwa[absurd (Value.type.inj (LD Obj.cls (Mc U))) #[]]
 ca:=λ{prog w A E Q s} X p k=>by
  let#[oe,h1,h2]:=p;rwa[wO X c (h2▸(PySem.W.Looks.ld h1).andThen .now) k]
def Cw:V->Value
 |.ref a=>.ref a
 |.ty n=>.type n
 |_=>.none
def pY:V->Bool
 |.ref _=>true
 |.ty _=>true
 |_=>false
theorem vW(h:pY v=true)(r:Gf v u):u=Cw v:=by
 cases v with
 |ref a=>rwa[r]
 |ty n=>rwa[r]
 |_=>cases h
theorem rM:∀{vs:List V} {us:List Value},vs.all pY=true->Ge vs us->us=vs.map Cw
 |_,_,_,.nil=>rfl
 |_,_,h,.cons r t=>by
  rw[all_cons,Lw] at h;rw[NF,<- vW h.1 r,<- rM h.2 t]
def ES(K:Frag):List V->Hp->VK->Prop:=λxs H Q=>∃(x D:Addr) (L:Life) (c:V) (b:Bool),xs=[.ref x,c]/\H x=some (nY x D L)/\XCl K D/\
 ((pY c=true/\kitOne K (.ref D) (Cw c)=some b)\/(∃tp cs,c=.ref tp/\H tp=some (.tup cs)/\cs.all pY=true/\PySem.W.kitAny K (.ref D) (cs.map Cw)=some b))/\Q (.bl b) H
theorem yx:cU X (.builtin "isinstance") (ES X.K):=by
 intros xs us Q I rv h;let#[4014,x,D,L,c,b,1,hx,cl,hc,q]:=h;let#[22,u,u',1,r1,Z]:=yi rv;cases (show u=Value.ref x from r1)
 let#[#[U,_],_]:=(show Gg X.prog X.w H s.heap x (nY x D L) from I.hok x _ hx)
 rcases hc with⟨h1,h2⟩|⟨tp,cs,rfl,htp,h1,h2⟩
 ·rw[<- vW h1 Z] at h2;rwa[Rb (rJ cl) I.kIn U h2 (λz=>nomatch z) λtk=>#[22,.bl b,H,I.tok tk,1,q]]
 ·cases (show u'=Value.ref tp from Z)
  let#[015210,_,its,rr,o,ho,O,n,hd]:=(show Gg X.prog X.w H s.heap tp (.tup cs) from I.hok tp _ htp)
  rw[<- rM h1 rr] at h2;let#[oc,od,a1,osl]:=o;dsimp only at O hd;subst O hd;rwa[PySem.W.kia_tup (rJ cl) I.kIn U ho h2 (λz=>nomatch z) λtk=>#[22,.bl b,H,I.tok tk,1,q]]
theorem cy(K:Frag){t:TA}{p:Pos}(T:Blt X.mg)(ha:PA X (e::es) t)(hK:X.K=K:=by rfl)(hg:Gl X "isinstance":=by rfl)(he:starEach (e::es) X.env=(false,eval e X.env)::starEach es X.env:=by rfl)(hpl:(backTo pos (starEach es X.env)).any (·.1)=false:=by rfl):PE X (.Call (.Name "isinstance" p) (e::es) [] pos) (tCB (ES K) t):=by
 subst hK;rwa[cJ yx hg T.isinst kE ha #[] #[] he hpl]
theorem yI{d:Value}(h:(us++[d]).length=3):∃a b,us=[a,b]:=by
 rw[x_,He] at h
 match us,h with
 |[a,b],_=>rwa[20,a,b,1]
section
variable {m:Str}{k:Nat}{p:Pos}{o:Expr}{t:TA}
theorem bR(M:MtB X.prog X.w X.K X.mg X.base k C m sp)(hr:Gi X.base k X.A)(he:PE X o ta)(ht:eval (.Call (.Attribute o m apos) [] [] pos) X.env=(do
   let ov <- eval o X.env
   standAt apos.atName
   let (f,first) <- holding [ov] (getMethod ov m pl)
   callWith pos f first (backTo pos (starEach [] X.env)) (backToKw pos (keywordEach [] X.env))):=by rfl):
  PE X (.Call (.Attribute o m apos) [] [] pos) (dW C m sp [] E0 ta cQ):=by
 let#[32,f,fd,ps,F,hm,O]:=M.ex;rwa[AR he M.cl hm F hr O .nil vd ht]
end
structure RoomH (k:Nat) (A:Around):Prop where
 dp:A.depth+3*k+5<recursionLimit
 un:A.units+16*k+200<cLine
theorem RoomH.deeper{k:Nat}(r:RoomH (k+1) A)(env:Env):RoomH k (A.deeper env):=
 #[by have:=r.dp;show A.depth+1+3*k+5<_;lia,by have:=r.un;show A.units+3+16*k+200<_;lia]
theorem Gi.marked{base:Heap}{k:Nat}(r:Gi base k A)(h:Option Value):RoomH k (A.mark h):=#[r.dp,r.un]
structure rX (P:Program) (w:World) (K:Frag) (mg:Str->Option Value) (base:Heap) (k:Nat) (f:Addr) (fd:FuncData) (ps:List Str) (sp:Sp):Prop where
 len:∀vs H Q E,sp vs H Q E->vs.length=ps.length
 run:∀(A:Around) (outer:List Env) (s:Shared) (H:Hp) (args:Args) (us:List Value) (vs:List V) (Q:VK) (E:XK),RoomH k A->`Env0 A outer s H->BindsTo s fd args (ps.zip us)->Ge vs us->sp vs H Q E->
  codeAny (model P w) A (.call (.ref f) args) (CR CX0 outer P w H s Q E) s
def cxH(P:Program)(w:World)(K:Frag)(mg:Str->Option Value)(base:Heap)(N:List Str)(qual:Str)(scope:Scope)(f:Addr)(cd:Value)(A:Around)(outer:List Env)(s:Shared)(H:Hp):Cx:=
 { dQ CX0 P w K mg base N qual scope f cd A outer s H E0 with calm:=false,xe:=λ_ _=>False }
section
variable {base:Heap}
theorem uy{s1:Shared}{vs:List V}(S:Gb N ps scope)(e0:`Env0 A outer s H)(hl:vs.length=ps.length)(r:Ge vs us)(x:InCallC s s.heap.objs.size (bindL (envOfC qual scope s.heap.objs.size f cd).kindOf (ps.zip us) λ_=>none) (cellsFrom (s.heap.objs.size+1) scope.names []) (bindC (envOfC qual scope s.heap.objs.size f cd).kindOf (ps.zip us) λ_=>none) s1):
  Inv (`cxH N qual scope f cd A outer s H) [] (dX N vs) H s1:=by
 have O:`Env0 { A with handled:=none } outer s H:=#[e0.frames,e0.mod,e0.bs,e0.bsz,e0.funs,e0.frf,e0.hok,e0.bare]
 have I:=oJ (CX:=CX0) (E:=E0) (A:={ A with handled:=none }) S #[λ_=>rfl,.inl rfl] O hl r x
 have ok:=I.ok;rwa[#[ok.mod,ok.kind,ok.glob,ok.blt,ok.above,ok.inj,ok.has,ok.cab,(λz=>nomatch z),Around.frames_deeper e0.frames,ok.stk,ok.exf,ok.bs,ok.bsz,ok.noex,ok.exfs,ok.funs,ok.frf],I.os,I.bare,I.base,I.loc,I.cell,I.free,I.freeC,I.pin,I.hok,I.len]
theorem D3{k:Nat}{params:Arguments}{body:List Stmt}{dV kV:Value}(lk:K.lookup f=some #[oc,od,.func (fnOf name qual params body scope dV kV doc pm an cdv ct),osl])(hcd:codeIn K cdv qual=true)(S:Gb N ps scope)(len:∀vs H Q E,sp vs H Q E->vs.length=ps.length)(hbody:∀(A:Around) (outer:List Env) (s:Shared) (H:Hp) (vs:List V) (Q:VK) (E:XK),RoomH k (A.deeper (envOfC qual scope s.heap.objs.size f cdv))->sp vs H Q E->
   ∃t,PSs (`cxH N qual scope f cdv A outer s H) body t/\t { nx:=λ_ H'=>Q .non H',rt:=Q } (dX N vs) H):
  rX P w K mg base (k+1) f (fnOf name qual params body scope dV kV doc pm an cdv ct) ps sp:=by
 erw[len,λA outer s H args us vs Q E hr Z hb r a1=>?_]
 have hl:=len _ _ _ _ a1;have KX:K.In s.heap:=Z.mod.kin.keeps λb o e=>(Z.bs b o e).1
 have a2:s.heap.NoLimit:=Z.mod.nolimit.keeps λb o e=>(Z.bs b o e).1
 have O:∀y∈ps.zip us,scope.names.lookup y.1=some .local\/(scope.names.lookup y.1=some .cell/\((cellsFrom (s.heap.objs.size+1) scope.names []).lookup y.1).isSome=true):=λ⟨n,v⟩ hy=>by
  rcases S.par n (of_mem_zip hy).1 with q|q
  ·rwa[.inl q]
  ·rwa[.inr #[q,PySem.W.cellsFrom_some _ _ _ (.inl q)]]
 erw[codeAny_call_function (by have:=hr.dp;lia) (KX _ _ lk) rfl S.co S.gen rfl (PySem.W.codeRec_of KX hcd) (hb _ _ _ _ ?_)]
 erw[wpAny_newFunctionEnv_cells S.kind O λenv he s1 x=>?_]
 subst he;erw[a2.keeps x.toInCall.keep,codeAny_func ?_];let#[t,ht,hq]:=hbody A outer s H vs Q E (hr.deeper _) a1;have I:Inv (`cxH N qual scope f cdv A outer s H) [] (dX N vs) H s1:=uy S Z hl r x;erw[Mf (ht [] s1 (dX N vs) H _ I hq) (λfl s' U=>?_) λe s' U=>False.elim U]
 have fin:∀{σ':St} {H':Hp} {v:V} {u:Value},Inv (`cxH N qual scope f cdv A outer s H) [] σ' H' s'->Gf v u->Q v H'->CE outer P w H s Q u s':=
  λ{σ' H' v u} J rv q=>#[25,v,H',J.os,J.bare,J.base,J.hok,rv,q]
 cases fl with
 |ret u=>
  let#[32,v,σ',H',J,rv,q]:=U;rwa[fin J rv q]
 |next=>
  let#[21,σ',H',J,q]:=U;rwa[fin (v:=V.non) (u:=Value.none) J rfl q]
 |brk=>
  let#[21,_,_,_,q]:=U;rwa[False.elim q]
 |cont=>
  let#[21,_,_,_,q]:=U;rwa[False.elim q]
theorem Fun.okH{fd:FuncData}{k:Nat}(F:Fun K x qual st f fd)(S:Gb N ps (aj st))(len:∀vs H Q E,sp vs H Q E->vs.length=ps.length)(hbody:∀(cdv:Value) (A:Around) (outer:List Env) (s:Shared) (H:Hp) (vs:List V) (Q:VK) (E:XK),RoomH k (A.deeper (envOfC qual (aj st) s.heap.objs.size f cdv))->sp vs H Q E->
   ∃t,PSs (`cxH N qual (aj st) f cdv A outer s H) (aW st) t/\t { nx:=λ_ H'=>Q .non H',rt:=Q } (dX N vs) H):`rX (k+1) f fd ps sp:=by
 let#[404012,oc,od,kV,doc,pm,an,cdv,ct,osl,1,lk,O]:=F.ex;rwa[D3 lk O S len λA outer s H vs Q E Z U=>hbody cdv A outer s H vs Q E Z U]
end
structure CI (P:Program) (w:World) (K:Frag) (mg:Str->Option Value) (base:Heap) (k:Nat) (x:Str) (sp:Sp):Prop where
 ex:∃f fd ps,`rX k f fd ps sp/\mg x=some (.ref f)/\keepIn K (.ref f)=true/\Gq K fd ps []
theorem yk{k:Nat}{p:Pos}{t:TA}(F:CI X.prog X.w X.K X.mg X.base k x sp)(hr:RoomH k X.A)(ha:PA X (e::es) t)(hg:Gl X x:=by rfl)(hdb:(x==("__debug__" : Str))=false:=by decide)(he:starEach (e::es) X.env=(false,eval e X.env)::starEach es X.env:=by rfl)(hpl:(backTo pos (starEach es X.env)).any (·.1)=false:=by rfl):
  PE X (.Call (.Name x p) (e::es) [] pos) (sr sp [] E0 t):=by
 let#[33,f,fd,ps,F,hm,hk,hb]:=F.ex;intros Q I h;erw[MG (dY I hg hm ?_ hdb)];erw[callWith_K (h₀:=X.base) I.ok.mod.kin hk (thn (ha pos pins s σ H _ I h) λus s1 ⟨vs,H1,U,r,q⟩=>#[U.kIn,?_]) he hpl]
 have q:sp (vs++[]) H1 Q E0:=q;rw[Pg] at q;have hl:(us++[]).length=ps.length:=by rw[Pg,<- r.length];rwa[F.len _ _ _ _ q]
 have Z:=hb s1 us U.kIn hl;rw[Pg] at Z;erw[PV (Ox (F.run X.A X.stack s1 H1 #[us,[]] us vs Q E0 hr U.env0 Z r q) λr s' O=>?_)]
 cases r with
 |error e=>rwa[False.elim O]
 |ok fl=>
  cases fl with
  |ret u=>rwa[U.after O]
  |next=>rwa[False.elim O]
  |brk=>rwa[False.elim O]
  |cont=>rwa[False.elim O]
open PySem.W
def ev(c:Nat->Nat->Bool):KasT α->α
 |.ret a=>a
 |.ask i j k=>ev c (k (c i j))
theorem hZ{c:Nat->Nat->Bool}{f:α->KasT β}:∀t:KasT α,ev c (t.bind f)=ev c (f (ev c t))
 |.ret _=>rfl
 |.ask i j k=>hZ (k (c i j))
structure Tot (n:Nat) (c:Nat->Nat->Bool):Prop where
 tr:∀i j k,i<n->j<n->k<n->c i j=true->c j k=true->c i k=true
 to:∀i j,i<n->j<n->i≠j->c i j=false->c j i=true
def Pm(n:Nat)(p:Array Nat):Prop:=p.toList.Perm (List.range n)
section
variable {c:Nat->Nat->Bool}
theorem Pm.sz(h:Pm n p):p.size=n:=by
 have:=h.length_eq;rw[OA] at this;rw[<- this];rfl
theorem q5{i:Nat}(hi:i<p.size):p.getD i 0=p[i]:=by simp[Array.getD,hi]
theorem sw(p:Array Nat)(i:Nat):p.getD i 0=(p[i]?).getD 0:=by simp[Array.getD_eq_getD_getElem?]
theorem Pm.lt(h:Pm n p){i:Nat}(hi:i<n):p.getD i 0<n:=by
 have O:=h.sz;rw[q5 ()]
 rwa[M_.mp (h.mem_iff.mp (by rw[Array.mem_toList_iff];rwa[Array.getElem_mem _]))]
theorem Pm.inj(h:Pm n p){i:Nat}(hi:i<n)(hj:j<n)(hne:i≠j):p.getD i 0≠p.getD j 0:=by
 have O:=h.sz;have nd:p.toList.Nodup:=h.nodup_iff.mpr List.nodup_range;intro z;rw[q5 (),q5 ()] at z
 rwa[hne ((getElem_inj (h₀:=by rw[Md];lia) (h₁:=by rw[Md];lia) nd).mp (by rw[Array.getElem_toList,Array.getElem_toList];rwa[z]))]
theorem Pm.of{q:Array Nat}(h:Pm n p)(e:q.Perm p):Pm n q:=(Array.perm_iff_toList_perm.mp e).trans h
def So(c:Nat->Nat->Bool)(p:Array Nat)(k:Nat):Prop:=∀i j,i<j->j<k->c (p.getD i 0) (p.getD j 0)=true
def De(c:Nat->Nat->Bool)(p:Array Nat)(k:Nat):Prop:=∀i j,i<j->j<k->c (p.getD j 0) (p.getD i 0)=true
theorem Tot.other(T:Tot n c)(hp:Pm n p){i:Nat}(hi:i<n)(hj:j<n)(hne:i≠j)(h:¬c (p.getD i 0) (p.getD j 0)=true):c (p.getD j 0) (p.getD i 0)=true:=
 T.to _ _ (hp.lt hi) (hp.lt hj) (hp.inj hi hj hne) (by simpa using h)
theorem Tot.trp(T:Tot n c)(hp:Pm n p){i k:Nat}(hi:i<n)(hj:j<n)(hk:k<n)(h1:c (p.getD i 0) (p.getD j 0)=true)(h2:c (p.getD j 0) (p.getD k 0)=true):c (p.getD i 0) (p.getD k 0)=true:=
 T.tr _ _ _ (hp.lt hi) (hp.lt hj) (hp.lt hk) h1 h2
theorem So.step(T:Tot n c)(hp:Pm n p){m:Nat}(h1:1<=m)(hm:m<n)(hs:So c p m)(h:c (p.getD (m-1) 0) (p.getD m 0)=true):So c p (m+1):=λi j O U=>by
 by_cases e:j=m
 ·subst e
  by_cases e2:i=j-1
  ·rw[e2];rwa[h]
  ·rwa[T.trp hp () () hm (hs i (j-1) () ()) h]
 ·rwa[hs i j O ()]
theorem De.step(T:Tot n c)(hp:Pm n p){m:Nat}(h1:1<=m)(hm:m<n)(hs:De c p m)(h:c (p.getD m 0) (p.getD (m-1) 0)=true):De c p (m+1):=λi j O U=>by
 by_cases e:j=m
 ·subst e
  by_cases e2:i=j-1
  ·rw[e2];rwa[h]
  ·rwa[T.trp hp hm () () h (hs i (j-1) () ())]
 ·rwa[hs i j O ()]
theorem tQ(T:Tot n c)(hp:Pm n p):∀f m,1<=m->m+f<=n->So c p m->m<=ev c (kas_asc p f m)/\ev c (kas_asc p f m)<=m+f/\So c p (ev c (kas_asc p f m))/\(ev c (kas_asc p f m)<m+f->c (p.getD (ev c (kas_asc p f m)) 0) (p.getD (ev c (kas_asc p f m)-1) 0)=true)
 |0,m,_,_,hs=>#[e_ _,e_ _,hs,λh=>absurd h (ME _)]
 |f+1,m,h1,h2,hs=>by
  by_cases O:c (p.getD m 0) (p.getD (m-1) 0)=true
  ·have e:ev c (kas_asc p (f+1) m)=m:=by
    show ev c (if c (p.getD m 0) (p.getD (m-1) 0)=true then .ret m else kas_asc p f (m+1))=m
    rw[C_ O];rfl
   rw[e];rwa[e_ _,(),hs,λ_=>O]
  ·have e:ev c (kas_asc p (f+1) m)=ev c (kas_asc p f (m+1)):=by
    show ev c (if c (p.getD m 0) (p.getD (m-1) 0)=true then .ret m else kas_asc p f (m+1))=_
    rw[w_ O]
   rw[e];let#[03,a,b,d,g]:=tQ T hp f (m+1) () () (hs.step T hp h1 () (T.other hp () () () O))
   rwa[(),(),d,λh=>g ()]
theorem vF(T:Tot n c)(hp:Pm n p):∀f m,1<=m->m+f<=n->De c p m->∃r,ev c (kas_desc f p m 0)=(p,r,0)/\m<=r/\r<=m+f/\De c p r
 |0,m,_,_,hs=>#[m,1,e_ _,e_ _,hs]
 |f+1,m,h1,h2,hs=>by
  by_cases O:c (p.getD m 0) (p.getD (m-1) 0)=true
  ·let#[13,r,e,a,b,d]:=vF T hp f (m+1) () () (hs.step T hp h1 () O)
   erw[r,?_,(),(),d]
   rw[<- e];show ev c (if c (p.getD m 0) (p.getD (m-1) 0)=true then(if 0>0 then kas_desc f (kas_rev p (m-(0+1)) m) (m+1) 0 else kas_desc f p (m+1) 0) else _)=_
   rw[C_ O,w_ #[]]
  ·erw[m,?_,e_ _,(),hs]
   have U:=T.other hp (show m<n by lia) (show m-1<n by lia) () O
   show ev c (if c (p.getD m 0) (p.getD (m-1) 0)=true then _ else .ask (p.getD (m-1) 0) (p.getD m 0) λd=>if d=true then .ret (p,m,0) else kas_desc f p (m+1) (0+1))=_
   rw[w_ O];show ev c (if c (p.getD (m-1) 0) (p.getD m 0)=true then .ret (p,m,0) else kas_desc f p (m+1) (0+1))=_
   rw[C_ U]
   rfl
theorem AB(hj:j<=p.size)(k:Nat):(kas_rev p 0 j).getD k 0=if k<j then p.getD (j-1-k) 0 else p.getD k 0:=by
 rw[sw];unfold kas_rev;rw[getElem?_mirror_all hj]
 by_cases h:k<j
 ·rw[C_ #[Hj _,h],C_ h,sw,Nat.zero_add]
 ·rw[w_ (λz=>h z.2),w_ h,sw]
theorem DO(hp:Pm n p)(j:Nat):Pm n (kas_rev p 0 j):=hp.of (mirror_perm _ _ _ _)
theorem De.rev{k:Nat}(hk:k<=p.size)(h:De c p k):So c (kas_rev p 0 k) k:=λi j O U=>by
 rw[AB hk,AB hk,C_ (),C_ U]
 rwa[h (k-1-j) (k-1-i) () ()]
theorem AW(T:Tot n c)(hp:Pm n p)(hn:1<=n):∃m q,ev c (kas_count n p)=(m,q)/\1<=m/\m<=n/\Pm n q/\So c q m:=by
 have s1:So c p 1:=λi j O hj=>()
 let#[03,a,b,d,g]:=tQ T hp (n-1) 1 (e_ _) () s1
 unfold kas_count;rw[hZ];generalize ev c (kas_asc p (n-1) 1)=r at *
 by_cases h1:(r==n)=true
 ·rw[C_ h1];rwa[24,r,p,1,a,(),hp,d]
 ·rw[w_ h1];have hr:r≠n:=by simpa using h1
  by_cases h2:r>1
  ·rw[C_ h2];show ∃m q,ev c (if c (p.getD 0 0) (p.getD (r-1) 0)=true then .ret (r,p) else _)=(m,q)/\_
   rw[C_ (d 0 (r-1) () ())]
   rwa[24,r,p,1,a,(),hp,d]
  ·rw[w_ h2];have r1:r=1:=()
   subst r1;have Z:De c p 2:=λi j O hj=>by
    have:i=0/\j=1:=()
    rw[this.1,this.2];rwa[g ()]
   unfold kas_descPart;rw[hZ];let#[13,k,e,ka,kb,kd]:=vF T hp (n-(1+1)) (1+1) #[] () Z
   rw[e];show ∃m q,ev c (if 0>0 then _ else kas_tail3 k n p)=(m,q)/\_
   rw[w_ #[]]
   unfold kas_tail3;rw[hZ];have U:=DO hp k;have sq:=De.rev (by rw[hp.sz];lia) kd
   let#[03,a',b',d',_]:=tQ T U (n-k) k () () sq
   rwa[24,_,0,(),(),U,d']
theorem lP(T:Tot n c)(hp:Pm n p){k:Nat}(hk:k<n)(hs:So c p k):∀f l r,r<=l+f->l<=r->r<=k->(∀i,i<l->c (p.getD i 0) (p.getD k 0)=true)->(∀i,r<=i->i<k->c (p.getD k 0) (p.getD i 0)=true)->
  ev c (kas_place p k f l r)<=k/\(∀i,i<ev c (kas_place p k f l r)->c (p.getD i 0) (p.getD k 0)=true)/\(∀i,ev c (kas_place p k f l r)<=i->i<k->c (p.getD k 0) (p.getD i 0)=true)
 |0,l,r,h1,h2,h3,lo,hi=>#[by show l<=k;lia,lo,λi hl O=>hi i (by have:l<=i:=hl;lia) O]
 |f+1,l,r,h1,h2,h3,lo,hi=>by
  by_cases Z:l ≥ r
  ·have e:ev c (kas_place p k (f+1) l r)=l:=by
    show ev c (if l ≥ r then .ret l else _)=l
    rw[C_ Z];rfl
   rw[e];rwa[(),lo,λi hl O=>hi i () O]
  ·have e:ev c (kas_place p k (f+1) l r)=ev c (if c (p.getD k 0) (p.getD ((l+r)/2) 0)=true then kas_place p k f l ((l+r)/2) else kas_place p k f ((l+r)/2+1) r):=by
    show ev c (if l ≥ r then .ret l else .ask (p.getD k 0) (p.getD ((l+r)/2) 0) λd=>if d=true then kas_place p k f l ((l+r)/2) else kas_place p k f ((l+r)/2+1) r)=_
    rw[w_ Z];rfl
   rw[e]
   by_cases U:c (p.getD k 0) (p.getD ((l+r)/2) 0)=true
   ·rw[C_ U];erw[lP T hp hk hs f l ((l+r)/2) () () () lo λi a1 a2=>?_]
    by_cases ei:i=(l+r)/2
    ·rw[ei];rwa[U]
    ·rwa[T.trp hp hk () () U (hs _ i () a2)]
   ·rw[w_ U];have ho:=T.other hp hk (show(l+r)/2<n by lia) () U
    erw[lP T hp hk hs f ((l+r)/2+1) r () () h3 (λi a1=>?_) hi]
    by_cases ei:i=(l+r)/2
    ·rw[ei];rwa[ho]
    ·rwa[T.trp hp () () hk (hs i _ () ()) ho]
theorem oI{k d:Nat}(hk:k<p.size)(hd:d<=k)(x:Nat):(bubble p k d).getD x 0=if x=k-d then p.getD k 0 else if k-d<x/\x<=k then p.getD (x-1) 0 else p.getD x 0:=by
 rw[sw,getElem?_bubble hk d hd]
 by_cases h:x=k-d
 ·rw[C_ h,C_ h,sw]
 ·rw[w_ h,w_ h]
  by_cases h2:k-d<x/\x<=k
  ·rw[C_ h2,C_ h2,sw]
  ·rw[w_ h2,w_ h2,sw]
theorem So.put(hp:Pm n p){k q:Nat}(hk:k<n)(hq:q<=k)(hs:So c p k)(lo:∀i,i<q->c (p.getD i 0) (p.getD k 0)=true)(hi:∀i,q<=i->i<k->c (p.getD k 0) (p.getD i 0)=true):So c (bubble p k (k-q)) (k+1):=λi j O hj=>by
 have hz:=hp.sz;rw[oI () (),oI () (),show k-(k-q)=q by lia]
 by_cases i1:i=q
 ·rw[C_ i1,w_ (),C_ ()]
  rwa[hi (j-1) () ()]
 ·rw[w_ i1]
  by_cases i2:q<i/\i<=k
  ·rw[C_ i2,w_ (),C_ ()]
   rwa[hs _ _ () ()]
  ·rw[w_ i2]
   by_cases U:j=q
   ·rw[C_ U];rwa[lo i ()]
   ·rw[w_ U]
    by_cases Z:q<j/\j<=k
    ·rw[C_ Z];rwa[hs _ _ () ()]
    ·rw[w_ Z];rwa[hs _ _ O ()]
end
theorem zi{c:Nat->Nat->Bool}(T:Tot n c):∀(f:Nat) (p:Array Nat) (k:Nat),Pm n p->k+f=n->So c p k->Pm n (ev c (kas_bin f p k))/\So c (ev c (kas_bin f p k)) n
 |0,p,k,hp,hk,hs=>#[hp,by rw[<- show k=n by lia];rwa[hs]]
 |f+1,p,k,hp,hk,hs=>by
  have e:ev c (kas_bin (f+1) p k)=ev c (kas_bin f (bubble p k (k-ev c (kas_place p k k 0 k))) (k+1)):=by
   show ev c ((kas_place p k k 0 k).bind λl=>kas_bin f (bubble p k (k-l)) (k+1))=_
   rw[hZ]
  rw[e];let#[a,lo,hi]:=lP T hp (show k<n by lia) hs k 0 k () () (e_ _) (λi h=>absurd h ()) (λi h1 h2=>())
  rwa[zi T f _ (k+1) (hp.of (bubble_perm _ _ _)) () (hs.put hp () a lo hi)]
theorem Cv{c:Nat->Nat->Bool}(T:Tot n c)(hn:1<=n):Pm n (ev c (kas_sort n))/\So c (ev c (kas_sort n)) n:=by
 have Z:Pm n (List.toArray (List.range n)):=List.Perm.refl _;let#[24,m,q,e,a,b,O,U]:=AW T Z hn;unfold kas_sort;rw[hZ,e];dsimp only
 by_cases h:m<n
 ·rw[C_ h];rwa[zi T _ q _ O () (by rw[show max m 1=m by lia];rwa[U])]
 ·rw[w_ h];rwa[O,by rw[<- show m=n by lia];rwa[U]]
section
variable {κ:Type}[DecidableEq κ]
def dZ(kvs:List (κ×V))(k:κ):Option V:=(kvs.find? λkv=>decide (kv.1=k)).map (·.2)
def cj(kvs:List (κ×V))(k:κ)(v:V):List (κ×V):=
 if (kvs.any λkv=>decide (kv.1=k))=true then kvs.map (λkv=>if kv.1=k then(kv.1,v) else kv) else kvs++[(k,v)]
theorem iZ{p:κ×V}{r:List (κ×V)}{k:κ}(e:p.1=k):dZ (p::r) k=some p.2:=by simp[dZ,QZ,e]
theorem jG{p:κ×V}{r:List (κ×V)}{k:κ}(e:¬p.1=k):dZ (p::r) k=dZ r k:=by simp[dZ,QZ,e]
theorem jc(k:κ):∀kvs:List (κ×V),(kvs.any λkv=>decide (kv.1=k))=(dZ kvs k).isSome
 |[]=>rfl
 |p::r=>by
  rw[any_cons]
  by_cases e:p.1=k
  ·simp only[iZ e,q_ e,Bool.true_or,Option.isSome_some]
  ·rw[jG e,GN e,Bool.false_or];rwa[jc k r]
theorem dH(kvs:List (κ×V))(k:κ)(v:V):(cj kvs k v).length<=kvs.length+1:=by
 unfold cj
 split
 ·rw[z_];lia
 ·rw[x_,Mn,Qh];lia
theorem AJ{kvs:List (κ×V)}{k:κ}(v:V)(h:dZ kvs k=none):cj kvs k v=kvs++[(k,v)]:=by
 unfold cj;rw[jc,h];rwa[w_ #[]]
theorem RelO.isSome_eq{o:Option V}{u:Option Value}(r:RelO o u):o.isSome=u.isSome:=by
 cases o with
 |none=>cases u with
  |none=>rfl
  |some _=>exact(show False from r).elim
 |some _=>cases u with
  |none=>exact(show False from r).elim
  |some _=>rfl
theorem RelO.getD{o:Option V}{u:Option Value}{d:V}{d':Value}(r:RelO o u)(rd:Gf d d'):Gf (o.getD d) (u.getD d'):=by
 cases o with
 |none=>cases u with
  |none=>rwa[rd]
  |some _=>exact(show False from r).elim
 |some _=>cases u with
  |none=>exact(show False from r).elim
  |some _=>rwa[r]
theorem KV.val{kvs:List (κ×V)}{vs:List (κ×Value)}(r:KV kvs vs)(k:κ):RelO (dZ kvs k) (valueAt vs k):=by
 unfold KV at r
 induction r with
 |nil=>rwa[True.intro]
 |@cons p q ps qs h t ih=>
  let#[h1,h2]:=h
  by_cases e:p.1=k
  ·have O:q.1=k:=h1.symm.trans e;have b:valueAt (q::qs) k=some q.2:=by simp[valueAt,QZ,O]
   rw[iZ e,b];rwa[h2]
  ·have O:¬q.1=k:=λz=>e (h1.trans z)
   have b:valueAt (q::qs) k=valueAt qs k:=by simp[valueAt,QZ,O]
   rw[jG e,b];rwa[ih]
theorem KV.any{kvs:List (κ×V)}{vs:List (κ×Value)}(r:KV kvs vs)(k:κ):(kvs.any λkv=>decide (kv.1=k))=vs.any λkv=>decide (kv.1=k):=by
 unfold KV at r
 induction r with
 |nil=>rfl
 |cons h t ih=>rw[any_cons,any_cons,ih,h.1]
theorem KV.repl{kvs:List (κ×V)}{vs:List (κ×Value)}(r:KV kvs vs)(k:κ)(ry:Gf y u):
  KV (kvs.map λkv=>if kv.1=k then(kv.1,y) else kv) (vs.map λkv=>if kv.1=k then(kv.1,u) else kv):=by
 unfold KV at r ⊢
 induction r with
 |nil=>rwa[.nil]
 |@cons p q ps qs h t ih=>
  rw[NF,NF];erw[.cons ?_ ih];let#[h1,h2]:=h
  by_cases e:p.1=k
  ·rw[C_ e,C_ (h1.symm.trans e)];rwa[h1,ry]
  ·rw[w_ e,w_ (λz=>e (h1.trans z))];rwa[h1,h2]
theorem KV.put{kvs:List (κ×V)}{vs:List (κ×Value)}(r:KV kvs vs)(k:κ)(ry:Gf y u):KV (cj kvs k y) (stored vs k u):=by
 unfold cj stored;rw[r.any k]
 by_cases e:(vs.any λkv=>decide (kv.1=k))=true
 ·rw[C_ e,C_ e];rwa[r.repl k ry]
 ·rw[w_ e,w_ e];rwa[Paired.snoc r #[1,ry]]
theorem KV.keys{kvs:List (κ×V)}{vs:List (κ×Value)}(r:KV kvs vs):kvs.map (·.1)=vs.map (·.1):=by
 unfold KV at r
 induction r with
 |nil=>rfl
 |cons h t ih=>rw[NF,NF,ih,h.1]
theorem KV.length{kvs:List (κ×V)}{vs:List (κ×Value)}(r:KV kvs vs):kvs.length=vs.length:=Paired.length r
end
theorem l7{k:Key}(r:Gf (kV k) u):(aI P w).is k u=true:=by
 cases k with
 |inl i=>let#[t,e]:=(show ∃t,u=Value.int i t from r);subst e;rwa[rP P w i t]
 |inr x=>let#[t,e]:=(show ∃t,u=Value.str x t from r);subst e;rwa[sH P w x t]
theorem oz:∀{ks:List Key} {us:List Value},Ge (ks.map kV) us->ItemsAre (aI P w) ks us
 |[],_,r=>by rw[map_nil] at r;cases r;rwa[.nil]
 |k::ks,_,r=>by
  rw[NF] at r;cases r with
  |cons h t=>rwa[.cons (l7 h) (oz t)]
abbrev KT(H:Hp):List (List Key×V)->List (List Key×Addr×Value)->Prop:=Paired λp q=>p.1=q.1/\H q.2.1=some (.tup (p.1.map kV))/\Gf p.2 q.2.2
theorem KT.val(r:KT H kvs xs)(k:List Key):RelO (dZ kvs k) ((atKey xs k).map (·.2)):=by
 induction r with
 |nil=>rwa[True.intro]
 |@cons p q ps qs h t ih=>
  let#[h1,_,h2]:=h
  by_cases e:p.1=k
  ·have O:q.1=k:=h1.symm.trans e;have b:atKey (q::qs) k=some q.2:=by simp[atKey,QZ,O]
   rw[iZ e,b];rwa[h2]
  ·have O:¬q.1=k:=λz=>e (h1.trans z)
   have b:atKey (q::qs) k=atKey qs k:=by simp[atKey,QZ,O]
   rw[jG e,b];rwa[ih]
theorem KT.repl(r:KT H kvs xs)(k:List Key)(ry:Gf y u):
  KT H (kvs.map λkv=>if kv.1=k then(kv.1,y) else kv) (xs.map (putAt k u)):=by
 induction r with
 |nil=>rwa[.nil]
 |@cons p q ps qs h t ih=>
  rw[NF,NF];erw[.cons ?_ ih];let#[h1,h2,O]:=h;unfold putAt
  by_cases e:p.1=k
  ·rw[C_ e,C_ (h1.symm.trans e)];rwa[h1,h2,ry]
  ·rw[w_ e,w_ (λz=>e (h1.trans z))];rwa[h1,h2,O]
theorem KT.put(r:KT H kvs xs)(k:List Key){b:Addr}(hb:H b=some (.tup (k.map kV)))(ry:Gf y u):
  KT H (cj kvs k y) (storedH xs k b u):=by
 have e:(kvs.any λkv=>decide (kv.1=k))=(atKey xs k).isSome:=by
  rw[jc,(r.val k).isSome_eq,Option.isSome_map]
 unfold cj storedH;rw[e]
 by_cases q:(atKey xs k).isSome=true
 ·rw[C_ q,C_ q];rwa[r.repl k ry]
 ·rw[w_ q,w_ q];rwa[Paired.snoc r #[1,hb,ry]]
theorem KT.keeps(r:KT H kvs xs)(ht:∀b ys,H b=some (.tup ys)->H' b=some (.tup ys)):KT H' kvs xs:=
 Paired.mapP r λ_ _ z=>#[z.1,ht _ _ z.2.1,z.2.2]
section
variable {a:Addr}
theorem C5{u:HO}(ok:HOk P w H h)(e:Rd H a u):Gg P w H h a u:=e.ok ok
theorem lX{kvs:List (Key×V)}(ok:HOk P w H h)(e:Rd H a (.dK kvs)):kvs.length<=sizeLine/\(a==sysModules)=false/\∃vs,KV kvs vs/\h.DictOf (aI P w) a vs:=
 show Gg P w H h a (.dK kvs) from C5 ok e
theorem CP{kvs:List (Key×V)}(ok:HOk P w H h)(e:H a=some (.dK kvs)):kvs.length<=sizeLine/\(a==sysModules)=false/\∃vs,KV kvs vs/\h.DictOf (aI P w) a vs:=lX ok (.inl e)
theorem jP{ks:List Key}(ok:HOk P w H h)(e:H a=some (.tup (ks.map kV))):(tupleKind (aI P w)).is h ks a:=by
 let#[015210,_,its,r,o,h1,h2,n,O]:=(show Gg P w H h a (.tup (ks.map kV)) from ok a _ e)
 rwa[33,o,its.toArray,n,h1,h2,O,by simpa using oz r]
theorem ph(ok:HOk P w H h)(e:Rd H a (.dT kvs)):kvs.length<=sizeLine/\(a==sysModules)=false/\
  ∃xs,KT H kvs xs/\h.DictOfH (tupleKind (aI P w)) a xs:=by
 let#[0274,z,y,xs,r,o,es,ep,h1,h2,U,Z,h5]:=(show Gg P w H h a (.dT kvs) from C5 ok e)
 erw[0275,z,y,xs,r,o,es,ep,h1,h2,U,Z,λx O=>?_,h5]
 have all:∀{l:List (List Key×V)} {m:List (List Key×Addr×Value)},KT H l m->∀x∈m,(tupleKind (aI P w)).is h x.1 x.2.1:=by
  intro l m q
  induction q with
  |nil=>intro x O;rwa[nomatch O]
  |@cons p q ps qs hq t ih=>
   intro x O
   rcases HB.mp O with e|O
   ·subst e;rwa[jP ok (by rw[<- hq.1];rwa[hq.2.1])]
   ·rwa[ih x O]
 rwa[all r x O]
theorem FR(ok:HOk P w H h)(e:H a=some (.dT kvs)):kvs.length<=sizeLine/\(a==sysModules)=false/\
  ∃xs,KT H kvs xs/\h.DictOfH (tupleKind (aI P w)) a xs:=ph ok (.inl e)
end
def DGet(H:Hp)(a:Addr)(y:V)(r:Option V):Prop:=
 (∃kvs k,Rd H a (.dK kvs)/\y=kV k/\r=dZ kvs k)\/∃kvs k b,Rd H a (.dT kvs)/\y=.ref b/\H b=some (.tup (k.map kV))/\r=dZ kvs k
def DPut(H:Hp)(a:Addr)(y v:V)(H':Hp):Prop:=
 (∃kvs k,H a=some (.dK kvs)/\y=kV k/\kvs.length<sizeLine/\H'=upd H a (.dK (cj kvs k v))) \/
 ∃kvs k b,H a=some (.dT kvs)/\y=.ref b/\H b=some (.tup (k.map kV))/\kvs.length<sizeLine/\H'=upd H a (.dT (cj kvs k v))
theorem DGet.k{a:Addr}{kvs:List (Key×V)}{k:Key}(e:H a=some (.dK kvs)):DGet H a (kV k) (dZ kvs k):=.inl #[22,kvs,k,.inl e,1,1]
theorem DGet.t{a b:Addr}{k:List Key}(e:H a=some (.dT kvs))(eb:H b=some (.tup (k.map kV))):DGet H a (.ref b) (dZ kvs k):=.inr #[33,kvs,k,b,.inl e,1,eb,1]
theorem DPut.k{a:Addr}{kvs:List (Key×V)}{k:Key}(e:H a=some (.dK kvs))(hl:kvs.length<sizeLine):DPut H a (kV k) v (upd H a (.dK (cj kvs k v))):=.inl #[23,kvs,k,e,1,hl,1]
theorem DPut.t{a b:Addr}{k:List Key}(e:H a=some (.dT kvs))(eb:H b=some (.tup (k.map kV)))(hl:kvs.length<sizeLine):
  DPut H a (.ref b) v (upd H a (.dT (cj kvs k v))):=.inr #[34,kvs,k,b,e,1,eb,hl,1]
section
variable {a:Addr}{r:Value}{o:Option V}
theorem Inv.big(I:#[7,7]):sysModules<s.heap.objs.size:=by
 have h:mainGlobals<s.heap.objs.size:=(I.mod.glob.keeps I.bk).lt;rwa[MN #[] h]
theorem xx(hu:A.units+1<cLine)(I:#[7,7])(g:DGet H a y (some v))(ry:Gf y u)(h:∀Z s',Inv X pins σ H s'->Gf v Z->Q Z s'):
  wpAny #[7] A (getItem (.ref a) u) Q E s:=by
 rcases g with⟨kvs,k,e,ey,l⟩|⟨kvs,k,b,e,ey,eb,l⟩
 ·subst ey;let#[0211,z,hd,vs,O,dd]:=lX I.hok e;let#[Z,hw,U]:=RelO.some_of (v:=v) (o:=valueAt vs k) (by rw[l];rwa[O.val k])
  rwa[wpAny_getItem_of (l7 ry) dd.mapOf hw (h Z _ (I.tok _) U)]
 ·subst ey;cases (show u=Value.ref b from ry)
  let#[0211,z,hd,xs,O,dd]:=ph I.hok e;let#[Z,hw,U]:=RelO.some_of (v:=v) (o:=(atKey xs k).map (·.2)) (by rw[l];rwa[O.val k])
  let#[p,hp,a1]:=Option.map_eq_some_iff.mp hw;erw[wpAny_getItem_heap (tupleKind_room_in1 hu) (jP I.hok eb) dd hp ?_];rw[a1];rwa[h Z _ (I.tok _) U]
theorem d_in(hu:A.units+1<cLine)(I:#[7,7])(g:DGet H a y o)(ry:Gf y u)(h:∀s',Inv X pins σ H s'->Q (.bool o.isSome) s'):
  wpAny #[7] A (compareOp .In u (.ref a)) Q E s:=by
 rcases g with⟨kvs,k,e,ey,l⟩|⟨kvs,k,b,e,ey,eb,l⟩
 ·subst ey;let#[0211,z,hd,vs,O,dd]:=lX I.hok e;erw[wpAny_in_of (l7 ry) hd dd.mapOf ?_];rw[<- (O.val k).isSome_eq,<- l];rwa[h _ (I.tok _)]
 ·subst ey;cases (show u=Value.ref b from ry)
  let#[0211,z,hd,xs,O,dd]:=ph I.hok e;erw[wpAny_in_heap (tupleKind_room_in1 hu) (jP I.hok eb) hd dd ?_];have q:=(O.val k).isSome_eq;rw[Option.isSome_map] at q;rw[<- q,<- l];rwa[h _ (I.tok _)]
theorem qh{t':Nat}{ob:HO}(I:#[7,7])(mu:Mut (H a))(hs:Heap.SameBut a s.heap h')(he:∃q,h'.get? a=some q)(new:Gg X.prog X.w (upd H a ob) h' a ob):
  Inv X pins σ (upd H a ob) { s with heap:=h',toks:=t' }:=
 I.write (x:=a) (e:=a) mu (.inl rfl) (λb q O z=>(hs.2 b O).trans z) he new
theorem uf{kvs:List (Key×V)}(z:kvs.length<=sizeLine)(hd:(a==sysModules)=false)(rel:KV kvs vs)(dd:h'.DictOf (aI P w) a vs):
  Gg P w H' h' a (.dK kvs):=#[z,hd,vs,rel,dd]
theorem xS{Q:Unit->Shared->Prop}(hu:A.units+1<cLine)(I:#[7,7])(g:DPut H a y v H')(ry:Gf y u)(rv:Gf v r)(h:∀s',Inv X pins σ H' s'->Q ⟨⟩ s'):
  wpAny #[7] A (setItem (.ref a) u r) Q E s:=by
 rcases g with⟨kvs,k,e,ey,l,eH⟩|⟨kvs,k,b,e,ey,eb,l,eH⟩
 ·subst ey eH;let#[0211,z,hd,vs,O,dd]:=CP I.hok e;have hz:vs.length<=sizeLine:=by rw[<- O.length];rwa[z]
  have hl:(cj kvs k v).length<=sizeLine:=by have:=dH kvs k v;lia
  erw[wpAny_setItem_pairs (hsz:=hz) (l7 ry) dd λh' U hs=>h _ ?_]
  have he:∃q,h'.get? a=some q:=let ⟨q,_,_,Z,_⟩:=U;#[q,Z]
  rwa[qh I (by rw[e];rwa[True.intro]) hs he (uf hl hd (O.put k rv) U)]
 ·subst ey eH;cases (show u=Value.ref b from ry)
  let#[0211,z,hd,xs,O,dd]:=FR I.hok e;have hz:xs.length<=sizeLine:=by rw[<- Paired.length O];rwa[z]
  have hl:(cj kvs k v).length<=sizeLine:=by have:=dH kvs k v;lia
  erw[wpAny_setItem_heap (hsz:=hz) (tupleKind_room_in1 hu) (jP I.hok eb) dd λh' U hs=>h _ ?_]
  let#[35,q,es,ep,Z,h2,h3,h4,_,h5]:=U;erw[qh I (by rw[e];rwa[True.intro]) hs #[q,Z] #[0274,hl,hd,_,(O.put k eb rv).keeps λc ys ec=>?_,q,es,ep,Z,h2,h3,h4,h5]]
  rw[ak (bD ec e (λz=>nomatch z))]
  rwa[ec]
end
def Fq(i:Expr):Prop:=∀ov iv,subscripted i false ov iv=operate [ov,iv] (getItem ov iv)
theorem Bm{env:Env}{slice:Expr}{T id:String}(hl:typeLookup (.type T) "__getitem__" = pure (some (.builtin id)))(hs:Fq slice)(h:wpAny (model prog w) A (eval value env) (λo s₁=>wpAny (model prog w) A (eval slice env) (λi O=>O.TypeIs o T/\wpAny (model prog w) A (getItem o i) Q E O) E s₁) E s):
  wpAny (model prog w) A (eval (.Subscript value slice pos) env) Q E s:=by
 erw[Subscript_ (Mf h (λo s₁ h₁=>Mf h₁ (λi O U=>?_) λ_ _ x=>x) λ_ _ x=>x)]
 let#[Z,U]:=U;unfold subscriptTail;erw[c_ ?_];rw[getitemInPython_of_ne Z.not_modules];erw[c_ (wpAny_specialOf Z hl ?_)];have fin:wpAny (model prog w) A (subscripted slice false o i) (λr s₃=>wpAny (model prog w) A (letTemporaryGo value o r >>= λ_=>pure r) Q E s₃) E O:=by
  rw[hs o i];rwa[wpAny_operating (Mf U (λr s₃ h₃=>c_ (wpAny_letTemporaryGo (f_ h₃))) λ_ _ x=>x)]
 first
  |rwa[f_ (c_ fin)]
  |rwa[c_ (f_ (c_ fin))]
  |rwa[c_ fin]
theorem qJ{a:Addr}{o:Option V}(I:#[7,7])(g:DGet H a y o):s.TypeIs (.ref a) "dict":=by
 rcases g with⟨kvs,k,e,_,_⟩|⟨kvs,k,b,e,_,_,_⟩
 ·let#[0211,_,_,vs,_,dd]:=lX I.hok e;rwa[dd.typeIs]
 ·let#[0211,_,_,xs,_,dd]:=ph I.hok e;rwa[dd.typeIs]
def Fu(td ty:TE):TE:=λσ H Q=>td σ H λx H1=>ty σ H1 λy H2=>∃a v,x=.ref a/\DGet H2 a y (some v)/\Q v H2
def tDIn(ty td:TE):TE:=λσ H Q=>ty σ H λy H1=>td σ H1 λx H2=>∃a o,x=.ref a/\DGet H2 a y o/\Q (.bl o.isSome) H2
def ET(td ty tv:TE):TS:=λD σ H=>tv σ H λv H1=>td σ H1 λx H2=>ty σ H2 λy H3=>∃a H4,x=.ref a/\DPut H3 a y v H4/\D.nx σ H4
section
variable {o i:Expr}{pos' tpos:Pos}{td ty tv:TE}
theorem jt(hu:X.A.units+1<cLine)(ho:PE X o td)(hi:PE X i ty)(hs:Fq i):PE X (.Subscript o i pos) (Fu td ty):=by
 intros Q I h;erw[Bm PySem.F.slot_dict_getitem.lookup hs (thn (ho pins s σ H _ I h) λu s1 ⟨x,H1,Z,rx,q1⟩=>thn (hi pins s1 σ H1 _ Z q1) λiv s2 ⟨y,H2,U,ry,a,v,ex,g,q2⟩=>?_)]
 subst ex;obtain rfl:u=Value.ref a:=rx;rwa[qJ U g,xx hu U g ry λw' s3 I3 O=>#[22,v,H2,I3,O,q2]]
theorem D5(hu:X.A.units+1<cLine)(hi:PE X i ty)(ho:PE X o td):PC X .In i o (tDIn ty td):=by
 intros Q I h;erw[thn (hi pins s σ H _ I h) λiv s1 ⟨y,H1,O,ry,q1⟩=>thn (ho pins s1 σ H1 _ O q1) λu s2 ⟨x,H2,U,rx,a,ov,ex,g,q2⟩=>?_]
 subst ex;obtain rfl:u=Value.ref a:=rx;rwa[d_in hu U g ry λs3 Z=>#[22,.bl ov.isSome,H2,Z,1,q2]]
theorem wa(hu:X.A.units+1<cLine)(ho:PE X o td)(hi:PE X i ty)(hv:PE X value tv)(hs:swapsWith value (some (.Subscript o i pos')) pos.line X.env=pure false):
  PS X (.Assign [.Subscript o i pos'] value pos) (ET td ty tv):=by
 intros D I h;erw[wpAny_Assign_Subscript (thn (hv pins s σ H _ I h) λr s1 ⟨v,H1,U,rv,q1⟩=>thn (ho pins s1 σ H1 _ U q1) λu s2 ⟨x,H2,Z,rx,q2⟩=>thn (hi pins s2 σ H2 _ Z q2) λiv s3 ⟨y,H3,I3,ry,a,O,ex,g,q3⟩=>?_) hs]
 subst ex;obtain rfl:u=Value.ref a:=rx;rwa[xS hu I3 g ry rv λs4 I4=>#[21,σ,O,I4,q3]]
end
theorem rT(h:Heap)(hb:sysModules<h.objs.size):Gg P w H (h.push { cls:=.type "dict",data:=.dict #[8] }) h.objs.size (.dK []):=
 #[Hj _,Nh.mpr (Ne.symm (F9 hb)),[],.nil,Heap.DictOf.new h]
theorem zI(h:Heap)(hb:sysModules<h.objs.size):Gg P w H (h.push { cls:=.type "dict",data:=.dict #[8] }) h.objs.size (.dT []):=
 #[0274,Hj _,Nh.mpr (Ne.symm (F9 hb)),[],.nil,_,#[8],(0),A_ _ rfl,#[1,1,1],1,1,nodup_nil]
def Eu:TE:=λ_ H Q=>∀p,H p=none->Q (.ref p) (upd H p (.dK []))
def Dy:TE:=λ_ H Q=>∀p,H p=none->Q (.ref p) (upd H p (.dT []))
section
theorem lF:PE X (.Dict [] [] pos) Eu:=λpins s σ H Q I h=>
 wpAny_Dict_empty #[22,.ref s.heap.objs.size,_,I.laid (a:=s.heap.objs.size) (o:=.dK []) (t':=s.toks) (λ_ _ q=>g_ _ q) (e_ _) (rT s.heap I.big),1,h _ (I.hok.fresh (e_ _))]
theorem yH:PE X (.Dict [] [] pos) Dy:=λpins s σ H Q I h=>
 wpAny_Dict_empty #[22,.ref s.heap.objs.size,_,I.laid (a:=s.heap.objs.size) (o:=.dT []) (t':=s.toks) (λ_ _ q=>g_ _ q) (e_ _) (zI s.heap I.big),1,h _ (I.hok.fresh (e_ _))]
end
def uB:List (TE×TE)->St->Hp->(List (V×V)->Hp->Prop)->Prop
 |[],_,H,Q=>Q [] H
 |(tk,tv)::r,σ,H,Q=>tk σ H λx H1=>tv σ H1 λy H2=>uB r σ H2 λps H3=>Q ((x,y)::ps) H3
abbrev VV:List (V×V)->List (Value×Value)->Prop:=Paired λp q=>Gf p.1 q.1/\Gf p.2 q.2
def PPs(X:Cx)(pos:Pos)(keys:List (Option Expr))(values:List Expr)(trs:List (TE×TE)):Prop:=
 ∀(pins:List (Addr×Obj)) (s:Shared) (σ:St) (H:Hp) (Q:List (V×V)->Hp->Prop),#[7,7]->uB trs σ H Q->
  wpAny #[7] X.A (evalPairs (pairTrees keys values X.env pos)) (λvs s'=>∃ps H',Inv X pins σ H' s'/\VV ps vs/\Q ps H') X.xe s
theorem Bs:PPs X pos [] [] []:=λpins s σ H Q I h=>pairTrees_nil_walk #[22,[],H,I,.nil,h]
theorem Ap{k v:Expr}{ks:List (Option Expr)}{vs:List Expr}{tk tv:TE}(hk:PE X k tk)(hv:PE X v tv)(hr:PPs X pos ks vs trs):
  PPs X pos (some k::ks) (v::vs) ((tk,tv)::trs):=λpins s σ H Q I h=>
 pairTrees_cons_walk (thn (hk pins s σ H _ I h) λu s1 ⟨x,H1,Z,rx,q1⟩=>thn (hv pins s1 σ H1 _ Z q1) λw2 s2 ⟨y,H2,I2,ry,q2⟩=>
  thn (hr pins s2 σ H2 _ I2 q2) λws s3 ⟨ps,U,I3,O,q3⟩=>#[22,(x,y)::ps,U,I3,.cons #[rx,ry] O,q3])
def mL(kvs more:List (Key×V)):List (Key×V):=more.foldl (λacc kv=>cj acc kv.1 kv.2) kvs
theorem KV.merge:∀{more:List (Key×V)} {rs:List (Key×Value)} {kvs:List (Key×V)} {vs:List (Key×Value)},KV more rs->KV kvs vs->KV (mL kvs more) (merged vs rs):=by
 intro more rs kvs vs r;unfold KV at r
 induction r generalizing kvs vs with
 |nil=>intro q;rwa[q]
 |@cons p q ps qs h t ih=>
  intro O;have e:KV (cj kvs p.1 p.2) (stored vs q.1 q.2):=by
   have:=O.put p.1 h.2;rw[<- h.1];rwa[this]
  rwa[ih e]
theorem iz:∀(more kvs:List (Key×V)),(mL kvs more).length<=kvs.length+more.length
 |[],kvs=>by show kvs.length<=kvs.length+0;lia
 |p::r,kvs=>by
  have h1:=iz r (cj kvs p.1 p.2);have h2:=dH kvs p.1 p.2;show(mL (cj kvs p.1 p.2) r).length<=_;rw[Mn];lia
theorem lK{P:Program}{w:World}:∀{kvs:List (Key×V)} {ws:List (Value×Value)},VV (kvs.map λkv=>(kV kv.1,kv.2)) ws->∃rs,Carries (aI P w) ws rs/\KV kvs rs
 |[],_,r=>by rw[map_nil] at r;cases r;rwa[[],True.intro,.nil]
 |p::kvs,_,r=>by
  rw[NF] at r;cases r with
  |@cons a b as bs h t=>
   let#[rs,c,q]:=lK (P:=P) (w:=w) t;let#[b1,O]:=b;rwa[(p.1,O)::rs,#[l7 h.1,1,c],.cons #[1,h.2] q]
def E2(trs:List (TE×TE)):TE:=λσ H Q=>∀p,H p=none->uB trs σ (upd H p (.dK [])) λps H2=>H2 p=some (.dK [])/\∃kvs:List (Key×V),ps=kvs.map (λkv=>(kV kv.1,kv.2))/\kvs.length<=15/\Q (.ref p) (upd H2 p (.dK (mL [] kvs)))
theorem BP{keys:List (Option Expr)}{values:List Expr}(h:PPs X pos keys values trs)(hall:keys.all (·.isSome)=true)(hl:keys.length=values.length)(h0:keys≠[])(h15:keys.length<=15):PE X (.Dict keys values pos) (E2 trs):=by
 intros Q I q;have hn:=I.hok.fresh (e_ s.heap.objs.size);have I1:=I.laid (a:=s.heap.objs.size) (o:=.dK []) (h':=s.heap.push { cls:=.type "dict",data:=.dict #[8] }) (t':=s.toks) (λ_ _ q=>g_ _ q) (e_ _) (rT s.heap I.big)
 erw[wpAny_Dict_walk (knd:=aI X.prog X.w) hall hl h0 h15 (thn (h pins _ σ _ _ I1 (q _ hn)) λws s2 ⟨ps,H2,Z,U,e,kvs,ep,lk,q2⟩=>?_)]
 subst ep;let#[rs,c,rk]:=lK (P:=X.prog) (w:=X.w) U;let#[0211,z,hd,a1,r0,dd]:=CP Z.hok e;cases r0;erw[rs,c,dd,λh' O hs=>#[22,.ref s.heap.objs.size,_,?_,1,q2]]
 have hz:(mL [] kvs).length<=sizeLine:=by
  have h1:=iz kvs [];rw[Qh] at h1;rw[Hc];lia
 have he:∃q,h'.get? s.heap.objs.size=some q:=let ⟨q,_,_,hq,_⟩:=O;#[q,hq]
 rwa[qh Z (by rw[e];rwa[True.intro]) hs he (uf hz hd (rk.merge .nil) O)]
structure M2 (X:Cx) (o:Expr) (m:Str) (apos:Pos) (e f:Expr) (cpos:Pos):Prop where
 base:attributeBase o m X.env (eval o X.env)=eval o X.env
 few:((backTo cpos (starEach [e,f] X.env)).all (λx=>!x.1)&&(backToKw cpos (keywordEach [] X.env)).all (λx=>x.1.isSome)
  && decide (([e,f]:List Expr).length+([]:List Keyword).length+(if ([]:List Keyword).isEmpty then 0 else 1)<30))=true
 line:(apos.endLine==cpos.line)=true
 trees:backTo cpos (starEach [e,f] X.env)=[(false,eval e X.env),(false,eval f X.env)]
def IsD(H:Hp)(a:Addr):Prop:=(∃kvs,Rd H a (.dK kvs))\/∃kvs,Rd H a (.dT kvs)
theorem Er{a:Addr}(I:#[7,7])(d:IsD H a):
  s.TypeIs (.ref a) "dict"/\(∀b,Value.ref a=.ref b->∃O,s.heap.get? b=some O/\O.dict=none)/\(a==sysModules)=false:=by
 rcases d with⟨kvs,e⟩|⟨kvs,e⟩
 ·let#[0211,_,hd,vs,_,dd]:=lX I.hok e;erw[dd.typeIs,λb q=>?_,hd]
  cases q;let#[32,O,_,_,h1,h2,_]:=dd;rwa[O,h1,h2.2.1]
 ·let#[0211,_,hd,xs,_,dd]:=ph I.hok e;erw[dd.typeIs,λb q=>?_,hd]
  cases q;let#[32,O,_,_,h1,h2,_]:=dd;rwa[O,h1,h2.2.1]
section
variable {a:Addr}{d:V}{r:Value}{o:Option V}
theorem Et(hu:A.units+1<cLine)(I:#[7,7])(g:DGet H a y o)(ry:Gf y u)(rd:Gf d r)(h:∀U s',Inv X pins σ H s'->Gf (o.getD d) U->Q U s'):
  wpAny #[7] A (call (.builtin "dict.get") [.ref a,u,r]) Q E s:=by
 rcases g with⟨kvs,k,e,ey,l⟩|⟨kvs,k,b,e,ey,eb,l⟩
 ·subst ey;let#[0211,z,hd,vs,O,dd]:=lX I.hok e;erw[call_meetsIn PySem.F.slot_dict_get dd.typeIs PySem.F.entry_dict_get (PySem.F.args_dict_get_3 _ _ _) (meets_dict_get_default (aI X.prog X.w) a (l7 ry) hd r) #[_,dd.mapOf,h _ _ (I.tok _) ?_]];rw[l];exact(O.val k).getD rd
 ·subst ey;cases (show u=Value.ref b from ry)
  let#[0211,z,hd,xs,O,dd]:=ph I.hok e;erw[call_meetsIn PySem.F.slot_dict_get dd.typeIs PySem.F.entry_dict_get (PySem.F.args_dict_get_3 _ _ _) (meetsH_dict_get_default (tupleKind (aI X.prog X.w)) a b hd r) #[0122,tupleKind_room_in1 hu,k,xs,jP I.hok eb,dd,h _ _ (I.tok _) ?_]];rw[l];exact(O.val k).getD rd
end
def Ds(td ty tx:TE):TE:=λσ H Q=>td σ H λx H1=>∃a,x=.ref a/\IsD H1 a/\ty σ H1 λy H2=>tx σ H2 λz H3=>∃o,DGet H3 a y o/\Q (o.getD z) H3
section
variable {o f:Expr}{td ty tx:TE}
theorem Bf(hu:X.A.units+1<cLine)(ho:PE X o td)(he:PE X e ty)(hf:PE X f tx)(m:M2 X o "get" apos e f cpos):PE X (.Call (.Attribute o "get" apos) [e,f] [] cpos) (Ds td ty tx):=by
 intros Q I h;erw[wpAny_Call_method m.base m.few m.line PySem.F.plainAttrs_dict PySem.F.slot_dict_get PySem.F.type_dict_get (thn (ho pins s σ H _ I h) λu s1 ⟨x,H1,U,rx,a,ex,d,q1⟩=>?_)]
 subst ex;obtain rfl:u=Value.ref a:=rx;let#[t1,t2,_]:=Er U d;erw[t1,t2,?_];rw[m.trees];erw[Calls.callWith_builtin rfl (Calls.evalArgs_plain (Calls.spliced_cons (thn (he pins s1 σ H1 _ U q1) λiv s2 ⟨y,H2,I2,ry,q2⟩=>
  Calls.spliced_cons (thn (hf pins s2 σ H2 _ I2 q2) λfv s3 ⟨z,Z,I3,rz,ov,g,q3⟩=>Calls.spliced_nil ?_))))]
 rwa[Et hu I3 g ry rz λw' s4 I4 O=>#[22,_,Z,I4,O,q3]]
end
def InR(n:Nat)(P:α->Prop):KasT α->Prop
 |.ret a=>P a
 |.ask i j k=>i<n/\j<n/\∀b,InR n P (k b)
theorem InR.bind{P:α->Prop}{Q:β->Prop}{f:α->KasT β}:∀{t:KasT α},InR n P t->(∀a,P a->InR n Q (f a))->InR n Q (t.bind f)
 |.ret a,h,hf=>hf a h
 |.ask i j k,h,hf=>#[h.1,h.2.1,λb=>InR.bind (h.2.2 b) hf]
theorem InR.ite{P:α->Prop}{c:Prop}[Decidable c]{t u:KasT α}(h1:InR n P t)(h2:InR n P u):InR n P (if c then t else u):=by
 split
 ·rwa[h1]
 ·rwa[h2]
def Lo(n:Nat)(p:Array Nat):Prop:=∀x∈p,x<n
theorem Lo.at(h:Lo n p)(h0:0<n)(i:Nat):p.getD i 0<n:=by
 rw[sw];cases e:p[i]? with
 |none=>rwa[h0]
 |some x=>rwa[h x (Array.mem_of_getElem? e)]
theorem Lo.of{q:Array Nat}(h:Lo n p)(e:q.Perm p):Lo n q:=λx O=>h x (e.mem_iff.mp O)
section
variable (h0:0<n)
include h0
theorem qz(hp:Lo n p):∀f m,InR n (λ_=>True) (kas_asc p f m)
 |0,m=>trivial
 |f+1,m=>#[hp.at h0 _,hp.at h0 _,λb=>.ite trivial (qz hp f (m+1))]
theorem jo:∀f p m q,Lo n p->InR n (λr=>Lo n r.1) (kas_desc f p m q)
 |0,p,m,q,hp=>hp
 |f+1,p,m,q,hp=>#[hp.at h0 _,hp.at h0 _,λb=>.ite (.ite (jo f _ _ _ (hp.of (mirror_perm _ _ _ _))) (jo f _ _ _ hp))
   #[hp.at h0 _,hp.at h0 _,λd=>.ite hp (jo f _ _ _ hp)]]
theorem pH(hp:Lo n p)(m k:Nat):InR n (λr=>Lo n r.2) (kas_tail3 m k p):=
 (qz h0 (hp.of (mirror_perm _ _ _ _)) _ _).bind λ_ _=>hp.of (mirror_perm _ _ _ _)
theorem i4(hp:Lo n p)(m k:Nat):InR n (λr=>Lo n r.2) (kas_descPart m k p):=
 (jo h0 _ _ _ _ hp).bind λr O=>.ite (pH h0 (O.of (mirror_perm _ _ _ _)) _ _) (pH h0 O _ _)
theorem wI(hp:Lo n p)(k:Nat):InR n (λr=>Lo n r.2) (kas_count k p):=
 (qz h0 hp _ _).bind λm _=>.ite hp (.ite #[hp.at h0 _,hp.at h0 _,λc=>.ite hp (i4 h0 (hp.of (mirror_perm _ _ _ _)) _ _)] (i4 h0 hp _ _))
theorem j3(hp:Lo n p)(k:Nat):∀f l r,InR n (λ_=>True) (kas_place p k f l r)
 |0,l,r=>trivial
 |f+1,l,r=>.ite trivial #[hp.at h0 _,hp.at h0 _,λc=>.ite (j3 hp k f _ _) (j3 hp k f _ _)]
theorem uN:∀f p k,Lo n p->InR n (λ_=>True) (kas_bin f p k)
 |0,p,k,hp=>trivial
 |f+1,p,k,hp=>(j3 h0 hp k _ _ _).bind λl _=>uN f _ _ (hp.of (bubble_perm _ _ _))
theorem zm:InR n (λ_=>True) (kas_sort n):=
 (wI h0 (λx U=>by simpa using U) n).bind λr O=>.ite (uN h0 _ _ _ O) trivial
end
theorem Dd{c:Nat->Nat->Bool}{cmp:Nat->Nat->(Bool->Shared->Prop)->Shared->Prop}{P:α->Prop}{Q:α->Shared->Prop}(h:∀i j C,i<n->j<n->C (c i j) s->cmp i j C s):
  ∀{t:KasT α},InR n P t->Q (ev c t) s->t.kasWp cmp Q s
 |.ret a,_,q=>q
 |.ask i j k,r,q=>h i j _ r.1 r.2.1 (Dd h (r.2.2 (c i j)) q)
def klt(a b:Int×List Int):Bool:=if a.1=b.1 then(if a.2=b.2 then false else HT.lexLt a.2 b.2) else decide (a.1<b.1)
section
def KeyR(K:Frag)(H:Hp)(y:V)(k:Int×List Int):Prop:=∃a t,y=.ref a/\H a=some (.tup [.int k.1,.ref t])/\SqT K H t (k.2.map V.int)
theorem EG{x:V}{v:Value}{j k:Int×List Int}{Q:Bool->Shared->Prop}(hu:A.units+64<cLine)(I:#[7,7])(hx:KeyR X.K H x j)(hy:KeyR X.K H y k)(rx:Gf x u)(ry:Gf y v)(h:Q (klt j k) s):wpAny #[7] A (keyLt' (tuples' true) u v) Q E s:=by
 let#[22,a,ta,1,ha,O]:=hx;let#[22,b,tb,1,hb,U]:=hy;cases rx;cases ry;let#[0111,_,its,r1,p1]:=(show Gg X.prog X.w H s.heap a (.tup _) from I.hok a _ ha)
 let#[0111,_,a6,r2,p2]:=(show Gg X.prog X.w H s.heap b (.tup _) from I.hok b _ hb)
 let#[1210,#[cls,dd,data,sl],ho,hc,n,hd]:=id p1;let#[1210,#[a5,a8,a1,ac],a4,a9,n2,a3]:=id p2;cases r1 with
 |cons q1 r1=>cases r1 with
  |cons q2 r1=>
   cases r1;cases r2 with
   |cons q3 r2=>cases r2 with
    |cons q4 r2=>
     cases r2;let#[t1,1]:=q1;let#[t3,1]:=q3;cases q2;cases q4;erw[kat_lt ho hd a4 a3 (kat_cons (wpAny_eqBool_int (kat_go (λe=>kat_yes ?_) λe=>kat_no ?_)))]
     ·have e1:j.1=k.1:=by simpa using e
      unfold klt at h;rw[C_ e1] at h;let#[as,ra]:=(jf O).reads I rfl;let#[bs,rb]:=(jf U).reads I rfl;let#[12,a',r3,p3,_]:=I.tuple O;let#[12,a7,r4,p4,_]:=I.tuple U;have a2:SeqAt.EqAt A s (.ref ta) (.ref tb) (decide (j.2=k.2)):=by
       by_cases Z:ta=tb
       ·subst Z;rw[q_ (rj (I.tuple_inj O U))];rwa[SeqAt.EqAt.same _]
       ·rwa[SeqAt.EqAt.of_refs Z λprog w E Q' hq=>eq_dataH ra rb (dF _) (dF _) hu (by rw[mK];rwa[hq])]
      erw[kat_cons (a2 _ _ _ _ ?_)];erw[kat_go (λe=>kat_yes (kat_nil ?_)) λe=>kat_no ?_]
      ·rw[C_ (E_ e)] at h;rwa[h]
      ·rw[w_ (of_decide_eq_false e)] at h;rwa[kat_one _ _ (HT.lt_tupInts p3 p4 (iW r3) (iW r4) () h)]
     ·have e1:¬j.1=k.1:=by simpa using e
      unfold klt at h;rw[w_ e1] at h;rwa[oneLt_int h]
end
section
theorem KeyR.but{p:Addr}{xs:List V}{k:Int×List Int}(hp:H p=some (.lst xs))(hk:∀c o,H c=some o->c≠p->H' c=some o)(h:KeyR K H y k):KeyR K H' y k:=by
 let#[22,a,t,1,ha,O]:=h;erw[22,a,t,1,hk _ _ ha (bD ha hp #[3]),?_]
 rcases O with(h|⟨o,h⟩)|h
 ·rwa[.inl (.inl (hk _ _ h (bD h hp #[3])))]
 ·rwa[.inl (.inr #[o,hk _ _ h (bD h hp #[3])])]
 ·rwa[.inr h]
theorem KeyR.same{k:Int×List Int}(e:Ga H H')(h:KeyR K H y k):KeyR K H' y k:=by
 let#[22,a,t,1,ha,O]:=h;rwa[22,a,t,1,e _ _ ha,e.sqT O]
abbrev GG(K:Frag)(H:Hp):List V->List (Int×List Int)->Prop:=Paired (KeyR K H)
theorem GG.imp(hh:∀y k,KeyR K H y k->KeyR K H' y k):∀{ys:List V} {ks:List (Int×List Int)},GG K H ys ks->GG K H' ys ks
 |_,_,.nil=>.nil
 |_,_,.cons q r=>.cons (hh _ _ q) (GG.imp hh r)
theorem GG.snoc{k:Int×List Int}(q:KeyR K H y k):∀{ys:List V} {ks:List (Int×List Int)},GG K H ys ks->GG K H (ys++[y]) (ks++[k])
 |_,_,.nil=>.cons q .nil
 |_,_,.cons p r=>.cons p (GG.snoc q r)
theorem GG.get:∀{ys:List V} {ks:List (Int×List Int)} {i:Nat} {y:V},GG K H ys ks->ys[i]? = some y->∃k,ks[i]? = some k/\KeyR K H y k
 |_,_,0,y,.cons q r,e=>by cases e;rwa[0,q]
 |_::_,_::_,i+1,y,.cons q r,e=>GG.get (i:=i) r e
theorem oK(I:#[7,7]):∀{ys:List V} {ks:List (Int×List Int)} {us:List Value},GG X.K H ys ks->Ge ys us->∃fs:List Value,KatTups s.heap us fs/\fs.length=us.length/\∀v∈fs,∃n t,v=Value.int n t
 |_,_,_,.nil,.nil=>#[[],.nil,1,λ_ h=>nomatch h]
 |_,_,_,.cons q r,.cons p v=>by
  let#[12,fs,h1,h2,Z]:=oK I r v;let#[22,a,t,1,ha,ht]:=q;cases p;let#[0111,_,its,U,p1]:=(show Gg X.prog X.w H s.heap a (.tup _) from I.hok a _ ha)
  let#[1210,#[cls,dd,data,sl],ho,hc,n,hd]:=id p1;cases U with
  |cons q1 U=>
   let#[t1,1]:=q1;erw[.int _ t1::fs,.cons ho hc hd rfl h1,by simp[h2],λv O=>?_]
   rcases HB.mp O with rfl|O
   ·rwa[20,_,0]
   ·rwa[Z v O]
theorem pF{f:Value}{φ:Heap->Prop}{body:Value->PUnit->Sem (ForInStep PUnit)}{R:PUnit->Shared->Prop}{all:List V}(h0:H0 kS=none)(hn:all.length<64)(hf:∀x∈all,∀u H1 s1,Gf x u->Inv X pins σ H1 s1->Ga H0 H1->wpAny #[7] A (call f [u]) (λk s2=>∃y H2,Inv X pins σ H2 s2/\Gf y k/\Ga H1 H2/\KeyR X.K H2 y (key x)) (λ_ _=>False) s1)(hb:∀u (s1:Shared) (C:Shared->Prop),wpAny #[7] A (call f [u]) (λk s2=>∃(ks:List Value) (n:Nat),s2.heap.get? kS=some (seqObj "list" (List.toArray ks) n)/\ks.length<64/\C { s2 with heap:=s2.heap.update kS (Obj.mapSeq (·.push k)) }) (λ_ _=>False) s1->
   wpAny #[7] A (body u ⟨⟩) (λr s2=>r=.yield ⟨⟩/\C s2) E s1)(hR:∀H1 s1 ys ks,Inv X pins σ H1 s1->Ga H0 H1->H1 D=some (.ext φ)->H1 kS=some (.lst ys)->GG X.K H1 ys ks->ks=all.map key->R ⟨⟩ s1):
  ∀(r pre:List V) (us:List Value) (ys:List V) (H1:Hp) (s1:Shared),all=pre++r->Ge r us->Inv X pins σ H1 s1->Ga H0 H1->H1 D=some (.ext φ)->H1 kS=some (.lst ys)->GG X.K H1 ys (pre.map key)->
   wpAny #[7] A (forIn us PUnit.unit body) R E s1
 |[],pre,us,ys,H1,s1,ea,rv,I,sm,hD,hk,kr=>by
  cases rv;rw[forIn_nil];rwa[f_ (hR H1 s1 ys _ I sm hD hk kr (by rw[ea,Pg]))]
 |x::r,pre,us,ys,H1,s1,ea,rv,I,sm,hD,hk,kr=>by
  cases rv with
  |cons q rv=>
   rename_i u us;rw[forIn_cons];have hx:x∈all:=by rw[ea];simp
   have a2:ys.length=pre.length:=by have:=Paired.length kr;rw[z_] at this;rwa[this]
   have a1:all.length=pre.length+(r.length+1):=by rw[ea,x_,Mn]
   erw[c_ (Mf (hb u s1 (λs2=>wpAny #[7] A (forIn us PUnit.unit body) R E s2) (Mf (hf x hx u H1 s1 q I sm) (λk s2 ⟨y,H2,U,ry,O,ky⟩=>?_) λ_ _ z=>z)) (λz s2 ⟨ez,hz⟩=>?_) λ_ _ z=>z)]
   ·let#[0122,_,its,n,rk,lk,ek]:=U.lstM (O _ _ hk);erw[22,its,n,ek,(),?_]
    have Z:=U.lset (t':=s2.toks) (f:=(·.push k)) (its':=its++[k]) (ys:=ys++[y]) (O _ _ hk) ek (by simp) (rk.append (.cons ry .nil)) (by rw[x_,He,Hc];lia)
    have keep:∀c o,H2 c=some o->c≠kS->upd H2 kS (.lst (ys++[y])) c=some o:=λc o e ne=>by rw[ak ne];rwa[e]
    erw[pF h0 hn hf hb hR r (pre++[x]) us (ys++[y]) _ _ (by rw[ea];simp) rv Z (λc o e=>?_) ?_ ae ?_]
    ·rwa[keep c o (O _ _ (sm c o e)) (al e h0)]
    ·rwa[keep D _ (O _ _ hD) (bD hD hk #[3])]
    ·rw[L8];rwa[GG.snoc (ky.but (O _ _ hk) keep) (GG.imp (λ_ _ z=>(z.same O).but (O _ _ hk) keep) kr)]
   ·subst ez;rwa[hz]
end
theorem oA:∀{a b c:List Int},HT.lexLt a b=true->HT.lexLt b c=true->HT.lexLt a c=true
 |[],[],_,h,_=>by simp[HT.lexLt] at h
 |[],_::_,[],_,h=>by simp[HT.lexLt] at h
 |[],_::_,_::_,_,_=>rfl
 |_::_,[],_,h,_=>by simp[HT.lexLt] at h
 |_::_,_::_,[],_,h=>by simp[HT.lexLt] at h
 |x::a,y::b,z::c,h1,h2=>by
  rw[HT.lexLt_cons] at h1 h2 ⊢
  by_cases O:x=y
  ·subst O;rw[C_ rfl] at h1
   by_cases e2:x=z
   ·rw[C_ e2] at h2 ⊢;rwa[oA h1 h2]
   ·rw[w_ e2] at h2 ⊢;rwa[h2]
  ·rw[w_ O] at h1;have l1:=E_ h1
   by_cases e2:y=z
   ·subst e2;rw[w_ O];rwa[h1]
   ·rw[w_ e2] at h2;have l2:=E_ h2;rw[w_ ()]
    rwa[q_ ()]
theorem pi:∀{a b:List Int},a≠b->HT.lexLt a b=false->HT.lexLt b a=true
 |[],[],h,_=>absurd rfl h
 |[],_::_,_,h=>by simp[HT.lexLt] at h
 |_::_,[],_,_=>rfl
 |x::a,y::b,h,h1=>by
  rw[HT.lexLt_cons] at h1 ⊢
  by_cases e:x=y
  ·subst e;rw[C_ rfl] at h1 ⊢;rwa[pi (λz=>h (by rw[z])) h1]
  ·rw[w_ e] at h1;rw[w_ (λz=>e z.symm)]
   have:=of_decide_eq_false h1;rwa[q_ ()]
theorem uH:∀a:List Int,HT.lexLt a a=false
 |[]=>rfl
 |x::a=>by rw[HT.lexLt_cons,C_ rfl];rwa[uH a]
theorem zN(a b:Int×List Int):klt a b=if a.1=b.1 then HT.lexLt a.2 b.2 else decide (a.1<b.1):=by
 unfold klt
 by_cases e:a.2=b.2
 ·rw[C_ e,e,uH]
 ·rw[w_ e]
theorem wF{a b c:Int×List Int}(h1:klt a b=true)(h2:klt b c=true):klt a c=true:=by
 rw[zN] at *
 by_cases O:a.1=b.1
 ·rw[C_ O] at h1
  by_cases e2:b.1=c.1
  ·rw[C_ e2] at h2;rw[C_ (O.trans e2)];rwa[oA h1 h2]
  ·rw[w_ e2] at h2;rw[w_ (by rw[O];rwa[e2]),O]
   rwa[h2]
 ·rw[w_ O] at h1;have l1:=E_ h1
  by_cases e2:b.1=c.1
  ·rw[w_ (by rw[<- e2];rwa[O]),<- e2]
   rwa[h1]
  ·rw[w_ e2] at h2;have l2:=E_ h2;rw[w_ ()]
   rwa[q_ ()]
theorem wr{a b:Int×List Int}(h:a≠b)(h1:klt a b=false):klt b a=true:=by
 rw[zN] at *
 by_cases e:a.1=b.1
 ·rw[C_ e] at h1;rw[C_ e.symm];rwa[pi (λz=>h (N2 e z)) h1]
 ·rw[w_ e] at h1;have:=of_decide_eq_false h1;rw[w_ (λz=>e z.symm)]
  rwa[q_ ()]
def kAt(ks:List (Int×List Int))(i j:Nat):Bool:=klt (ks.getD i (0,[])) (ks.getD j (0,[]))
theorem Ck{ks:List (Int×List Int)}(hn:ks.Nodup):Tot ks.length (kAt ks):=by
 erw[λi j k _ _ _=>wF,λi j hi U O h=>wr (λz=>O ?_) h]
 have g:∀{i:Nat} (hi:i<ks.length),ks.getD i (0,[])=ks[i]:=λhi=>by simp[List.getD,hi]
 rw[g hi,g U] at z;exact(getElem_inj hn).mp z
section
theorem oU{P:PySem.Fin->Shared->Prop}{st:SortSt}{out:List Value}{ys zs:List V}(hout:(arrOf st).map (·.2)=List.toArray out)(hz:out.length<64)(hf:failedOf st=none)(I:#[7,7])(h0:H0 kS=none)(h1:H0 D=none)(sm:Ga H0 H)(hD:H D=some (.ext λh=>h.get? D=some (seqObj "list" #[8] e1)))(hk:H kS=some (.lst ys))(rv:Ge zs out.reverse)(h:∀H2 s2,Inv X pins σ H2 s2->Ga H0 H2->H2 D=some (.lst zs)->P (.done (.ret .none)) s2):wpAny #[7] A (ksk_tail D true e1 (.ref kS) st) P E s:=by
 have ne:D≠kS:=bD hD hk #[3]
 have Z:zs.length=out.length:=by rw[rv.length,LO]
 let#[0122,lz,its,n,rk,lk,ek]:=I.lstM hk;have I1:=I.lset (t':=s.toks) (f:=λ_=>#[8]) (its':=[]) (ys:=[]) hk ek rfl .nil (Hj _)
 have O:upd H kS (.lst []) D=some (.ext λh=>h.get? D=some (seqObj "list" #[8] e1)):=by rw[ak ne];rwa[hD]
 have U:(s.heap.update kS (Obj.mapSeq λ_=>#[8])).get? D=some (seqObj "list" #[8] e1):=(show Gg X.prog X.w _ _ D (.ext _) from I1.hok D _ O).1
 have q:=get?_update_seq U (λ_=>List.toArray out.reverse)
 have I2:Inv X pins σ (upd (upd H kS (.lst [])) D (.lst zs)) { s with heap:=(s.heap.update kS (Obj.mapSeq λ_=>#[8])).update D (Obj.mapSeq λ_=>List.toArray out.reverse),toks:=s.toks }:=
  I1.write (x:=D) (e:=D) (by rw[O];rwa[trivial]) (.inl rfl) (λb' u hb hu=>(NJ _ _ (Ne.symm hb)).trans hu) #[_,q] #[0121,by rw[Z,Hc];lia,out.reverse,_,rv,q]
 unfold ksk_tail;dsimp only;rw[hout,kat_outs,show katRev true out=out.reverse from C_ rfl]
 erw[c_ (listUpdate_at ek rfl ?_ (by rw[HC,<- lk];rwa[lz]) (Hj _))]
 erw[c_ (wpAny_letGo ?_)];erw[c_ (seqEpoch_at U rfl ?_)];erw[c_ (listUpdate_at U rfl ?_ (Hj _) (by rw[HC,LO,Hc];lia))]
 rw[hf];simp only[bne_self_eq_false,M8,OP];erw[f_ (h _ _ I2 (λc o e=>?_) ae)]
 rw[ak (al e h1),ak (al e h0)];rwa[sm c o e]
end
theorem lA{l:List α}{d:α}{i:Nat}(h:i<l.length):l.getD i d=l[i]:=by simp[List.getD,h]
theorem wL(l:List α)(d:α):(List.range l.length).map (λi=>l.getD i d)=l:=by
 apply List.ext_getElem
 ·simp
 ·intro i h1 h2;rw[getElem_map,getElem_range,lA h2]
def oh(p:Array Nat)(xs:List α)(d:α):List α:=p.toList.map λi=>xs.reverse.getD i d
theorem wv{xs:List α}{d:α}(hp:Pm xs.length p):((oh p xs d).reverse).Perm xs:=by
 refine(reverse_perm _).trans (((hp.map _).trans ?_).trans (reverse_perm xs));rw[show List.map (λi=>xs.reverse.getD i d) (List.range xs.length)=xs.reverse by rw[<- LO (as:=xs)];rwa[wL _ _]]
theorem Pm.mem(hp:Pm n p){i:Nat}(h:i∈p.toList):i<n:=M_.mp (hp.mem_iff.mp h)
theorem xO{xs:List V}(hp:Pm xs.length p)(rv:Ge xs us):Ge (oh p xs .non) (oh p us Value.none):=by
 have r:=rv.reverse;have go:∀l:List Nat,(∀i∈l,i<xs.length)->Ge (l.map λi=>xs.reverse.getD i .non) (l.map λi=>us.reverse.getD i Value.none):=by
  intro l
  induction l with
  |nil=>intro _;rwa[.nil]
  |cons i l ih=>
   intro h;have hi:i<xs.reverse.length:=by rw[LO];rwa[h i (by simp)]
   erw[.cons ?_ (ih λj O=>h j (by simp[O]))]
   let#[u,e,q]:=r.get (ge hi);show Gf (xs.reverse.getD i .non) (us.reverse.getD i Value.none);rw[lA hi,LR,e];rwa[q]
 rwa[go _ λi hi=>hp.mem hi]
theorem xG{xs:List V}(hp:Pm xs.length p)(hs:So (kAt (xs.map key).reverse) p xs.length):((oh p xs .non).reverse).Pairwise λx y=>klt (key y) (key x)=true:=by
 rw[List.pairwise_reverse];unfold oh;rw[List.pairwise_map,List.pairwise_iff_getElem];intro i j hi O U;rw[Md,hp.sz] at hi O;have z:=hs i j U O;unfold kAt at z;have g:∀k (hk:k<xs.length),key (xs.reverse.getD (p.getD k 0) .non)=(xs.map key).reverse.getD (p.getD k 0) (0,[]):=λk hk=>by
  have h1:p.getD k 0<xs.length:=hp.lt hk;rw[lA (by rw[LO];rwa[h1]),lA (by rw[LO,z_];rwa[h1])]
  simp
 rw[<- g i hi,<- g j O,q5 (by rw[hp.sz];rwa[hi]),q5 (by rw[hp.sz];rwa[O])] at z
 rwa[z]
section
theorem AD{P:PySem.Fin->Shared->Prop}{xs ys:List V}{its:List Value}(hu:A.units+64<cLine)(I:#[7,7])(h0:H0 kS=none)(h1:H0 D=none)(sm:Ga H0 H)(hD:H D=some (.ext λh=>h.get? D=some (seqObj "list" #[8] e1)))(hk:H kS=some (.lst ys))(kr:GG X.K H ys (xs.map key))(ru:Ge ys us)(rv:Ge xs its)(h64:xs.length<64)(nd:(xs.map key).Nodup)(h:∀H2 s2 zs,Inv X pins σ H2 s2->Ga H0 H2->H2 D=some (.lst zs)->zs.Perm xs->zs.Pairwise (λx y=>klt (key y) (key x)=true)->P (.done (.ret .none)) s2):wpAny #[7] A (ksk_end D true its.toArray e1 (.ref kS) us.toArray) P E s:=by
 have lx:=rv.length;have lu:=ru.length;have ly:ys.length=xs.length:=by have:=Paired.length kr;rw[z_] at this;rwa[this]
 have hl:us.length=its.length:=()
 unfold ksk_end;dsimp only;rw[C_ rfl];erw[c_ (N8 ?_)]
 by_cases h2:its.toArray.size<2
 ·rw[C_ h2,C_ h2];erw[c_ (f_ ?_)];rw[StateT.run_pure];erw[c_ (f_ ?_)];dsimp only;rw[kat_pairs true hl,show katRev true us=us.reverse from C_ rfl,show katRev true its=its.reverse from C_ rfl]
  erw[oU (st:=SortSt.mk' general' _ #[8] 7 none) (out:=its.reverse) (zs:=xs) ?_ (by rw[LO];lia) rfl I h0 h1 sm hD hk (by rw[List.reverse_reverse];rwa[rv]) λH2 s2 I2 U q=>h H2 s2 xs I2 U q (.refl _) ?_]
  ·show Array.map (·.2) ((us.reverse.toArray).zip (its.reverse.toArray))=_;apply Array.toList_inj.mp;rw[Array.toList_map,ksk_zip];rwa[List.map_snd_zip (by simp[hl])]
  ·rw[HC] at h2
   match xs,(():xs.length<2) with
   |[],_=>rwa[.nil]
   |[x],_=>rwa[List.pairwise_singleton _ _]
 ·rw[w_ h2,w_ h2];rw[HC] at h2;let#[12,fs,t1,t2,t3]:=oK I kr ru;erw[c_ (kat_kind (T:=.type "int") t1 () (λv hv=>?_) #[] ?_)]
  ·let#[n,t,1]:=t3 v hv;rwa[Looks.of_pure rfl]
  rw[show(Value.type "int" != Value.type "tuple")=true by decide,kat_pairs true hl,show katRev true us=us.reverse from C_ rfl,show katRev true its=its.reverse from C_ rfl]
  have tot:=Ck (ks:=(xs.map key).reverse) ((reverse_perm _).nodup_iff.mpr nd);rw[LO,z_] at tot;let#[hp,hs]:=Cv tot ()
  erw[c_ (Mf (kat_run (vs:=its.reverse) (ks:=us.reverse) (G:=λp s'=>p=ev (kAt (xs.map key).reverse) (kas_sort xs.length)/\s'=s)
   (Q:=λO s'=>s'=s/\failedOf O=none/\arrOf O=(ev (kAt (xs.map key).reverse) (kas_sort xs.length)).map (kas_item ((List.toArray us.reverse).zip (List.toArray its.reverse))))
   (by rw[LO,LO];rwa[hl]) (by rw[LO];lia) (by rw[LO];lia) (λp O s' a1 a2 a3 a4=>#[a4.2,a3,by rw[<- a4.1];rwa[a2]]) ?_) ?_ λ_ _ x=>x)]
  ·rw[LO,<- lx];erw[Dd (c:=kAt (xs.map key).reverse) (λi j C hi hj hC=>?_) (zm ()) #[1,1]]
   show wpAny _ _ (keyLt' _ (us.reverse.getD i Value.none) (us.reverse.getD j Value.none)) C _ s;have at_:∀i,i<xs.length->∃y u,us.reverse.getD i Value.none=u/\Gf y u/\KeyR X.K H y ((xs.map key).reverse.getD i (0,[])):=λi hi=>by
    have Z:xs.length-1-i<ys.length:=()
    let#[k,ek,kk]:=GG.get kr (ge Z);let#[u,eu,a5]:=ru.get (ge Z);erw[22,ys[xs.length-1-i],u,?_,a5,?_]
    ·rw[LR,getElem?_reverse (),show us.length-1-i=xs.length-1-i by lia,eu]
     rfl
    ·rw[LR,getElem?_reverse (by rw[z_];rwa[hi]),z_,ek]
     rwa[kk]
   let#[22,y1,u1,e1,r1,k1]:=at_ i hi;let#[22,y2,u2,e2,r2,k2]:=at_ j hj;rw[e1,e2];rwa[EG hu I k1 k2 r1 r2 hC]
  ·rintro⟨⟨⟩,O⟩ s' ⟨es,hf,har⟩;dsimp only at es hf har ⊢;subst es;erw[oU (out:=oh (ev (kAt (xs.map key).reverse) (kas_sort xs.length)) its Value.none) (zs:=(oh (ev (kAt (xs.map key).reverse) (kas_sort xs.length)) xs .non).reverse) (kat_snds (by rw[LO,LO];rwa[hl]) har) ?_ hf I h0 h1 sm hD hk (xO hp rv).reverse
    λH2 s2 I2 U q=>h H2 s2 _ I2 U q (wv hp) (xG hp hs)]
   unfold oh;rw[z_,Md,hp.sz];rwa[h64]
end
section
def DY(X:Cx)(pins:List (Addr×Obj))(σ:St)(A:Around)(f:Value)(H0:Hp)(xs:List V)(key:V->Int×List Int):Prop:=
 ∀x∈xs,∀u H1 s1,Gf x u->Inv X pins σ H1 s1->Ga H0 H1->wpAny #[7] A (call f [u]) (λk s2=>∃y H2,Inv X pins σ H2 s2/\Gf y k/\Ga H1 H2/\KeyR X.K H2 y (key x)) (λ_ _=>False) s1
theorem xz{P:PySem.Fin->Shared->Prop}{f:Value}{xs:List V}(hu:A.units+64<cLine)(I:#[7,7])(h1:H0 D=none)(sm:Ga H0 H)(hD:H D=some (.lst xs))(h64:xs.length<64)(nd:(xs.map key).Nodup)(hf:DY X pins σ A f H0 xs key)(h:∀H2 s2 zs,Inv X pins σ H2 s2->Ga H0 H2->H2 D=some (.lst zs)->zs.Perm xs->zs.Pairwise (λx y=>klt (key y) (key x)=true)->P (.done (.ret .none)) s2):wpAny #[7] A (ksk_tree D f true) P E s:=by
 let#[0122,lz,its,n,rv,lk,e]:=I.lstM hD;have q:=get?_update_seq e (λ_=>#[8])
 have I1:Inv X pins σ (upd H D (.ext λh=>h.get? D=some (seqObj "list" #[8] (if ((#[8]:Array Value).size==its.toArray.size)=true then n else n+1)))) { s with heap:=s.heap.update D (Obj.mapSeq λ_=>#[8]),toks:=s.toks }:=
  I.write (x:=D) (e:=D) (by rw[hD];rwa[trivial]) (.inl rfl) (λb' u hb hu=>(NJ _ _ (Ne.symm hb)).trans hu) #[_,q] #[q,#[_,q],λ_ _ p k=>k _ p]
 have I2:=I1.laid (t':=s.toks) (o:=.tup xs) (λb ob z=>g_ { cls:=.type "tuple",data:=.seq its.toArray } z) (e_ _) #[by rw[Hc];lia,its,rv,IsTup.new _ _]
 have I3:=I2.lnew (t':=s.toks) (ys:=[]) (its:=[]) .nil (Hj _);have nT:=I1.fresh;have nK:=I2.fresh;have a1:upd H D (.ext λh=>h.get? D=some (seqObj "list" #[8] (if ((#[8]:Array Value).size==its.toArray.size)=true then n else n+1))) D=some (.ext λh=>h.get? D=some (seqObj "list" #[8] (if ((#[8]:Array Value).size==its.toArray.size)=true then n else n+1))):=ae
 have s1:Ga H0 (upd H D (.ext λh=>h.get? D=some (seqObj "list" #[8] (if ((#[8]:Array Value).size==its.toArray.size)=true then n else n+1)))):=sm.put h1
 have a2:=Ga.new (o:=.tup xs) nT _ _ a1;have s2:=s1.trans (Ga.new (o:=.tup xs) nT);have a3:=Ga.new (o:=.lst []) nK _ _ a2;have s3:=s2.trans (Ga.new (o:=.lst []) nK);have O:=s2.free nK;unfold ksk_tree;erw[c_ (listItems_at e rfl ?_)];erw[c_ (listUpdate_at e rfl ?_ (by rw[HC,Hc];lia) (Hj _))]
 erw[c_ (seqEpoch_at q rfl ?_)];erw[c_ (wpAny_newTuple ?_ (by show its.length<=_;rw[Hc];lia))]
 erw[c_ (wpAny_newList ?_ (Hj _))];erw[Ls ?_];unfold ksk_rest;erw[c_ (N8 ?_)]
 first
  |rw[List.forIn_toArray]
  |(rw[<- Array.forIn_toList];simp only[List.toList_toArray])
  |rw[<- Array.forIn_toList]
 erw[c_ (pF (all:=xs) O h64 hf (λu s1 C hc=>?_) (λH4 s4 ys ks I4 a5 a4 U kr ek=>?_) xs [] its [] _ _ rfl rv I3 s3 a3 ae .nil)]
 ·erw[c_ (Nr (Mf hc (λk s5 ⟨ks,m,Z,hz,hC⟩=>?_) λ_ _ z=>z.elim))]
  dsimp only;erw[c_ (listUpdate_at Z rfl ?_ (by rw[HC,Hc];lia) (Hb (PU (Array.size_push ..)) (by rw[HC,Hc];lia)))]
  rwa[f_ #[1,hC]]
 ·dsimp only;let#[0122,_,us,m,ru,_,Z]:=I4.lstM U;erw[c_ (listItems_at Z rfl ?_)];subst ek;rwa[AD hu I4 O h1 a5 a4 U kr ru rv h64 nd h]
end
def DRaw(d:Addr)(es:Array DictEntry)(ep:Nat)(h:Heap):Prop:=∃o,h.get? d=some o/\o.ExactDict/\o.data=.dict es ep
section
variable {es:Array DictEntry}{i:Nat}
theorem DRaw.typeIs(h:DRaw d es ep s.heap):s.TypeIs (.ref d) "dict":=let ⟨o,ho,hc,_⟩:=h;#[o,ho,hc.1]
theorem DRaw.at(x:DRaw d es ep h)(e:∀o,h.get? d=some o->h'.get? d=some o):DRaw d es ep h':=let ⟨o,ho,r⟩:=x;#[o,e _ ho,r]
theorem qL(hd:(d==sysModules)=false)(hm:DRaw d es ep s.heap)(hQ:Q (.ref s.heap.objs.size) { s with heap:=s.heap.push { cls:=.type "dict_keyiterator",data:=.fields #[8,.ref d,.int 0 0,.int es.size 0,.int ep 0] } }):wpAny (model prog w) A (pyIter (.ref d)) Q E s:=by
 have U:=hm.typeIs;let#[12,o,Z,_,O]:=id hm;erw[wpAny_pyIter_slot U F.slot_dict_iter (Lv F.slot_dict_iter U F.entry_dict_iter ?_ (F.args_dict_iter_1 _))];unfold Builtin.«dict.__iter__» Builtin.Dict.dictSlotNone;erw[c_ (c_ (N4 U (f_ ?_)))];show wpAny _ _ (Builtin.Dict.showsAll d >>= _) _ _ s;unfold Builtin.Dict.showsAll;rw[w_ (by rw[hd];rwa[G_])]
 erw[c_ (f_ (c_ (Pc Z O (c_ (wpAny_dictEpoch Z O ?_)))))];erw[c_ (HI (f_ #[62,0, "dict_keyiterator",_,#[_,A_ _ rfl,1],F.slot_dict_keyiterator_next.lookup,?_]))];simpa[rawInt] using hQ
theorem i5{Q:Option Value->Shared->Prop}(hh:A.handled=none)(hit:s.heap.IsKeyIter it d i es.size ep)(hm:DRaw d es ep s.heap)(h1:∀(hi:i<es.size) h',h'.IsKeyIter it d (i+1) es.size ep->Heap.SameBut it s.heap h'->Q (some es[i].key) { s with heap:=h' })(h2:es.size<=i->∀h',Heap.ExtBut it s.heap h'->Q none { s with heap:=h' }):wpAny (model prog w) A (pyNext (.ref it)) Q E s:=by
 let#[12,o,ho,hc,hd]:=id hit;let#[12,od,a2,_,a1]:=id hm;have O:=hit.typeIs;unfold pyNext;erw[c_ (Nr (Lz (name:=Str.ofString "__next__") O F.slot_dict_keyiterator_next (Lv F.slot_dict_keyiterator_next O F.entry_dict_keyiterator_next ?_ (F.args_dict_keyiterator_next_1 _))))];erw[c_ (f_ (c_ (c_ ?_)))]
 first|erw[c_ (wpAny_typeNameOfWhole_keyiter O (f_ ?_))]|erw[c_ (wpAny_typeNameOf_keyiter O (f_ ?_))]
 erw[c_ (wpAny_fieldsOf ho hd ?_)];simp only[show Builtin.Dict_items.ownsTuple "dict_keyiterator" = false by decide,M8,OP]
 show wpAny _ _ (if (Value.ref d==Value.none)=true then _ else _) _ _ s
 rw[w_ (show ¬((Value.ref d==Value.none)=true) from G_)]
 erw[c_ (f_ (c_ (Pc a2 a1 ?_)))];rw[w_ (by simp)]
 erw[c_ (f_ (c_ (wpAny_dictEpoch a2 a1 ?_)))];rw[w_ (by simp)]
 erw[f_ ?_]
 by_cases U:i<es.size
 ·simp only[show ¬((i:Int)<0) from (),OP,Mz,Hz U]
  erw[c_ ?_]
  first|erw[c_ (wpAny_typeNameOfWhole_keyiter O (f_ ?_))]|erw[c_ (wpAny_typeNameOf_keyiter O (f_ ?_))]
  erw[c_ (wpAny_isOneOf_keyiter O ?_)];show wpAny _ _ (setField (.ref it) 1 (rawInt ((i:Int)+1)) >>= _) _ _ s;erw[c_ (MC ho hd (by simp) ?_)]
  have Z:(s.heap.update it (Obj.mapFields (·.setIfInBounds 1 (rawInt ((i:Int)+1))))).IsKeyIter it d (i+1) es.size ep:=
   #[_,NC _ ho (NZ (MD hd _)),(Obj.cls_mapFields ..).trans hc,by rw[MD hd];simp[rawInt]]
  erw[c_ (Ls (c_ (wpAny_isOneOf_keyiter (s:={ s with heap:=s.heap.update it (Obj.mapFields (·.setIfInBounds 1 (rawInt ((i:Int)+1)))) }) Z.typeIs ?_)))]
  show wpAny _ _ (pure es[i].key) _ _ _;rwa[f_ (f_ #[0,f_ (h1 U _ Z (LY ..))])]
 ·simp only[show ¬((i:Int)<0) from (),OP,Mz,NR (Nat.le_of_not_lt U)]
  erw[c_ ?_]
  first|erw[c_ (wpAny_typeNameOfWhole_keyiter O (f_ ?_))]|erw[c_ (wpAny_typeNameOf_keyiter O (f_ ?_))]
  show wpAny _ _ (setField (.ref it) 0 .none >>= _) _ _ s;erw[c_ (MC ho hd (by simp) ?_)]
  show wpAny _ _ (newExc (.type "StopIteration") [] >>= _) _ _ _;erw[c_ ?_];simp only[newExc,newTuple];erw[c_ (HI ?_ (by size_fits))]
  erw[c_ (m:=firstArgMember _ _) (M7 (a:=Value.none) (by first|rfl|(simp only[firstArgMember];rfl)) ?_)]
  erw[HI ?_ (by size_fits)]
  simp only[raiseNew];erw[c_ (wpAny_handled ?_)];rw[show A.in1.handled=none from hh]
  erw[c_ (f_ (wpAny_throw ?_))];erw[c_ (N6 (T := "StopIteration") (b:=true) #[_,A_ _ rfl,1] isSubtype_stop ?_)];rwa[f_ (h2 (Nat.le_of_not_lt U) _ (((LY ..).extBut.push _).push _))]
theorem xR(hh:A.handled=none)(it d:Addr)(hne:d≠it)(es:Array DictEntry)(ep:Nat):
  Walks prog w A it [it,d] [it] es.size (λi v=>∃hi:i<es.size,v=es[i].key) (λi h=>h.IsKeyIter it d i es.size ep/\DRaw d es ep h) where
 sub:=λb O=>by simp at O;simp[O]
 frame:=λ_ _ _ st hk=>#[st.1.at λo e=>hk it (by simp) o e,st.2.at λo e=>hk d (by simp) o e]
 item:=λi s Q E hi st U=>i5 hh st.1 st.2 (λhi h' Z a1=>U _ h' s.toks #[hi,1] #[Z,st.2.at λo e=>a1.extBut d o hne e] λb o O e=>a1.extBut b o (λh=>O (by simp[h])) e) λa3=>absurd hi (Nat.not_lt.mpr a3)
 done:=λs Q E st U=>i5 hh st.1 st.2 (λhi=>absurd hi (ME _)) λ_ h' a2=>U h' s.toks λb o O e=>a2 b o (λh=>O (by simp[h])) e
 self:=λ_ _ _ _ st U=>wpAny_pyIter_keyiter st.1 U
theorem Co(lo:(d==sysModules)=false):KdlSrc prog w "dict" d d es.size (λi v=>∃hi:i<es.size,v=es[i].key) (DRaw d es ep) where
 type:=λ_ hm=>hm.typeIs
 there:=λ_ ⟨_,O,_⟩=>#[Hl O,Hl O]
 keep:=λ_ _ hm hk=>hm.at λo e=>hk d (.inl rfl) o e
 notList:=#[]
 notTuple:=#[]
 hint:=λ_ _ _ _ hm U=>kdl_hint_dict hm.typeIs U
 iter:=λ_ s Z hm=>#[22,_,_,(λ_ _ U=>qL lo hm U),xR Z _ d (F9 (let ⟨_,O,_⟩:=hm;Hl O)) es ep,#[#[_,A_ _ rfl,1,1],hm.at λo e=>g_ _ e]]
end
section
def Src(K:Frag)(H:Hp)(x:V)(B:List V->Prop):Prop:=
 (∃l xs,x=.ref l/\SqL K H l xs/\B xs)\/∃d kvs,x=.ref d/\H d=some (.dT kvs)/\∀as,Paired (λ(p:List Key×V) (a:Addr)=>H a=some (.tup (p.1.map kV))) kvs as->B (as.map V.ref)
theorem qO{x:V}{R:List Value->Shared->Prop}(hh:A.handled=none)(I:#[7,7])(rx:Gf x u)(hs:Src X.K H x B)(h:∀h' tk its xs,B xs->Ge xs its->(∀b o,s.heap.get? b=some o->h'.get? b=some o)->xs.length<=sizeLine->R its { s with heap:=h',toks:=tk }):wpAny #[7] A (collect u) R E s:=by
 rcases hs with⟨l,xs,rfl,hl,hB⟩|⟨d,kvs,rfl,hd,hB⟩
 ·cases rx;let#[12,its,rv,p,hz]:=I.list hl;erw[collect_list (vs:=its) p.isList (h _ s.toks its xs hB rv (λb o q=>?_) hz) (by rw[<- rv.length];rwa[hz])]
  have Z:b<s.heap.objs.size:=Hl q;rw[Heap.get?_update_ne _ _ _ _ (F9 Z),Heap.get?_push_ne _ _ _ (F9 Z)];rwa[q]
 ·cases rx;let#[0274,hz,hm,O,kt,o,es,ep,h1,h2,h3,h4,h5]:=(show Gg X.prog X.w H s.heap d (.dT kvs) from I.hok d _ hd)
  have hsz:es.size=kvs.length:=by rw[<- Md,h4,z_,<- Paired.length kt]
  erw[kdu_collect (Co (es:=es) (ep:=ep) hm) hh #[o,h1,h2,h3] (by rw[hsz];rwa[hz]) λh' tk acc hk ha=>?_]
  have go:∀{l:List (List Key×V)} {m:List (List Key×Addr×Value)},Paired (λ(p:List Key×V) (q:List Key×Addr×Value)=>p.1=q.1/\H q.2.1=some (.tup (p.1.map kV))/\Gf p.2 q.2.2) l m->
    Paired (λ(p:List Key×V) (a:Addr)=>H a=some (.tup (p.1.map kV))) l (m.map (·.2.1)):=by
   intro l m q
   induction q with
   |nil=>rwa[.nil]
   |cons hq t ih=>rwa[.cons hq.2.1 ih]
  have ke:acc.toList=(O.map (·.2.1)).map Value.ref:=by
   apply List.ext_getElem?;intro j;rw[M3]
   by_cases hj:j<es.size
   ·have U:j<acc.size:=by rw[ha.1];rwa[hj]
    let#[_,e]:=ha.2 j acc[j] (Hz U);rw[Hz U,e];have e2:es.toList[j]? = (O.map (entryOfKey (tupleKind (aI X.prog X.w))))[j]?:=by rw[h4]
    rw[M3,Hz hj,Hx] at e2;rw[Hx,Hx];cases e3:O[j]? with
    |none=>rw[e3] at e2;cases e2
    |some q=>
     rw[e3] at e2;show some es[j].key=some (Value.ref q.2.1);have e4:es[j]=entryOfKey (tupleKind (aI X.prog X.w)) q:=Mc e2;rw[e4]
     rfl
   ·rw[NR (by rw[ha.1];lia)]
    symm;apply getElem?_eq_none;rw[z_,z_,<- Paired.length kt];lia
  have a1:∀l:List Addr,Ge (l.map V.ref) (l.map Value.ref):=by
   intro l
   induction l with
   |nil=>rwa[.nil]
   |cons a l ih=>rwa[.cons rfl ih]
  rw[ke];rwa[h h' tk _ _ (hB _ (go kt)) (a1 _) hk (by rw[z_,z_,<- Paired.length kt];rwa[hz])]
theorem sM{x:V}(hh:X.A.handled=none)(hu:X.A.in1.in1.units+64<cLine)(I:#[7,7])(rx:Gf x u)(hs:Src X.K H x B)(hB:∀xs,B xs->xs.length<64/\∃key:V->Int×List Int,(xs.map key).Nodup/\DY X pins σ X.A.in1.in1 (.ref f) H xs key/\
   ∀D H2 s2 zs,H D=none->Inv X pins σ H2 s2->Ga H H2->H2 D=some (.lst zs)->zs.Perm xs->zs.Pairwise (λx y=>klt (key y) (key x)=true)->Q (.ref D) s2):
  wpAny #[7] X.A (call (.builtin "sorted") [u] [(Str.ofString "key",.ref f),(Str.ofString "reverse",.bool true)]) Q E s:=by
 erw[call_function_entry_kw kind_sorted plain_sorted entry_sorted (ksk_s2 _ _ _) ?_];unfold Builtin.«sorted»;erw[c_ (m:=checkCount "sorted" 1 1 _) (f_ ?_)];erw[c_ (qO (A:=X.A.in1) hh I rx hs λh' tk its xs src rv Z hz=>?_)]
 let#[0112,U,key,nd,kf,h]:=hB xs src;have O:Inv X pins σ H { s with heap:=h',toks:=tk }:=I.kept Z
 have I2:=O.lnew (t':=tk) rv hz;erw[c_ (wpAny_newList ?_ (by rw[<- rv.length];rwa[hz]))]
 erw[c_ (Ls (wpAny_call_entry_kw slot_list_sort #[_,A_ _ rfl,1] entry_list_sort ?_ (ksk_l2 _ _ _)))];rw[ksk_t2];erw[xz (key:=key) hu I2 O.fresh (Ga.new O.fresh) ae U nd kf λH2 s2 zs I3 sm q pm pw=>#[0,f_ #[0,h _ H2 s2 zs O.fresh I3 sm q pm pw]]]
end
def CV(K:Frag)(sp:Sp)(H1:Hp)(Q:VK)(xs:List V):Prop:=xs.length<64/\∃key:V->Int×List Int,(xs.map key).Nodup/\(∀y∈xs,∀H2,Ga H1 H2->sp [y] H2 (λz H3=>Ga H2 H3/\KeyR K H3 z (key y)) E0)/\
 ∀D H2 zs,H1 D=none->Ga H1 H2->H2 D=some (.lst zs)->zs.Perm xs->zs.Pairwise (λx y=>klt (key y) (key x)=true)->Q (.ref D) H2
def FB(K:Frag)(sp:Sp)(te:TE):TE:=λσ H Q=>te σ H λx H1=>Src K H1 x (CV K sp H1 Q)
section
variable {p kp k1 k2 kp2:Pos}
theorem ED{A:Around}{k:Nat}{fd:FuncData}{xs:List V}(F:Gd X.prog X.w X.K X.mg X.base CX0 k f fd ps sp)(hb:Gq X.K fd ps [])(hr:Gi X.base k X.A.in1.in1)(h:∀y∈xs,∀H2,Ga H0 H2->sp [y] H2 (λz U=>Ga H2 U/\KeyR X.K U z (key y)) E0):DY X pins σ X.A.in1.in1 (.ref f) H0 xs key:=by
 intro x hx u H1 s1 rx I sm;have h':=h x hx H1 sm;have r2:Ge [x] [u]:=.cons rx .nil;have hl:([u]++[]).length=ps.length:=F.len _ _ _ _ h';erw[PV (Ox (F.run X.A.in1.in1 X.stack s1 H1 #[[u],[]] [u] [x] _ E0 hr I.env0.in1.in1 (hb s1 [u] I.kIn hl) r2 h') λr s' O=>?_)]
 cases r with
 |error e=>rwa[O]
 |ok fl=>
  cases fl with
  |ret v=>
   let#[23,y,H2,Z,ry,q1,q2]:=I.after O;rwa[23,y,H2,Z,ry,q1,q2]
  |next=>rwa[False.elim O]
  |brk=>rwa[False.elim O]
  |cont=>rwa[False.elim O]
theorem yQ(T:Blt X.mg){k:Nat}(F:FnB X.prog X.w X.K X.mg X.base k x sp)(hr:Gi X.base (k+2) X.A)(he:PE X e te)(hg:Gl X "sorted":=by rfl)(hgx:Gl X x:=by rfl)(hdb:(x==("__debug__" : Str))=false:=by decide)(hs:starEach [e] X.env=[(false,eval e X.env)]:=by rfl)(hq:X.base.life={}:=by first|assumption|exact(‹Quiet _›).q):
  PE X (.Call (.Name "sorted" p) [e] [#[some "key",.Name x kp,k1],#[some "reverse",.Constant (.bool true) j kp2,k2]] pos) (FB X.K sp te):=by
 let#[33,f,fd,ps,F',hm,hk,hb]:=F.ex;intros Q I h;erw[MG (eB I hg T.sorted boot_sorted ?_)];erw[callWith_kw ?_ (by rw[hs];rfl) (by rw[hs];rfl)]
 erw[thn ((aa he ag hs) pos pins s σ H (λvs H1=>match vs with|[v]=>Src X.K H1 v (CV X.K sp H1 Q)|_=>False) I h) λus s1 ⟨vs,H1,I1,r1,q1⟩=>?_]
 match vs,r1,q1 with
 |[v],r1,q1=>
  let#[u,1,ru]:=r1.one;erw[thn ((vn (bu (v:=.ref f) hgx hm rfl hdb) (vn dU Du)) pos pins s1 σ H1 (λzs H2=>zs=[V.ref f,.bl true]/\H2=H1) I1 #[1,1]) λws s2 ⟨zs,H2,I2,r2,e1,e2⟩=>?_]
  subst e1 e2;let#[22,w1,w2,1,a1,a2]:=r2.two;cases a1;cases a2;erw[sM (f:=f) (hr.hd.1 hq) hr.in1.in1.units I2 ru q1 λxs ⟨O,key,nd,U,Z⟩=>#[O,key,nd,ED (A:=X.A) F' hb hr.in1.in1 U,λD H3 s3 zs nD I3 sm q pm pw=>#[22,.ref D,H3,I3,1,Z D H3 zs nD sm q pm pw]]]
end
def Itd(d:Addr)(o:Obj)(u:HO)(vs:List V):It:=#[λi H=>H d=some (.frz o u)/\i<vs.length,λi H x H'=>H'=H/\vs[i]? = some x,λi H=>H d=some (.frz o u)/\vs.length<=i]
theorem xh{o:Obj}{u:HO}{es:Array DictEntry}{vs:List V}(hx:o.ExactDict)(hd:o.data=.dict es ep)(rv:Ge vs (es.toList.map (·.key)))(hL0:L={}):
  my P w K L tg (Itd d o u vs) [it] it (λi h=>h.IsKeyIter it d i es.size ep) where
 mem:=by simp
 obj:=λi h st b O=>by
  have e:b=it:=by simpa using O
  subst e;let#[12,o,e,c,d]:=st;rwa[o,e,λv z=>by rw[d] at z;cases z]
 keep:=λi h h' st k=>st.at λo e=>k it (by simp) o e
 item:=by
  intro X hP hw hK hL hc i pins s σ H E I hf st hg;subst hP hw hK;let#[hD,hi]:=(show H d=some (.frz o u)/\i<vs.length from hg)
  have hl:vs.length=es.size:=by rw[rv.length];simp
  have ho:s.heap.get? d=some o:=(show Gg X.prog X.w H s.heap d (.frz o u) from I.hok d _ hD).1
  let#[05,f0,f1,f2,f3,f4,f5]:=hf it (by simp)
  erw[i5 (I.hd0 #[hc,hL.trans hL0]) st #[o,ho,hx,hd] (λU h' a1 sb=>?_) λa3=>absurd hi ()]
  have I1:Inv X pins σ H { s with heap:=h' }:=I.turned (t':=s.toks) (λb o O e=>(sb.2 b O).trans e) f0 f1 f3 f4 f5
  obtain⟨x,Z⟩:∃x,vs[i]? = some x:=#[_,ge hi]
  let#[v,hv,rx]:=rv.get Z;have a2:es[i].key=v:=by
   rw[Hx,M3,Hz U] at hv;rwa[Mc hv]
  let#[12,ob,e,c,dd]:=id a1;rwa[0,oi (s:={ s with heap:=h' }) e c dd #[] #[24,x,H,I1,by rw[a2];rwa[rx],#[1,Z],a1,λb O=>(hf b O).1]]
 done:=by
  intro X hP hw hK hL hc i pins s σ H E I hf st hg;subst hP hw hK;let#[hD,hi]:=(show H d=some (.frz o u)/\vs.length<=i from hg)
  have hl:vs.length=es.size:=by rw[rv.length];simp
  have ho:s.heap.get? d=some o:=(show Gg X.prog X.w H s.heap d (.frz o u) from I.hok d _ hD).1
  let#[05,f0,f1,f2,f3,f4,f5]:=hf it (by simp)
  rwa[i5 (I.hd0 #[hc,hL.trans hL0]) st #[o,ho,hx,hd] (λU=>absurd U ()) λ_ h' eb=>#[1,I.turned (t':=s.toks) (λb o O e=>eb b o O e) f0 f1 f3 f4 f5]]
 self:=λ_ _ _ _ _ st h=>wpAny_pyIter_keyiter st h
theorem oR{m:List (List Key×Addr×Value)}(q:Paired (λ(p:List Key×V) (q:List Key×Addr×Value)=>p.1=q.1/\H q.2.1=some (.tup (p.1.map kV))/\Gf p.2 q.2.2) kvs m):
  Paired (λ(p:List Key×V) (a:Addr)=>H a=some (.tup (p.1.map kV))) kvs (m.map (·.2.1))/\Ge ((m.map (·.2.1)).map V.ref) ((m.map (entryOfKey (tupleKind (aI P w)))).map (·.key)):=by
 induction q with
 |nil=>rwa[.nil,.nil]
 |cons hq t ih=>rwa[.cons hq.2.1 ih.1,.cons rfl ih.2]
theorem hu1{k:Nat}(hr:Gi base k A):A.units+1<cLine:=by have:=hr.un;lia
def kI(k:List Int):List Key:=k.map Sum.inl
theorem tV{a b:List Int}(h:kI a=kI b):a=b:=by
 induction a generalizing b with
 |nil=>cases b with
  |nil=>rfl
  |cons y b=>cases h
 |cons x a ih=>cases b with
  |nil=>cases h
  |cons y b=>
   have h':(Sum.inl x:Key)::kI a=Sum.inl y::kI b:=h;injection h' with h1 h2
   injection h1 with h1
   rw[h1,ih h2]
theorem mD(k:List Int):(kI k).map kV=k.map V.int:=by
 unfold kI;rw[Oo]
 rfl
section
def eX(m:List (List Int×α))(k:List Int):Option α:=(m.find? λp=>decide (p.1=k)).map (·.2)
def mj(m:List (List Int×α))(k:List Int)(x:α):List (List Int×α):=if (eX m k).isSome then m.map (λp=>if p.1=k then(p.1,x) else p) else m++[(k,x)]
theorem yg(k:List Int):eX ([]:List (List Int×α)) k=none:=rfl
theorem jI{p:List Int×α}{r:List (List Int×α)}{k:List Int}(e:p.1=k):eX (p::r) k=some p.2:=by simp[eX,QZ,e]
theorem jr{p:List Int×α}{r:List (List Int×α)}{k:List Int}(e:¬p.1=k):eX (p::r) k=eX r k:=by simp[eX,QZ,e]
theorem aval_none{k:List Int}:∀{m:List (List Int×α)},eX m k=none↔¬k∈m.map (·.1)
 |[]=>by simp[yg]
 |p::r=>by
  by_cases e:p.1=k
  ·rw[jI e];simp[e]
  ·rw[jr e,aval_none (m:=r),NF,OT];rwa[λh z=>z.elim (λz=>e z.symm) h,λh z=>h (.inr z)]
theorem gO{k:List Int}{x:α}:∀{m:List (List Int×α)},eX m k=some x->(k,x)∈m
 |p::r,h=>by
  by_cases e:p.1=k
  ·rw[jI e] at h;have:p=(k,x):=N2 e (Mc h);rw[this];simp
  ·rw[jr e] at h;rwa[HB.mpr (.inr (gO h))]
theorem pS{k:List Int}{x:α}:∀{m:List (List Int×α)},(m.map (·.1)).Nodup->(k,x)∈m->eX m k=some x
 |p::r,hn,h=>by
  have O:(p.1::r.map (·.1)).Nodup:=hn;let#[h1,h2]:=P3.mp O
  rcases HB.mp h with z|z
  ·rw[<- z];rwa[jI rfl]
  ·have:k∈r.map (·.1):=MO.mpr #[_,z,1];rw[jr (λe=>h1 (by rw[e];rwa[this]))]
   rwa[pS h2 z]
theorem xW(m:List (List Int×α))(k:List Int)(x:α):(mj m k x).map (·.1)=if (eX m k).isSome then m.map (·.1) else m.map (·.1)++[k]:=by
 unfold mj
 split
 ·rw[Oo];apply map_congr_left;intro p _;show(if p.1=k then(p.1,x) else p).1=p.1
  split<;>rfl
 ·rw[L8];rfl
theorem tY{m:List (List Int×α)}{k:List Int}{x:α}(h:(m.map (·.1)).Nodup):((mj m k x).map (·.1)).Nodup:=by
 rw[xW]
 split
 ·rwa[h]
 ·rename_i hs;have hn:eX m k=none:=by
   cases e:eX m k with
   |none=>rfl
   |some y=>rw[e] at hs;rwa[absurd rfl hs]
  rwa[List.nodup_append.mpr #[h,by simp,λa ha b O=>by
   rw[D_.mp O];intro z;rwa[aval_none.mp hn (by rw[<- z];rwa[ha])]]]
theorem rO{m:List (List Int×α)}{k:List Int}{x:α}{p:List Int×α}(h:p∈mj m k x):p=(k,x)\/p∈m:=by
 unfold mj at h
 split at h
 ·let#[q,O,e]:=MO.mp h
  by_cases hk:q.1=k
  ·rw[C_ hk] at e;rwa[.inl (by rw[<- e,hk])]
  ·rw[w_ hk] at e;rwa[.inr (by rw[<- e];rwa[O])]
 ·rcases Ht.mp h with z|z
  ·rwa[.inr z]
  ·rwa[.inl (D_.mp z)]
theorem yK(m:List (List Int×α))(k:List Int)(x:α):(mj m k x).length<=m.length+1:=by
 unfold mj
 split
 ·rw[z_];lia
 ·rw[x_];simp
def Gw(R:V->α->Prop)(kvs:List (List Key×V))(m:List (List Int×α)):Prop:=Paired (λ(p:List Key×V) (q:List Int×α)=>p.1=kI q.1/\R p.2 q.2) kvs m
theorem Gw.mono{R R':V->α->Prop}(h:∀v x,R v x->R' v x):∀{kvs:List (List Key×V)} {m:List (List Int×α)},Gw R kvs m->Gw R' kvs m
 |_,_,.nil=>.nil
 |_,_,.cons q r=>.cons #[q.1,h _ _ q.2] (Gw.mono h r)
theorem Gw.val{R:V->α->Prop}(k:List Int):∀{kvs:List (List Key×V)} {m:List (List Int×α)},Gw R kvs m->(dZ kvs (kI k)=none/\eX m k=none)\/∃v x,dZ kvs (kI k)=some v/\eX m k=some x/\R v x
 |_,_,.nil=>.inl #[1,1]
 |p::_,q'::_,.cons q r=>by
  by_cases e:q'.1=k
  ·rwa[.inr #[22,p.2,q'.2,iZ (by rw[q.1,e]),jI e,q.2]]
  ·rw[jG (λz=>e (tV (q.1.symm.trans z))),jr e]
   rwa[Gw.val k r]
theorem Gw.put{R:V->α->Prop}{k:List Int}{x:α}(hx:R v x){m:List (List Int×α)}(h:Gw R kvs m):Gw R (cj kvs (kI k) v) (mj m k x):=by
 unfold cj mj;rw[jc]
 rcases h.val k with⟨e1,e2⟩|⟨v',x',e1,e2,_⟩
 ·rw[e1,e2];have go:∀{kvs:List (List Key×V)} {m:List (List Int×α)},Gw R kvs m->Gw R (kvs++[(kI k,v)]) (m++[(k,x)]):=by
   intro kvs m h
   induction h with
   |nil=>rwa[.cons #[1,hx] .nil]
   |cons q r ih=>rwa[.cons q ih]
  rwa[go h]
 ·rw[e1,e2];have go:∀{kvs:List (List Key×V)} {m:List (List Int×α)},Gw R kvs m->Gw R (kvs.map λkv=>if kv.1=kI k then(kv.1,v) else kv) (m.map λp=>if p.1=k then(p.1,x) else p):=by
   intro kvs m h
   induction h with
   |nil=>rwa[.nil]
   |@cons p q ps qs hq r ih=>
    erw[.cons ?_ ih];dsimp only
    by_cases e:q.1=k
    ·rw[C_ (by rw[hq.1,e]),C_ e]
     rwa[hq.1,hx]
    ·rw[w_ (λz=>e (tV (hq.1.symm.trans z))),w_ e]
     rwa[hq]
  rwa[go h]
theorem Gw.tups{R:V->α->Prop}:∀{kvs:List (List Key×V)} {m:List (List Int×α)} {as:List Addr},Gw R kvs m->Paired (λ(p:List Key×V) (a:Addr)=>H a=some (.tup (p.1.map kV))) kvs as->
  Paired (λ(a:Addr) (q:List Int×α)=>H a=some (.tup (q.1.map V.int))) as m
 |_,_,_,.nil,.nil=>.nil
 |_,_,_,.cons q r,.cons t ts=>.cons (by rw[q.1,mD] at t;rwa[t]) (Gw.tups r ts)
end
section
variable {p:Pos}
theorem wm:bootBuiltins "set"=some (.type "set"):=#[5]
end
section
variable {v:Addr}{es:Array DictEntry}{i:Nat}
theorem jO(hd:(d==sysModules)=false)(hm:DRaw d es ep s.heap)(hQ:Q (.ref s.heap.objs.size) { s with heap:=s.heap.push { cls:=.type "dict_items",data:=.fields #[8,.ref d] } }):wpAny (model prog w) A (call (.builtin "dict.items") [.ref d]) Q E s:=by
 have O:=hm.typeIs;erw[Lv F.slot_dict_items O F.entry_dict_items ?_ (F.args_dict_items_1 _)];unfold Builtin.«dict.items» Builtin.Dict.noArgs;erw[c_ (c_ (N4 O (f_ ?_)))];show wpAny _ _ (Builtin.Dict.showsAll d >>= _) _ _ s;unfold Builtin.Dict.showsAll;rw[w_ (by rw[hd];rwa[G_])]
 rwa[c_ (f_ (c_ (HI (f_ #[0,hQ]))))]
theorem j9(hv:s.heap.IsItemsView v d)(hm:DRaw d es ep s.heap)(hQ:Q (.ref s.heap.objs.size) { s with heap:=s.heap.push { cls:=.type "dict_itemiterator",data:=.fields #[8,.none,.bool false,.ref d,.int 0 0,.int es.size 0,.int ep 0,.none,.none] } }):wpAny (model prog w) A (pyIter (.ref v)) Q E s:=by
 let#[12,ov,Z,a1,U]:=id hv;let#[12,o,ho,_,O]:=id hm;erw[wpAny_pyIter_slot hv.typeIs F.slot_dict_items_iter (Lv F.slot_dict_items_iter hv.typeIs F.entry_dict_items_iter ?_ (F.args_dict_items_iter_1 _))];unfold Builtin.«dict_items.__iter__» Builtin.Dict_items.dictOf;erw[c_ (f_ (c_ (c_ (Lq Z U (x:=.ref d) rfl (f_ ?_)))))];erw[c_ ?_];unfold Builtin.Dict_items.newIterator;erw[c_ (Pc ho O (c_ (wpAny_dictEpoch ho O ?_)))];simp only[show Builtin.Dict_items.ownsTuple "dict_itemiterator"=true by decide,PX]
 erw[HI (f_ #[62,0, "dict_itemiterator",_,#[_,A_ _ rfl,1],F.slot_dict_itemiterator_next.lookup,?_])
  (by simp only[sizeOk,Builtin.Dict_items.ownedTupleFields,HC,x_,Mn,Qh,Hc];lia)]
 simpa[rawInt,Builtin.Dict_items.ownedTupleFields] using hQ
theorem oC{ok ov:Value}{Q:Option Value->Shared->Prop}(hh:A.handled=none)(hit:IsItemIter s.heap it d i es.size ep ok ov)(hm:DRaw d es ep s.heap)(h1:∀(hi:i<es.size) h',IsItemIterOut h' it d (i+1) es.size ep es[i].key es[i].val s.heap.objs.size->h'.get? s.heap.objs.size=some { cls:=.type "tuple",data:=.seq #[8,es[i].key,es[i].val] }->
   (∀b o,b≠it->s.heap.get? b=some o->h'.get? b=some o)->Q (some (.ref s.heap.objs.size)) { s with heap:=h' })(h2:es.size<=i->∀h',Heap.ExtBut it s.heap h'->Q none { s with heap:=h' }):wpAny (model prog w) A (pyNext (.ref it)) Q E s:=by
 let#[Z,g,dr,tk,os]:=s;let#[12,od,a3,_,a2]:=id hm;have O:Shared.TypeIs #[Z,g,dr,tk,os] (.ref it) "dict_itemiterator":=#[_,hit,1];unfold pyNext;erw[c_ (Nr (Lz (name:=Str.ofString "__next__") O F.slot_dict_itemiterator_next (Lv F.slot_dict_itemiterator_next O F.entry_dict_itemiterator_next ?_ (F.args_dict_itemiterator_next_1 _))))];erw[c_ (f_ (c_ (c_ ?_)))]
 first|erw[c_ (wpAny_typeNameOfWhole_itemiter O (f_ ?_))]|erw[c_ (wpAny_typeNameOf_itemiter O (f_ ?_))]
 erw[c_ (wpAny_fieldsOf hit rfl ?_)];simp only[show Builtin.Dict_items.ownsTuple "dict_itemiterator"=true by decide,PX]
 show wpAny _ _ (if (Value.ref d==Value.none)=true then _ else _) _ _ _
 rw[w_ (show ¬((Value.ref d==Value.none)=true) from G_)]
 erw[c_ (f_ (c_ (Pc a3 a2 ?_)))];rw[w_ (by simp)]
 erw[c_ (f_ (c_ (wpAny_dictEpoch a3 a2 ?_)))];rw[w_ (by simp)]
 erw[f_ ?_]
 by_cases U:i<es.size
 ·simp only[show ¬((i:Int)<0) from (),OP,Mz,Hz U]
  erw[c_ ?_]
  first|erw[c_ (wpAny_typeNameOfWhole_itemiter O (f_ ?_))]|erw[c_ (wpAny_typeNameOf_itemiter O (f_ ?_))]
  erw[c_ (wpAny_isOneOf_itemiter O ?_)];show wpAny _ _ (setField (.ref it) 3 (rawInt ((i:Int)+1)) >>= _) _ _ #[Z,g,dr,tk,os];erw[c_ (MH hit (by simp) λk1 e1 b1=>?_)]
  replace b1:Heap.SameBut it Z k1:=b1
  replace e1:IsItemIter k1 it d (i+1) es.size ep ok ov:=by
   have e:((i+1:Nat):Int)=(i:Int)+1:=()
   unfold IsItemIter;rw[e];simpa[rawInt] using e1
  have a1:Shared.TypeIs #[k1,g,dr,tk,os] (.ref it) "dict_itemiterator":=#[_,e1,1];erw[c_ (Ls (c_ (wpAny_isOneOf_itemiter a1 (c_ (wpAny_isOneOf_itemiter a1 ?_)))))];show wpAny _ _ (Builtin.Dict_items.pairFromOwner (.ref it) 6 es[i].key es[i].val) _ _ #[k1,g,dr,tk,os];unfold Builtin.Dict_items.pairFromOwner;erw[c_ (wpAny_newTuple ?_)];have e2:IsItemIter (k1.push { cls:=.type "tuple",data:=.seq #[8,es[i].key,es[i].val] }) it d (i+1) es.size ep ok ov:=g_ _ e1;generalize hk2:k1.push { cls:=.type "tuple",data:=.seq #[8,es[i].key,es[i].val] }=k2 at e2;have z1:k1.objs.size=Z.objs.size:=b1.1;have a4:it<Z.objs.size:=Hl hit;have t2:k2.get? Z.objs.size=some { cls:=.type "tuple",data:=.seq #[8,es[i].key,es[i].val] }:=by rw[<- hk2,<- z1];rwa[A_ _ rfl]
  have c2:∀b o,b≠it->Z.get? b=some o->k2.get? b=some o:=λb o hb e=>by rw[<- hk2];rwa[g_ _ (b1.extBut b o hb e)]
  show wpAny _ _ (Builtin.Dict_items.ownedTupleIsFree (.ref it) >>= _) _ _ #[k2,g,dr,tk,os];rw[z1];clear hk2 e1 b1 a1 z1 k1;erw[c_ ?_];unfold Builtin.Dict_items.ownedTupleIsFree;erw[c_ (Lq e2 rfl (x:=.none) rfl (f_ ?_))];simp only[PX];erw[c_ (Lq e2 rfl (x:=ok) rfl (c_ (Lq e2 rfl (x:=ov) rfl (c_ (MH e2 (by simp) λk3 e3 b3=>?_)))))]
  replace b3:Heap.SameBut it k2 k3:=b3
  replace e3:IsItemIter k3 it d (i+1) es.size ep es[i].key ov:=e3
  erw[c_ (MH e3 (by simp) λk4 e4 b4=>?_)]
  replace b4:Heap.SameBut it k3 k4:=b4
  replace e4:IsItemIter k4 it d (i+1) es.size ep es[i].key es[i].val:=e4
  erw[c_ (MH e4 (by simp) λk5 e5 b5=>?_)]
  replace b5:Heap.SameBut it k4 k5:=b5
  replace e5:IsItemIterOut k5 it d (i+1) es.size ep es[i].key es[i].val Z.objs.size:=e5
  erw[c_ (MH e5 (by simp) λk6 e6 b6=>?_)]
  replace b6:Heap.SameBut it k5 k6:=b6
  replace e6:IsItemIterOut k6 it d (i+1) es.size ep es[i].key es[i].val Z.objs.size:=e6
  have ne:=O7 a4;erw[c_ (wpAny_letGo (f_ (f_ #[0,f_ (h1 U k6 e6 (b6.extBut _ _ ne (b5.extBut _ _ ne (b4.extBut _ _ ne (b3.extBut _ _ ne t2)))) λb o hb e=>?_)])))]
  rwa[b6.extBut b o hb (b5.extBut b o hb (b4.extBut b o hb (b3.extBut b o hb (c2 b o hb e))))]
 ·simp only[show ¬((i:Int)<0) from (),OP,Mz,NR (Nat.le_of_not_lt U)]
  erw[c_ ?_]
  first|erw[c_ (wpAny_typeNameOfWhole_itemiter O (f_ ?_))]|erw[c_ (wpAny_typeNameOf_itemiter O (f_ ?_))]
  show wpAny _ _ (setField (.ref it) 2 .none >>= _) _ _ _;erw[c_ (MC hit rfl (by simp) ?_)]
  show wpAny _ _ (newExc (.type "StopIteration") [] >>= _) _ _ _;erw[c_ ?_];simp only[newExc,newTuple];erw[c_ (HI ?_ (by size_fits))]
  erw[c_ (m:=firstArgMember _ _) (M7 (a:=Value.none) (by first|rfl|(simp only[firstArgMember];rfl)) ?_)]
  erw[HI ?_ (by size_fits)]
  simp only[raiseNew];erw[c_ (wpAny_handled ?_)];rw[show A.in1.handled=none from hh]
  erw[c_ (f_ (wpAny_throw ?_))];erw[c_ (N6 (T := "StopIteration") (b:=true) #[_,A_ _ rfl,1] isSubtype_stop ?_)];rwa[f_ (h2 (Nat.le_of_not_lt U) _ (((LY ..).extBut.push _).push _))]
end
def cV(v d:Addr):HO:=.ext λh=>h.IsItemsView v d
def Iti(d:Addr)(o:Obj)(u:HO)(kv:List (V×V)):It:=
 #[λi H=>H d=some (.frz o u)/\i<kv.length,λi H x H'=>∃p k y,x=.ref p/\H p=none/\H'=upd H p (.tup [k,y])/\kv[i]? = some (k,y),λi H=>H d=some (.frz o u)/\kv.length<=i]
theorem iV{o:Obj}{u:HO}{es:Array DictEntry}{kv:List (V×V)}(hx:o.ExactDict)(hd:o.data=.dict es ep)(r1:Ge (kv.map (·.1)) (es.toList.map (·.key)))(r2:Ge (kv.map (·.2)) (es.toList.map (·.val)))(hL0:L={}):
  my P w K L (.Tuple tes tk tp) (Iti d o u kv) [it] it (λi h=>∃ok ov,IsItemIter h it d i es.size ep ok ov) where
 mem:=by simp
 obj:=λi h ⟨ok,ov,st⟩ b hb=>by
  have e:b=it:=by simpa using hb
  subst e;rwa[_,st,λv z=>by cases z]
 keep:=λi h h' ⟨ok,ov,st⟩ k=>#[20,ok,ov,k it (by simp) _ st]
 item:=by
  intro X hP hw hK hL O i pins s σ H E I hf st hg;subst hP hw hK;let#[hD,hi]:=(show H d=some (.frz o u)/\i<kv.length from hg)
  let#[ok,ov,st]:=st;have ho:s.heap.get? d=some o:=(show Gg X.prog X.w H s.heap d (.frz o u) from I.hok d _ hD).1
  erw[oC (I.hd0 #[O,hL.trans hL0]) st #[o,ho,hx,hd] (λU h' a1 a5 hk=>?_) λac=>absurd hi (by have:=r1.length;simp at this;lia)]
  erw[0,wpAny_letOwnedTupleGo_items a1 λa3 a8 sb=>?_]
  obtain⟨⟨x,y⟩,Z⟩:∃q,kv[i]? = some q:=#[_,ge hi]
  let#[v1,a6,rx]:=r1.get (i:=i) (x:=x) (by rw[Hx,Z];rfl)
  let#[v2,a7,ry]:=r2.get (i:=i) (x:=y) (by rw[Hx,Z];rfl)
  have e1:es[i].key=v1:=by
   rw[Hx,M3,Hz U] at a6;rwa[Mc a6]
  have e2:es[i].val=v2:=by
   rw[Hx,M3,Hz U] at a7;rwa[Mc a7]
  rw[e1,e2] at a5;have a':it<s.heap.objs.size:=Hl st;have a9:s.heap.objs.size≠it:=O7 a';have hT:a3.get? s.heap.objs.size=some { cls:=.type "tuple",data:=.seq #[8,v1,v2] }:=(sb.2 _ a9).trans a5;have fresh:H s.heap.objs.size=none:=I.hok.fresh (e_ _);have gT:(s.heap.push { cls:=.type "tuple",data:=.seq #[8,v1,v2] }).get? s.heap.objs.size=some { cls:=.type "tuple",data:=.seq #[8,v1,v2] }:=A_ _ rfl;have I1:Inv X pins σ (upd H s.heap.objs.size (.tup [x,y])) { s with heap:=s.heap.push { cls:=.type "tuple",data:=.seq #[8,v1,v2] },toks:=s.toks }:=
   I.laid (λb o e=>g_ _ e) (e_ _) #[015210,by show 2<=sizeLine;decide,[v1,v2],.cons rx (.cons ry .nil),_,gT,1,0]
  have a2:∀c∈[it],gE X pins (upd H s.heap.objs.size (.tup [x,y])) c:=λc O=>by
   have e:c=it:=by simpa using O
   subst e;rwa[by rw[ak a9.symm];exact(hf c O).1,(hf c O).2]
  have I2:=I1.turnedN (h':=a3) (t':=s.toks) (fp:=[it]) (λc o O e=>by
   have a4:c≠it:=by simpa using O
   rcases get?_push_cases e with⟨e1,e2⟩|e1
   ·rw[e1,e2];rwa[hT]
   ·exact(sb.2 c a4).trans (hk c o a4 e1)) a2
  rwa[24,.ref s.heap.objs.size,_,I2,1,#[33,_,x,y,1,fresh,1,Z],#[20,_,_,a8],λc O=>(a2 c O).1]
 done:=by
  intro X hP hw hK hL O i pins s σ H E I hf st hg;subst hP hw hK;let#[hD,hi]:=(show H d=some (.frz o u)/\kv.length<=i from hg)
  let#[ok,ov,st]:=st;have ho:s.heap.get? d=some o:=(show Gg X.prog X.w H s.heap d (.frz o u) from I.hok d _ hD).1
  erw[oC (I.hd0 #[O,hL.trans hL0]) st #[o,ho,hx,hd] (λU=>absurd U (by have:=r1.length;simp at this;lia)) λ_ h' eb=>#[1,I.turnedN (t':=s.toks) (λc o O e=>eb c o (by simpa using O) e) hf]]
 self:=λ_ _ _ _ _ ⟨_,_,st⟩ h=>kcp_self st h
theorem xA{m:List (List Key×Addr×Value)}(q:Paired (λ(p:List Key×V) (q:List Key×Addr×Value)=>p.1=q.1/\H q.2.1=some (.tup (p.1.map kV))/\Gf p.2 q.2.2) kvs m):
  Ge (kvs.map (·.2)) ((m.map (entryOfKey (tupleKind (aI P w)))).map (·.val)):=by
 induction q with
 |nil=>rwa[.nil]
 |cons hq t ih=>rwa[.cons hq.2.2 ih]
section
variable {st:Expr}{ts:TO}
theorem Ge.rev{xs:List V}(r:Ge xs us):Ge xs.reverse us.reverse:=by
 induction r with
 |nil=>rwa[.nil]
 |cons a r ih=>
  rw[reverse_cons,reverse_cons];rwa[ih.append (.cons a .nil)]
end
section
variable {p:Pos}
def CY(t:Bool)(K:Frag):List V->Hp->VK->Prop:=λxs H Q=>∃(p:Addr) (ns:List Int),xs=[.ref p]/\SqV t K H p (ns.map V.int)/\ns≠[]/\∀m,m∈ns->(∀x∈ns,x<=m)->Q (.int m) H
theorem wg(hc:X.still)(t:Bool):cU X (.builtin "max") (CY t X.K):=by
 intros xs us Q I rv h;let#[23,p,ns,1,q,a4,hq]:=h;let#[u,1,ru]:=eS rv;cases ru;let#[12,its,rb,po,z]:=I.seqV q;have hh:X.A.in1.handled=none:=I.hd0 hc;have a1:=rb.length;rw[z_] at a1;have a5:0<ns.length:=List.length_pos_iff.mpr a4;have U:∀(i:Nat) (v:Value),its.toArray[i]? = some v->∃t,v=Value.int (ns.getD i 0) t:=by
  intro i v hv;have a3:its[i]? = some v:=by simpa using hv
  have a6:i<its.length:=(y_.mp a3).1;have O:(ns.map V.int)[i]? = some (.int (ns.getD i 0)):=by
   rw[Hx,LR,ge ()]
   rfl
  let#[u,hu,ru]:=rb.get O;rw[a3] at hu;cases hu;rwa[ru]
 erw[call_max_walk (jX po λo hi=>?_)]
 have a2:p<s.heap.objs.size:=by let#[ob,e]:=po.obj;rwa[Hl e]
 erw[4036,s.heap.objs.size,_,_,_,_,_,0,Walks.sq t hh s.heap.objs.size p (F9 a2) its.toArray,#[hi,po.at λo' e=>g_ _ e],λb O=>?_,?_,CmpOf.ints_gt (λi=>ns.getD i 0) U,λv h' tk hP hk=>?_]
 ·show b<(s.heap.push o).objs.size;rw[Ps]
  rcases HB.mp O with rfl|O
  ·rwa[Pt _]
  ·rcases HB.mp O with rfl|O
   ·rwa[O3 a2]
   ·cases O
 ·rw[HC];lia
 ·have I1:Inv X pins σ H { s with heap:=s.heap.push o,toks:=s.toks }:=I.kept λb u e=>g_ _ e
  have fp:gE X pins H s.heap.objs.size:=I.fpOk (e_ _) (I.hok.fresh (e_ _));have I2:Inv X pins σ H { s with heap:=h',toks:=tk }:=by
   have:=I1.turnedN (fp:=[s.heap.objs.size]) (h':=h') (t':=tk) (λb ob O e=>hk b ob O e) (λb O=>by have e:b=s.heap.objs.size:=(by simpa using O);subst e;rwa[fp])
   rwa[this]
  let#[g1,g2]:=argBest_gt (λi=>ns.getD i 0) (its.toArray.size-1)
  rw[HC] at g1 g2 hP;let#[tv,1]:=U _ _ hP;have Z:argBest (λi j=>decide (ns.getD i 0>ns.getD j 0)) (its.length-1)<ns.length:=()
  erw[22,.int (ns.getD (argBest (λi j=>decide (ns.getD i 0>ns.getD j 0)) (its.length-1)) 0),H,I2,#[tv,1],hq _ ?_ λx hx=>?_]
  ·rw[LR,ge Z];rwa[NX Z]
  ·let#[j,hj,1]:=List.getElem_of_mem hx;have:=g2 j ()
   rw[LR (i:=j),ge hj] at this;rwa[this]
theorem Be(T:Blt X.mg)(ha:PE X e te)(b:Bool)(hK:X.K=K:=by rfl)(hc:X.still:=by rwa[1,by first|assumption|exact(‹Quiet _›).q])(hg:Gl X "max":=by rfl)(hs:starEach [e] X.env=[(false,eval e X.env)]:=by rfl):PE X (.Call (.Name "max" p) [e] [] pos) (tCB (CY b K) (ci te cQ)):=by
 subst hK;rwa[cJ (wg hc b) hg T.max pf (aa ha ag hs) #[] #[] hs]
end
theorem Gi.m{base:Heap}{k:Nat}(r:Gi base k A)(h:j<=k:=by first|decide|rwa[e_ _]):Gi base j A:=r.mono h
theorem Gb.i{P:List Str}{sc:Scope}(a:sc.kind=.function:=by rfl)(b:sc.isCoroutine=false:=by rfl)(c:sc.isGenerator=false:=by rfl)(d:N.Nodup:=by decide +kernel)(e:N.take P.length=P:=by rfl)(f:∀x∈P,sc.names.lookup x=some .local\/sc.names.lookup x=some .cell:=by decide +kernel)(g:∀y∈sc.names,y.2≠.free:=by decide +kernel):Gb N P sc:=#[a,b,c,d,e,f,g]
def AllA:Nat->(List Value->Prop)->Prop
 |0,p=>p []
 |n+1,p=>∀v,AllA n λr=>p (v::r)
theorem AllA.all:∀{n:Nat} {p:List Value->Prop},AllA n p->∀us:List Value,us.length=n->p us
 |0,_,h,[],_=>h
 |_+1,_,h,v::r,e=>AllA.all (h v) r (Nat.succ.inj e)
def DefIn(K:Frag)(n:Str)(st:Stmt):Prop:=∃f fd,nsIn K mainGlobals n=some (some (.ref f))/\Fun K n n st f fd
theorem DefIn.mk{n:Str}{kV:Value}(a:nsIn K mainGlobals n=some (some (.ref f)))(l:K.lookup f=some #[oc,od,.func (fnOf n n (bJ st) (aW st) (aj st) .none kV doc pm an cdv ct),osl])(c:codeIn K cdv n=true)(k:keepIn K (.ref f)=true):DefIn K n st:=#[21,f,_,a,Ac l c k]
section
variable {base:Heap}{n:Str}{k:Nat}
def BindsOk(n:Str)(st:Stmt)(ps:List Str):Prop:=∀(kV doc pm:Value) (an:Option Addr) (cdv ct:Value),AllA ps.length λus=>bindArgs (fnOf n n (bJ st) (aW st) (aj st) .none kV doc pm an cdv ct) #[us,[]]=pure (ps.zip us)
theorem BindsOk.b(h:BindsOk n st ps){fd:FuncData}(F:Fun K n n st f fd):Gq K fd ps []:=F.binds λa b c d e g=>(h a b c d e g).all
theorem DefIn.fb(X:K.In h)(G:h.Ns mainGlobals mg)(d:DefIn K n st)(o:∀{f fd},Fun K n n st f fd->`Gd CX0 k f fd ps sp)(b:BindsOk n st ps:=by(repeat intro _);rfl):`FnB k n sp:=
 let ⟨f,fd,a,F⟩:=d
 #[f,fd,ps,o F,P7 X G a,F.kp,b.b F]
theorem DefIn.fx(X:K.In h)(G:h.Ns mainGlobals mg)(d:DefIn K n st)(o:∀{f fd},Fun K n n st f fd->`Gd (CXE P w base.life) k f fd ps sp)(b:BindsOk n st ps:=by(repeat intro _);rfl):`jY k n sp:=
 let ⟨f,fd,a,F⟩:=d
 #[f,fd,ps,o F,P7 X G a,F.kp,b.b F]
end
@[irreducible] def QE:=PE
@[irreducible] def QA:=PA
@[irreducible] def QS:=PS
@[irreducible] def QSs:=PSs
theorem qE:PE=QE:=by unfold QE;rfl
theorem qA:PA=QA:=by unfold QA;rfl
theorem qS:PS=QS:=by unfold QS;rfl
theorem qSs:PSs=QSs:=by unfold QSs;rfl
def xw:=qE▸@jg
def lZ:=qE▸@j5
def A5:=qE▸@dU
def aJ:=qE▸@ah
def zV:=qE▸@aC
def CB:=qE▸@um
def bK:=qE▸@ao
def aY:=qE▸@ji
def Ce:=qE▸@iH
def bF:=qE▸@kY
def cK:=qE▸@aw
def qpv:=qE▸@pv
def aE:=qE▸qA▸@aa
def ud:=qE▸qA▸@az
def dq:=qE▸qA▸@aX
def hU:=qE▸qA▸@aN
def bE:=qA▸@ag
def du:=qE▸qS▸@ar
def gX:=qE▸qS▸@am
def fX:=qS▸qSs▸@aL
def ba:=qS▸qSs▸@af
def cv:=qS▸qSs▸@ai
def cN:=qSs▸@aB
theorem bmA(K:Frag)(hK:X.K=K){o:Expr}{to:TE}{t:TA}(ho:PE X o to)(ha:PA X (e::es) t)(hbase:attributeBase o "append" X.env (eval o X.env)=eval o X.env:=by rfl)(hfew:((backTo cpos (starEach (e::es) X.env)).all (λx=>!x.1)&&(backToKw cpos (keywordEach [] X.env)).all (λx=>x.1.isSome)
   && decide ((e::es).length+([]:List Keyword).length+(if ([]:List Keyword).isEmpty then 0 else 1)<30))=true:=by rfl)(hline:(apos.endLine==cpos.line)=true:=by rfl)(hs:starEach (e::es) X.env=(false,eval e X.env)::starEach es X.env:=by rfl)(hplain:(backTo cpos (starEach es X.env)).any (·.1)=false:=by rfl):
  PE X (.Call (.Attribute o "append" apos) (e::es) [] cpos) (tBM K "list" vJ to t):=hK▸Ae PySem.F.plainAttrs_list PySem.F.slot_list_append PySem.F.type_list_append oB ho ha hbase hfew hline hs hplain
theorem bmE(K:Frag)(hK:X.K=K){o:Expr}{to:TE}{t:TA}(ho:PE X o to)(ha:PA X (e::es) t)(hbase:attributeBase o "extend" X.env (eval o X.env)=eval o X.env:=by rfl)(hfew:((backTo cpos (starEach (e::es) X.env)).all (λx=>!x.1)&&(backToKw cpos (keywordEach [] X.env)).all (λx=>x.1.isSome)
   && decide ((e::es).length+([]:List Keyword).length+(if ([]:List Keyword).isEmpty then 0 else 1)<30))=true:=by rfl)(hline:(apos.endLine==cpos.line)=true:=by rfl)(hs:starEach (e::es) X.env=(false,eval e X.env)::starEach es X.env:=by rfl)(hplain:(backTo cpos (starEach es X.env)).any (·.1)=false:=by rfl):
  PE X (.Call (.Attribute o "extend" apos) (e::es) [] cpos) (tBM K "list" vR to t):=hK▸Ae PySem.F.plainAttrs_list PySem.F.slot_list_extend PySem.F.type_list_extend xu ho ha hbase hfew hline hs hplain
section
variable {base:Heap}
theorem Fun.o{fd:FuncData}{k:Nat}(F:Fun K x qual st f fd)(S:Gb N ps (aj st))(hbody:∀(cdv:Value) (A:Around) (outer:List Env) (s:Shared) (H:Hp) (vs:List V) (Q:VK) (E:XK),Gi base k (A.deeper (envOfC qual (aj st) s.heap.objs.size f cdv))->sp vs H Q E->
   ∃t,PSs (dQ CX0 P w K mg base N qual (aj st) f cdv A outer s H E).nox (aW st) t/\t { nx:=λ_ H'=>Q .non H',rt:=Q } (dX N vs) H)(len:∀vs H Q E,sp vs H Q E->vs.length=ps.length:=by intro _ _ _ _ h;repeat first|(cases h.1;rfl)|let#[_,h]:=h):`Gd CX0 (k+1) f fd ps sp:=F.ok S len hbody
end
open PySem.Builtin PySem.Builtin.Str
def Dj:V->List V->Hp->VK->Prop:=λx vs H Q=>∃(l:Addr) (bs:List Bool),x=.ref l/\vs=[.bl true]/\H l=some (.lst (bs.map V.bl))/\Q (.int (bs.count true:Nat)) H
theorem zT:MtM X "list.count" Dj:=by
 intros x vs v us Q I rx rv h;let#[23,l,bs,1,1,O,q]:=h;cases rx;let#[u,1,ru]:=rv.one;cases ru;let#[0122,z,its,n,r,U,e]:=I.lstM O;have hi:its=bs.map Value.bool:=by
  clear O U e z q
  induction bs generalizing its with
  |nil=>cases r;rfl
  |cons b bs ih=>cases r with|cons r1 r2=>cases r1;rw[ih _ r2];rfl
 have hc:its.toArray.toList.countP (λv=>v == .bool true)=bs.count true:=by
  rw[hi];clear O U e z q r hi
  induction bs with
  |nil=>rfl
  |cons b bs ih=>simp only[NF,List.countP_cons,List.count_cons] at ih ⊢;cases b<;>simp_all
 erw[call_meets F.slot_list_count #[_,e,1] F.entry_list_count (F.args_list_count_2 _ _) (PySem.SeqAt.list_countAt l its.toArray n _ _ (.bool true) (λv=>v == .bool true)) #[e,?_,?_]]
 ·intro y Z;rw[hi] at Z;let#[b,_,1]:=MO.mp (List.mem_toArray.mp Z);have:=PySem.SeqAt.EqAt.bool_bool (A:=X.A.in1) (s:=s) b true;cases b<;>rwa[this]
 ·rw[hc];rwa[22,.int (bs.count true:Nat),H,I.tok _,#[0],q]
theorem qj:typeLookup (.type "list") "keys" = pure none:=by rw[typeLookup_type,OY];kernel_rfl
theorem oS{a:Addr}{o:Obj}{xs:Array Value}{k:Nat}{Q:Option Value->Shared->Prop}(hx:s.heap.get? a=some o)(hc:o.cls=.type "list")(hdat:o.data=.seq xs k)(hd:o.dict=none)(hA:A.handled=none)(h:∀h' tk,(∀b ob,s.heap.get? b=some ob->h'.get? b=some ob)->Q none { s with heap:=h',toks:=tk }):
  wpAny (model prog w) A (getAttr? (.ref a) "keys") Q E s:=by
 let#[c,a2,a1,sl]:=o;simp only at hc hdat hd;subst hc hdat hd;let#[hp,g,d,tk,os]:=s;have Z:∀O,(#[hp,g,d,O,os]:Shared).TypeIs (.ref a) "list":=λ_=>#[_,hx,1]
 have f1:=sub_AttributeError;have f3:=F.slot_list_getattribute.lookup;have f4:=F.slot_list_getattribute.bind (.ref a);have f5:=am_list_getattr_none;unfold getAttr? getAttrBy? getAttrBy
 repeat (any_goals (first|assumption|rwa[Z _]|((with_reducible show wpAny _ _ (call (Value.builtin "list.__getattribute__") _ _) _ _ _);erw[call_meets F.slot_list_getattribute (Z _) am_entry_list_getattribute (F.args_list_getattribute_2 _ _) (meets_getattribute_miss_list a xs k sl "keys" _ qj #[5] (by size_fits)) #[hx,hA,λh' O e U=>?_]])|wp_step))
 let#[t',u',he]:=U.there;have a3:Shared.TypeIs #[h',g,d,O,os] (.ref e) "AttributeError":=#[_,he,1];show wpAny _ _ (getattributeRaised _ _ _ _ _ _ _) _ _ _;unfold getattributeRaised
 repeat (any_goals (first|assumption|wp_step))
 rwa[h _ _ U.keeps]
theorem cT:entryFor table "dict.update.loop"=some Builtin.«dict.update.loop»:=entryFor_of_tree (by kernel_rfl)
theorem bq:plainId "dict.update.loop"=true:=#[5]
section
variable {K:Type}[DecidableEq K]{knd:KeyKind prog w K}{l:Addr}
def eY(m:List (K×Value))(ks:List (K×Value)):List (K×Value):=ks.foldl (λm p=>stored m p.1 p.2) m
def B7(knd:KeyKind prog w K)(h:Heap)(d it:Addr)(items:Array Value)(ks:List (K×Value)):Prop:=ks.length=items.size/\∀(i:Nat) (v:Value) (k:K) (r:Value),items[i]? = some v->ks[i]? = some (k,r)->∃a key,v=.ref a/\h.IsTuple a #[8,key,r]/\knd.is k key=true/\a≠d/\a≠it
theorem AF(hA:A.handled=none)(hdi:d≠it)(hld:l≠d)(hli:l≠it){ks:List (K×Value)}(hz:ks.length<=sizeLine):
  ∀(n i:Nat) (s:Shared) (tk:Tok),items.size-i=n->i<=items.size->s.heap.IsListIter it l i->s.heap.IsList l items->B7 knd s.heap d it items ks->s.heap.DictOf knd d (eY [] (ks.take i))->(eY [] (ks.take i)).length<=i->
   (∀h' t',(∀b o,b≠d->b≠it->s.heap.get? b=some o->h'.get? b=some o)->h'.DictOf knd d (eY [] ks)->R (.ok (.ret .none)) { s with heap:=h',toks:=t' })->
   codeAny (model prog w) A (.builtin "dict.update.loop" #[[.ref d,.ref it,.int i tk,.none],[]]) R s:=by
 intro n
 induction n with
 |zero=>
  intro i s tk hn hi a3 hl hp hD ac hR;erw[MP cT ?_];rw[Mx bq _];show wpAny _ A.in1 (pyNext (.ref it) >>= _) _ _ s;erw[c_ (wpAny_pyNext_list_end (by simpa using hA) a3 hl (by rw[NR];lia) λh' eb=>?_)]
  show wpAny _ A.in1 (Builtin.Dict.addKeywords d [] >>= _) _ _ _;erw[c_ (f_ ?_)];rw[NI (by have:=hp.1;lia)] at hD
  let#[31,o,es,ep,O,rest]:=hD;rwa[f_ (hR h' s.toks (λb ob hb Z e=>eb b ob Z e) #[31,o,es,ep,eb d o hdi O,rest])]
 |succ n ih=>
  intro i s tk hn hi a3 hl hp hD ac hR;erw[MP cT ?_];rw[Mx bq _];show wpAny _ A.in1 (pyNext (.ref it) >>= _) _ _ s;have a4:i<items.size:=()
  erw[c_ (Ou a3 hl (x:=items[i]) (Hz a4) λh' a5 hs=>?_)]
  obtain⟨k,r,ek⟩:∃k r,ks[i]? = some (k,r):=#[20,_,_,ge (by have:=hp.1;lia)]
  let#[24,a,key,ev,ht,hk,a2,U]:=hp.2 i _ k r (Hz a4) ek;rw[ev];let#[1210,o,O,hc,nn,hd]:=ht;have a6:h'.get? a=some o:=(hs.2 a U).trans O;have a7:h'.DictOf knd d (eY [] (ks.take i)):=by
   let#[31,o,es,ep,O,rest]:=hD;rwa[31,o,es,ep,(hs.2 d hdi).trans O,rest]
  have a':h'.IsList l items:=by
   let#[o,O,rest]:=hl;rwa[o,(hs.2 l hli).trans O,rest]
  show wpAny _ A.in1 (holding [.ref a] _ >>= _) _ _ _;erw[c_ (Ls ?_)];erw[c_ (wpAny_tryCatch ?_)];unfold Builtin.Dict.pairItems;erw[c_ (PY (T := "tuple") #[o,a6,hc] ?_)];rw[C_ #[]]
  erw[c_ (MS a6 hd ?_)];erw[f_ ?_];show wpAny _ _ (holding [key,r] (dictSet d key r)) _ _ _;erw[Ls (wpAny_dictSet_pairs (hsz:=by have:=hp.1;lia) hk a7 λh2 a8 a1=>?_)]
  have e1:eY [] (ks.take (i+1))=stored (eY [] (ks.take i)) k r:=by
   unfold eY;rw[Mw,ek,foldl_append]
   rfl
  erw[f_ #[OK bq _,ih (i+1) _ _ () a4 ?_ ?_ #[hp.1,λj v k r hv hk=>?_] ?_ ?_ λh3 t3 k3 a9=>?_]]
  ·let#[o,O,rest]:=a5;rwa[o,(a1.2 it hdi.symm).trans O,rest]
  ·let#[o,O,rest]:=a';rwa[o,(a1.2 l hld).trans O,rest]
  ·let#[24,a,key,ev,#[o,O,rest],hk,a2,U]:=hp.2 j v k r hv hk;rwa[24,a,key,ev,#[o,(a1.2 a a2).trans ((hs.2 a U).trans O),rest],hk,a2,U]
  ·rw[e1];rwa[a8]
  ·rw[e1];have:=stored_length_le (eY [] (ks.take i)) k r;lia
  ·rwa[hR h3 t3 (λb ob hb Z e=>k3 b ob hb Z ((a1.2 b hb).trans ((hs.2 b Z).trans e))) a9]
theorem kU{ks:List (K×Value)}{xs:Array Value}{sl:Array (Option Value)}(hA:A.handled=none)(hl:s.heap.get? l=some { cls:=.type "list",dict:=none,data:=.seq xs nl,slots:=sl })(hp:ks.length=xs.size/\∀(i:Nat) (v:Value) (k:K) (r:Value),xs[i]? = some v->ks[i]? = some (k,r)->∃a key,v=.ref a/\s.heap.IsTuple a #[8,key,r]/\knd.is k key=true)(hz:ks.length<=sizeLine)(h:∀h' t',h'.DictOf knd s.heap.objs.size (eY [] ks)->(∀b o,s.heap.get? b=some o->h'.get? b=some o)->Q (.ref s.heap.objs.size) { s with heap:=h',toks:=t' }):
  wpAny (model prog w) A (call (.type "dict") [.ref l]) Q E s:=by
 erw[callType_codes (Q₁:=λobj s₁=>obj=.ref s.heap.objs.size/\s₁={ s with heap:=s.heap.push { cls:=.type "dict",data:=.dict #[8] } }) F.kt_called_dict (F.kt_typeCall_dict_1 _) F.entry_dict_init (kt_code_dict_new _ #[1,1]) ?_]
 rintro obj s₁ ⟨rfl,rfl⟩;have U:(s.heap.push { cls:=.type "dict",data:=.dict #[8] }).DictOf knd s.heap.objs.size []:=Heap.DictOf.new s.heap;have Z:(s.heap.push { cls:=.type "dict",data:=.dict #[8] }).get? l=some { cls:=.type "list",dict:=none,data:=.seq xs nl,slots:=sl }:=g_ _ hl;erw[U.typeIs,F.args_dict_init_2 _ _,?_];unfold Builtin.«dict.__init__»;erw[c_ ?_];unfold Builtin.Dict.selfAndRest;erw[c_ (N4 U.typeIs ?_)];show wpAny _ _ (pure (s.heap.objs.size,[Value.ref l])) _ _ _;erw[f_ ?_];show wpAny _ _ (Builtin.Dict.updateFrom "dict.__init__" s.heap.objs.size (.ref l) [] .none) _ _ _;unfold Builtin.Dict.updateFrom;erw[c_ (PY (T := "list") #[_,Z,1] ?_)];rw[C_ #[]]
 erw[c_ (oS Z rfl rfl rfl (by simpa using hA) λh1 t1 k1=>?_)]
 rw[C_ (show(none:Option Value).isNone=true from rfl)]
 have kp:∀b o,s.heap.get? b=some o->h1.get? b=some o:=λb o e=>k1 b o (g_ _ e)
 have a3:h1.get? s.heap.objs.size=some { cls:=.type "dict",data:=.dict #[8] }:=k1 _ _ (A_ _ rfl);have d1:s.heap.objs.size<h1.objs.size:=Hl a3;have l1:=Hl hl;have O:h1.IsList l xs:=#[_,k1 _ _ Z,1,nl,1];erw[c_ (N8 ?_)];erw[c_ (Nl O ?_)];erw[f_ #[OK bq _,AF (knd:=knd) (d:=s.heap.objs.size) (it:=h1.objs.size) (l:=l) (items:=xs) (ks:=ks) (by simpa using hA) (F9 d1) (F9 l1) (F9 (MN l1 d1)) hz _ 0 _ _ rfl (Hj _) #[_,A_ _ rfl,1,1] (O.push _) #[hp.1,λj v k r hv hk=>?_] ?_ (Hj _) λh3 t3 k3 a2=>#[1,?_]]]
 ·let#[22,a,key,ev,#[o,ho,rest],a4]:=hp.2 j v k r hv hk;have a1:=Hl ho;rwa[24,a,key,ev,#[o,g_ _ (kp _ _ ho),rest],a4,F9 a1,F9 (MN a1 d1)]
 ·let#[31,o,es,ep,ho,rest]:=U;rwa[31,o,es,ep,g_ _ (k1 _ _ ho),rest]
 ·erw[h h3 t3 a2 λb o e=>?_]
  have b1:=Hl e;rwa[k3 b o (F9 b1) (F9 (MN b1 d1)) (g_ _ (kp _ _ e))]
end
def kC(m kvs:List (Key×V)):List (Key×V):=kvs.foldl (λm p=>cj m p.1 p.2) m
theorem wB{kvs:List (Key×V)}{ks:List (Key×Value)}(r:KV kvs ks):∀{m:List (Key×V)} {n:List (Key×Value)},KV m n->KV (kC m kvs) (eY n ks):=by
 induction r with
 |nil=>intro m n h;rwa[h]
 |@cons p q ps qs hq t ih=>
  intro m n h;let#[k,v]:=p;let#[O,Z]:=q;let#[e,U]:=hq;have e:k=O:=e;subst e;rwa[ih (h.put k U)]
theorem oO:∀(kvs m:List (Key×V)),(kC m kvs).length<=m.length+kvs.length
 |[],m=>e_ _
 |p::r,m=>by
  have h1:=oO r (cj m p.1 p.2);have h2:=dH m p.1 p.2;show(kC (cj m p.1 p.2) r).length<=m.length+(r.length+1);lia
def AL:List V->Hp->VK->Prop:=λxs H Q=>∃(l:Addr) (as:List Addr) (kvs:List (Key×V)),xs=[.ref l]/\H l=some (.lst (as.map V.ref))/\Paired (λ(a:Addr) (p:Key×V)=>H a=some (.tup [kV p.1,p.2])) as kvs/\∀d,H d=none->Q (.ref d) (upd H d (.dK (kC [] kvs)))
theorem jM:∀{as:List Addr} {its:List Value},Ge (as.map V.ref) its->its=as.map Value.ref
 |[],_,h=>by cases h;rfl
 |a::as,_,h=>by
  cases h with
  |cons h1 h2=>
   cases h1;rw[jM h2]
   rfl
theorem jj{R:α->β->Prop}:∀{xs:List α} {ys:List β},Paired R xs ys->∀{i:Nat} {x:α} {y:β},xs[i]? = some x->ys[i]? = some y->R x y
 |_,_,.cons h _,0,_,_,e1,e2=>by
  cases e1;cases e2;rwa[h]
 |_,_,.cons _ t,i+1,_,_,e1,e2=>jj t (i:=i) e1 e2
theorem tL(hc:X.still):cU X (.type "dict") AL:=by
 intros xs us Q I r h;let#[33,l,as,kvs,1,hl,pa,q]:=h;let#[u,1,rx]:=eS r;cases rx;let#[0122,z,its,n,Z,O,e]:=I.lstM hl;have mk:∃ks:List (Key×Value),KV kvs ks/\Paired (λ(a:Addr) (p:Key×Value)=>∃key,s.heap.IsTuple a #[8,key,p.2]/\(aI X.prog X.w).is p.1 key=true) as ks:=by
  clear hl Z O e z q
  induction pa with
  |nil=>rwa[[],.nil,.nil]
  |@cons a p as kvs h1 h2 ih=>
   let#[ks,i1,i2]:=ih;let#[12,its,Z,ht,_]:=I.tuple (SqT.of h1);cases Z with
   |cons r1 r2=>
    cases r2 with
    |cons r2 r3=>
     cases r3;rwa[(p.1,_)::ks,.cons #[1,r2] i1,.cons #[_,ht,l7 r1] i2]
 let#[ks,k1,k2]:=mk;have ei:=jM Z;subst ei;have lk:kvs.length=ks.length:=k1.length;have la:as.length=ks.length:=Paired.length k2;rw[z_] at z;erw[kU (knd:=aI X.prog X.w) (ks:=ks) (I.hd0 hc) e #[by simp[la],λi v k r U hk=>?_] () λh' t' hD kp=>?_]
 ·rw[List.getElem?_toArray,Hx] at U;cases ea:as[i]? with
  |none=>rw[ea] at U;cases U
  |some a=>
   rw[ea] at U;cases U;let#[key,h1,h2]:=jj k2 ea hk;rwa[22,a,key,1,h1,h2]
 ·have hb:=I.big;erw[22,.ref s.heap.objs.size,_,I.laid (t':=t') (λb u e=>kp b u e) (e_ _) (uf (by have:=oO kvs [];have:([]:List (Key×V)).length=0:=rfl;lia) (Nh.mpr (Ne.symm (F9 hb))) (wB k1 .nil) hD),1,q _ (I.hok.fresh (e_ _))]
section
variable {l:Addr}
abbrev tK(prog:Program)(w:World):=tupleKind (aI prog w)
def cB(m:List (List Key×Addr×Value))(ks:List (List Key×Addr×Value)):List (List Key×Addr×Value):=ks.foldl (λm p=>storedH m p.1 p.2.1 p.2.2) m
theorem jd{ks:List Key}{a:Addr}(e:∀o,h.get? a=some o->h'.get? a=some o)(k:(tK prog w).is h ks a):(tK prog w).is h' ks a:=by
 let#[31,o,items,n,O,rest]:=k;rwa[31,o,items,n,e o O,rest]
theorem sv{m:List (List Key×Addr×Value)}{k:List Key}{a:Addr}{v:Value}{x:List Key×Addr×Value}(h:x∈storedH m k a v):(x.2.1=a)\/∃y∈m,y.1=x.1/\y.2.1=x.2.1:=by
 unfold storedH at h
 split at h
 ·let#[y,O,e]:=MO.mp h;erw[.inr #[y,O,?_]];rw[<- e];unfold putAt
  split<;>rwa[1,1]
 ·rcases Ht.mp h with z|z
  ·rwa[.inr #[x,z,1,1]]
  ·rw[D_.mp z];rwa[.inl rfl]
theorem qQ(m:List (List Key×Addr×Value))(k:List Key)(a:Addr)(v:Value):(storedH m k a v).length<=m.length+1:=by
 unfold storedH
 split
 ·rw[z_];lia
 ·rw[x_];rwa[e_ _]
theorem gm:∀{ks m:List (List Key×Addr×Value)} {x:List Key×Addr×Value},x∈cB m ks->(∃y∈ks,y.2.1=x.2.1)\/∃y∈m,y.2.1=x.2.1
 |[],_,x,h=>.inr #[x,h,1]
 |p::r,m,x,h=>by
  rcases gm (ks:=r) (m:=storedH m p.1 p.2.1 p.2.2) h with⟨y,hy,e⟩|⟨y,hy,e⟩
  ·rwa[.inl #[y,I_ _ hy,e]]
  ·rcases sv hy with z|⟨u,O,_,e2⟩
   ·rwa[.inl #[p,LN,by rw[<- e,z]]]
   ·rwa[.inr #[u,O,e2.trans e]]
def yM(prog:Program)(w:World)(h:Heap)(d it:Addr)(items:Array Value)(ks:List (List Key×Addr×Value)):Prop:=ks.length=items.size/\∀(i:Nat) (v:Value) (k:List Key×Addr×Value),items[i]? = some v->ks[i]? = some k->∃a,v=.ref a/\h.IsTuple a #[8,.ref k.2.1,k.2.2]/\(tK prog w).is h k.1 k.2.1/\a≠d/\a≠it/\k.2.1≠d/\k.2.1≠it
theorem wH(hA:A.handled=none)(hu:A.units+1<cLine)(hdi:d≠it)(hld:l≠d)(hli:l≠it)(hz:ks.length<=sizeLine):
  ∀(n i:Nat) (s:Shared) (tk:Tok),items.size-i=n->i<=items.size->s.heap.IsListIter it l i->s.heap.IsList l items->yM prog w s.heap d it items ks->s.heap.DictOfH (tK prog w) d (cB [] (ks.take i))->(cB [] (ks.take i)).length<=i->
   (∀h' t',(∀b o,b≠d->b≠it->s.heap.get? b=some o->h'.get? b=some o)->h'.DictOfH (tK prog w) d (cB [] ks)->R (.ok (.ret .none)) { s with heap:=h',toks:=t' })->
   codeAny (model prog w) A (.builtin "dict.update.loop" #[[.ref d,.ref it,.int i tk,.none],[]]) R s:=by
 intro n
 induction n with
 |zero=>
  intro i s tk hn hi a6 hl U hD b4 hR;erw[MP cT ?_];rw[Mx bq _];show wpAny _ A.in1 (pyNext (.ref it) >>= _) _ _ s;erw[c_ (wpAny_pyNext_list_end (by simpa using hA) a6 hl (by rw[NR];lia) λh' eb=>?_)]
  show wpAny _ A.in1 (Builtin.Dict.addKeywords d [] >>= _) _ _ _;erw[c_ (f_ ?_)];rw[NI (by have:=U.1;lia)] at hD
  let#[35,o,es,ep,O,hc,hd,he,a5,a']:=hD;erw[f_ (hR h' s.toks (λb ob hb a2 e=>eb b ob a2 e) #[35,o,es,ep,eb d o hdi O,hc,hd,he,λx hx=>jd (λo e=>eb _ o ?_ e) (a5 x hx),a'])]
  rcases gm hx with⟨y,hy,e⟩|⟨y,hy,_⟩
  ·let#[j,hj]:=P8 hy;have a7:j<items.size:=by have:=(y_.mp hj).1;have:=U.1;lia
   let#[16,_,_,_,_,_,_,_,e2]:=U.2 j _ y (Hz a7) hj;rw[<- e];rwa[e2]
  ·rwa[nomatch hy]
 |succ n ih=>
  intro i s tk hn hi a6 hl U hD b4 hR;erw[MP cT ?_];rw[Mx bq _];show wpAny _ A.in1 (pyNext (.ref it) >>= _) _ _ s;have a9:i<items.size:=()
  erw[c_ (Ou a6 hl (x:=items[i]) (Hz a9) λh' ad hs=>?_)]
  obtain⟨k,ek⟩:∃k,ks[i]? = some k:=#[_,ge (by have:=U.1;lia)]
  let#[16,a,ev,ht,hk,a4,a1,a8,a3]:=U.2 i _ k (Hz a9) ek;rw[ev];have ac:∀y∈cB [] (ks.take i),y.2.1≠d/\y.2.1≠it:=λx hx=>by
   rcases gm hx with⟨y,hy,e⟩|⟨y,hy,_⟩
   ·let#[j,hj]:=P8 (mem_of_mem_take hy);have a7:j<items.size:=by have:=(y_.mp hj).1;have:=U.1;lia
    let#[16,_,_,_,_,_,_,e1,e2]:=U.2 j _ y (Hz a7) hj;rw[<- e];rwa[e1,e2]
   ·rwa[nomatch hy]
  let#[1210,o,O,hc,nn,hd]:=ht;have ap:h'.get? a=some o:=(hs.2 a a1).trans O;have av:h'.DictOfH (tK prog w) d (cB [] (ks.take i)):=by
   let#[35,o,es,ep,O,hc,hd,he,a5,a']:=hD;rwa[35,o,es,ep,(hs.2 d hdi).trans O,hc,hd,he,λx hx=>jd (λo e=>(hs.2 _ (ac x hx).2).trans e) (a5 x hx),a']
  have b3:h'.IsList l items:=by
   let#[o,O,rest]:=hl;rwa[o,(hs.2 l hli).trans O,rest]
  have b2:(tK prog w).is h' k.1 k.2.1:=jd (λo e=>(hs.2 _ a3).trans e) hk
  show wpAny _ A.in1 (holding [.ref a] _ >>= _) _ _ _;erw[c_ (Ls ?_)];erw[c_ (wpAny_tryCatch ?_)];unfold Builtin.Dict.pairItems;erw[c_ (PY (T := "tuple") #[o,ap,hc] ?_)];rw[C_ #[]]
  erw[c_ (MS ap hd ?_)];erw[f_ ?_];show wpAny _ _ (holding [.ref k.2.1,k.2.2] (dictSet d (.ref k.2.1) k.2.2)) _ _ _;erw[Ls (wpAny_dictSet_heap (hsz:=by have:=U.1;lia) (show A.units+1<cLine from hu) b2 av λh2 ax Z=>?_)]
  have e1:cB [] (ks.take (i+1))=storedH (cB [] (ks.take i)) k.1 k.2.1 k.2.2:=by
   unfold cB;rw[Mw,ek,foldl_append]
   rfl
  erw[f_ #[OK bq _,ih (i+1) _ _ () a9 ?_ ?_ #[U.1,λj v k hv hk=>?_] ?_ ?_ λh3 t3 k3 ay=>?_]]
  ·let#[o,O,rest]:=ad;rwa[o,(Z.2 it hdi.symm).trans O,rest]
  ·let#[o,O,rest]:=b3;rwa[o,(Z.2 l hld).trans O,rest]
  ·let#[16,a,ev,#[o,O,rest],hk,a4,a1,a8,a3]:=U.2 j v k hv hk;rwa[a,ev,#[o,(Z.2 a a4).trans ((hs.2 a a1).trans O),rest],jd (λo e=>(Z.2 _ a8).trans ((hs.2 _ a3).trans e)) hk,a4,a1,a8,a3]
  ·rw[e1];rwa[ax]
  ·rw[e1];have:=qQ (cB [] (ks.take i)) k.1 k.2.1 k.2.2;lia
  ·rwa[hR h3 t3 (λb ob hb a2 e=>k3 b ob hb a2 ((Z.2 b hb).trans ((hs.2 b a2).trans e))) ay]
theorem jR{xs:Array Value}{sl:Array (Option Value)}(hA:A.handled=none)(hu:A.units+2<cLine)(hl:s.heap.get? l=some { cls:=.type "list",dict:=none,data:=.seq xs nl,slots:=sl })(hp:ks.length=xs.size/\∀(i:Nat) (v:Value) (k:List Key×Addr×Value),xs[i]? = some v->ks[i]? = some k->∃a,v=.ref a/\s.heap.IsTuple a #[8,.ref k.2.1,k.2.2]/\(tK prog w).is s.heap k.1 k.2.1)(hz:ks.length<=sizeLine)(h:∀h' t',h'.DictOfH (tK prog w) s.heap.objs.size (cB [] ks)->(∀b o,s.heap.get? b=some o->h'.get? b=some o)->Q (.ref s.heap.objs.size) { s with heap:=h',toks:=t' }):
  wpAny (model prog w) A (call (.type "dict") [.ref l]) Q E s:=by
 erw[callType_codes (Q₁:=λobj s₁=>obj=.ref s.heap.objs.size/\s₁={ s with heap:=s.heap.push { cls:=.type "dict",data:=.dict #[8] } }) F.kt_called_dict (F.kt_typeCall_dict_1 _) F.entry_dict_init (kt_code_dict_new _ #[1,1]) ?_]
 rintro obj s₁ ⟨rfl,rfl⟩;have a3:(s.heap.push { cls:=.type "dict",data:=.dict #[8] }).DictOfH (tK prog w) s.heap.objs.size []:=#[35,_,_,_,A_ _ rfl,#[1,1,1],1,1,(λx hx=>nomatch hx),nodup_nil]
 have U:Shared.TypeIs { s with heap:=s.heap.push { cls:=.type "dict",data:=.dict #[8] } } (.ref s.heap.objs.size) "dict":=#[_,A_ _ rfl,1]
 have Z:(s.heap.push { cls:=.type "dict",data:=.dict #[8] }).get? l=some { cls:=.type "list",dict:=none,data:=.seq xs nl,slots:=sl }:=g_ _ hl;erw[U,F.args_dict_init_2 _ _,?_];unfold Builtin.«dict.__init__»;erw[c_ ?_];unfold Builtin.Dict.selfAndRest;erw[c_ (N4 U ?_)];show wpAny _ _ (pure (s.heap.objs.size,[Value.ref l])) _ _ _;erw[f_ ?_];show wpAny _ _ (Builtin.Dict.updateFrom "dict.__init__" s.heap.objs.size (.ref l) [] .none) _ _ _;unfold Builtin.Dict.updateFrom;erw[c_ (PY (T := "list") #[_,Z,1] ?_)];rw[C_ #[]]
 erw[c_ (oS Z rfl rfl rfl (by simpa using hA) λh1 t1 k1=>?_)]
 rw[C_ (show(none:Option Value).isNone=true from rfl)]
 have kp:∀b o,s.heap.get? b=some o->h1.get? b=some o:=λb o e=>k1 b o (g_ _ e)
 have a5:h1.get? s.heap.objs.size=some { cls:=.type "dict",data:=.dict #[8] }:=k1 _ _ (A_ _ rfl);have d1:s.heap.objs.size<h1.objs.size:=Hl a5;have l1:=Hl hl;have O:h1.IsList l xs:=#[_,k1 _ _ Z,1,nl,1];erw[c_ (N8 ?_)];erw[c_ (Nl O ?_)];erw[f_ #[OK bq _,wH (d:=s.heap.objs.size) (it:=h1.objs.size) (l:=l) (items:=xs) (ks:=ks) (by simpa using hA) hu (F9 d1) (F9 l1) (F9 (MN l1 d1)) hz _ 0 _ _ rfl (Hj _) #[_,A_ _ rfl,1,1] (O.push _) #[hp.1,λj v k hv hk=>?_] ?_ (Hj _) λh3 t3 k3 a4=>#[1,?_]]]
 ·let#[12,a,ev,#[o,ho,rest],a2]:=hp.2 j v k hv hk;have a1:=Hl ho;have b1:k.2.1<s.heap.objs.size:=by
   let#[31,o,_,_,ho,_]:=a2;rwa[Hl ho]
  rwa[a,ev,#[o,g_ _ (kp _ _ ho),rest],jd (λo e=>g_ _ (kp _ _ e)) a2,F9 a1,F9 (MN a1 d1),F9 b1,F9 (MN b1 d1)]
 ·let#[35,o,es,ep,ho,hc,hd,he,a7,a6]:=a3;rwa[35,o,es,ep,g_ _ (k1 _ _ ho),hc,hd,he,(λx hx=>nomatch hx),a6]
 ·erw[h h3 t3 a4 λb o e=>?_]
  have b1:=Hl e;rwa[k3 b o (F9 b1) (F9 (MN b1 d1)) (g_ _ (kp _ _ e))]
end
def je(m kvs:List (List Key×V)):List (List Key×V):=kvs.foldl (λm p=>cj m p.1 p.2) m
theorem xL(r:KT H kvs ks):∀{m:List (List Key×V)} {n:List (List Key×Addr×Value)},KT H m n->KT H (je m kvs) (cB n ks):=by
 induction r with
 |nil=>intro m n h;rwa[h]
 |@cons p q ps qs hq t ih=>
  intro m n h;let#[k,v]:=p;let#[U,b,v']:=q;let#[e,O,Z]:=hq;have e:k=U:=e;subst e;rwa[ih (h.put k O Z)]
theorem o9:∀(kvs m:List (List Key×V)),(je m kvs).length<=m.length+kvs.length
 |[],m=>e_ _
 |p::r,m=>by
  have h1:=o9 r (cj m p.1 p.2);have h2:=dH m p.1 p.2;show(je (cj m p.1 p.2) r).length<=m.length+(r.length+1);lia
def AK:List V->Hp->VK->Prop:=λxs H Q=>∃(l:Addr) (as:List Addr) (kvs:List (List Key×V)),xs=[.ref l]/\H l=some (.lst (as.map V.ref))/\Paired (λ(a:Addr) (p:List Key×V)=>∃b,H a=some (.tup [.ref b,p.2])/\H b=some (.tup (p.1.map kV))) as kvs/\∀d,H d=none->Q (.ref d) (upd H d (.dT (je [] kvs)))
theorem uv(hc:X.still)(hu:X.A.units+2<cLine):cU X (.type "dict") AK:=by
 intros xs us Q I r h;let#[33,l,as,kvs,1,hl,pa,q]:=h;let#[u,1,rx]:=eS r;cases rx;let#[0122,z,its,n,rv,O,e]:=I.lstM hl;have mk:∃ks:List (List Key×Addr×Value),KT H kvs ks/\Paired (λ(a:Addr) (p:List Key×Addr×Value)=>s.heap.IsTuple a #[8,.ref p.2.1,p.2.2]/\(tK X.prog X.w).is s.heap p.1 p.2.1) as ks:=by
  clear hl rv O e z q
  induction pa with
  |nil=>rwa[[],.nil,.nil]
  |@cons a p as kvs h1 h2 ih=>
   let#[ks,i1,i2]:=ih;let#[b,h1,Z]:=h1;let#[12,its,rv,ht,_]:=I.tuple (SqT.of h1);cases rv with
   |cons r1 r2=>
    cases r2 with
    |cons r2 r3=>
     cases r3;cases r1;rwa[(p.1,b,_)::ks,.cons #[1,Z,r2] i1,.cons #[ht,jP I.hok Z] i2]
 let#[ks,k1,k2]:=mk;have ei:=jM rv;subst ei;have lk:kvs.length=ks.length:=Paired.length k1;have la:as.length=ks.length:=Paired.length k2;rw[z_] at z;erw[jR (ks:=ks) (I.hd0 hc) hu e #[by simp[la],λi v k U hk=>?_] () λh' t' hD kp=>?_]
 ·rw[List.getElem?_toArray,Hx] at U;cases ea:as[i]? with
  |none=>rw[ea] at U;cases U
  |some a=>
   rw[ea] at U;cases U;let#[h1,h2]:=jj k2 ea hk;rwa[a,1,h1,h2]
 ·have Z:=I.big;let#[35,o,es,ep,ho,x1,x2,x3,x4,x5]:=hD;have fr:=I.hok.fresh (e_ _);erw[22,.ref s.heap.objs.size,_,I.laid (t':=t') (o:=.dT (je [] kvs)) (λb u e=>kp b u e) (e_ _) #[0274,by have:=o9 kvs [];have:([]:List (List Key×V)).length=0:=rfl;lia,Nh.mpr (Ne.symm (F9 Z)),_,(xL k1 .nil).keeps λc ys ec=>?_,o,es,ep,ho,x1,x2,x3,x5],1,q _ fr]
  rw[ak (λz=>by rw[z,fr] at ec;cases ec)]
  rwa[ec]
theorem B6{k:Key}(h:(aI P w).is k u=true):Gf (kV k) u:=by
 rw[uD] at h
 rcases bn h with⟨i,t,rfl,rfl⟩|⟨x,t,rfl,rfl⟩
 ·rwa[0]
 ·rwa[0]
theorem uZ{kvs:List (Key×V)}{es:List DictEntry}(r:KV kvs vs)(p:Pairs (aI P w) es vs):
  Ge (kvs.map λq=>kV q.1) (es.map (·.key))/\Ge (kvs.map (·.2)) (es.map (·.val)):=by
 induction r generalizing es with
 |nil=>cases p;rwa[.nil,.nil]
 |@cons a b as bs h t ih=>
  cases p with
  |cons h1 h2 h3=>
   let#[i1,i2]:=ih h3;erw[.cons ?_ i1,.cons ?_ i2]
   ·show Gf (kV a.1) _;rw[h.1];rwa[B6 h1]
   ·show Gf a.2 (DictEntry.val _);rw[h2];rwa[h.2]
def uX:V->List V->Hp->VK->Prop:=λx vs H Q=>∃d kvs,x=.ref d/\vs=[]/\H d=some (.dK kvs)/\∀v,H v=none->Q (.ref v) (upd H v (cV v d))
theorem wK:MtR X "dict.items" uX:=by
 intros x xs v us Q I rx Z h;let#[23,d,kvs,1,1,hd,q]:=h;cases rx;cases Z;let#[0273,hz,hm,vs,U,o,es,ep,h1,h2,O,h4]:=id (show Gg X.prog X.w H s.heap d (.dK kvs) from I.hok d _ hd)
 erw[jO hm #[o,h1,h2,O] ?_];have gV:(s.heap.push { cls:=.type "dict_items",data:=.fields #[8,.ref d] }).get? s.heap.objs.size=some { cls:=.type "dict_items",data:=.fields #[8,.ref d] }:=A_ _ rfl;erw[22,.ref s.heap.objs.size,_,I.laid (t':=s.toks) (λb o e=>g_ _ e) (e_ _) ?_,1,q _ (I.hok.fresh (e_ _))]
 rwa[#[_,gV,1,1],#[_,gV],λk1 k2 ⟨o,e,c⟩ k=>#[o,k o e,c]]
def uW(tl:TE):TI:=λσ H R=>tl σ H λx H1=>∃v d kvs,x=.ref v/\H1 v=some (cV v d)/\H1 d=some (.dK kvs)/\∀o,R (Iti d o (.dK kvs) (kvs.map λp=>(kV p.1,p.2))) (upd H1 d (.frz o (.dK kvs)))
theorem xq(hl:PE X l tl)(hq:X.base.life={}:=by first|assumption|exact(‹Quiet _›).q):PI X (.Tuple tes tk tp) l (uW tl):=by
 intros R I h;erw[thn (hl pins s σ H _ I h) λv s1 ⟨x,H1,I1,r1,q1⟩=>?_]
 let#[33,Z,d,kvs,e,hv,hd,q]:=q1;subst e;cases r1;let#[0275,hz,hm,vs,U,o,es,ep,h1,h2,h3,h4,h5,h6]:=id (show Gg X.prog X.w H1 s1.heap d (.dK kvs) from I1.hok d _ hd)
 let#[k2,k3]:=uZ U h5;have O:s1.heap.IsItemsView Z d:=(show Gg X.prog X.w H1 s1.heap Z (cV Z d) from I1.hok Z _ hv).1
 have I2:Inv X pins σ (upd H1 d (.frz o (.dK kvs))) { s1 with heap:=s1.heap,toks:=s1.toks }:=I1.write (x:=d) (e:=d) (by rw[hd];rwa[trivial]) (.inl rfl) (λ_ _ _ z=>z) #[_,h1] #[0375,h1,hz,hm,vs,U,o,es,ep,h1,h2,h3,h4,h5,h6]
 erw[j9 O #[o,h1,h2,h3] ?_];erw[4015,s1.heap.objs.size,[s1.heap.objs.size],_,_,0,I2.kept (t':=s1.toks) λb o e=>g_ _ e,iV (u:=.dK kvs) h2 h3 (kv:=kvs.map λp=>(kV p.1,p.2)) (by rw[Oo];rwa[k2]) (by rw[Oo];rwa[k3]) hq,#[20,_,_,A_ _ rfl],λb hb=>?_,q o]
 have e:b=s1.heap.objs.size:=by simpa using hb
 subst e;rwa[I2.fpOk (e_ _) (I2.hok.fresh (e_ _))]
theorem lQ{o:Expr}{to:TE}(K:Frag)(hK:X.K=K)(ho:PE X o to)(hbase:attributeBase o "items" X.env (eval o X.env)=eval o X.env:=by rfl)(hline:(apos.endLine==cpos.line)=true:=by rfl)(hq:X.base.life={}:=by first|assumption|exact(‹Quiet _›).q):
  PI X (.Tuple tes tk tp) (.Call (.Attribute o "items" apos) [] [] cpos) (uW (FM K "dict" uX to)):=by
 subst hK;rwa[xq (Em PySem.F.plainAttrs_dict PySem.F.slot_dict_items PySem.F.type_dict_items wK ho hbase hline)]
def tFrz(te:TE):TE:=λσ H Q=>te σ H λx H1=>∃d kvs,x=.ref d/\H1 d=some (.dK kvs)/\∀o,Q x (upd H1 d (.frz o (.dK kvs)))
theorem mY(h:PE X e te):PE X e (tFrz te):=by
 intros Q I hq;erw[thn (h pins s σ H _ I hq) λv s1 ⟨x,H1,U,r1,d,kvs,e,hd,q⟩=>?_]
 let#[0275,hz,hm,vs,O,o,es,ep,h1,h2,h3,h4,h5,h6]:=id (show Gg X.prog X.w H1 s1.heap d (.dK kvs) from U.hok d _ hd)
 have Z:Inv X pins σ (upd H1 d (.frz o (.dK kvs))) { s1 with heap:=s1.heap,toks:=s1.toks }:=U.write (x:=d) (e:=d) (by rw[hd];rwa[trivial]) (.inl rfl) (λ_ _ _ z=>z) #[_,h1] #[0375,h1,hz,hm,vs,O,o,es,ep,h1,h2,h3,h4,h5,h6]
 rwa[22,x,_,Z,r1,q o]
def Fk(te:TE):TE:=λσ H Q=>te σ H λx H1=>∃d kvs,x=.ref d/\H1 d=some (.dT kvs)/\∀o,Q x (upd H1 d (.frz o (.dT kvs)))
theorem vO(h:PE X e te):PE X e (Fk te):=by
 intros Q I hq;erw[thn (h pins s σ H _ I hq) λv s1 ⟨x,H1,U,r1,d,kvs,e,hd,q⟩=>?_]
 let#[0274,hz,hm,O,kt,o,es,ep,h1,h2,h3,h4,h5]:=id (show Gg X.prog X.w H1 s1.heap d (.dT kvs) from U.hok d _ hd)
 have I2:Inv X pins σ (upd H1 d (.frz o (.dT kvs))) { s1 with heap:=s1.heap,toks:=s1.toks }:=U.write (x:=d) (e:=d) (by rw[hd];rwa[trivial]) (.inl rfl) (λ_ _ _ z=>z) #[_,h1] #[0374,h1,hz,hm,O,KT.keeps (H:=H1) kt λc ys Z=>by rw[ak (bD Z hd #[3])];rwa[Z],o,es,ep,h1,h2,h3,h4,h5]
 rwa[22,x,_,I2,r1,q o]
def vM:V->List V->Hp->VK->Prop:=λx vs H Q=>∃d o kvs,x=.ref d/\vs=[]/\H d=some (.frz o (.dK kvs))/\∀v,H v=none->Q (.ref v) (upd H v (cV v d))
theorem wk:MtR X "dict.items" vM:=by
 intros x xs v us Q I rx rv h;let#[33,d,U,kvs,1,1,hd,q]:=h;cases rx;cases rv;let#[0373,_,hz,hm,vs,Z,o,es,ep,h1,h2,O,h4]:=id (show Gg X.prog X.w H s.heap d (.frz U (.dK kvs)) from I.hok d _ hd)
 erw[jO hm #[o,h1,h2,O] ?_];have gV:(s.heap.push { cls:=.type "dict_items",data:=.fields #[8,.ref d] }).get? s.heap.objs.size=some { cls:=.type "dict_items",data:=.fields #[8,.ref d] }:=A_ _ rfl;erw[22,.ref s.heap.objs.size,_,I.laid (t':=s.toks) (λb o e=>g_ _ e) (e_ _) ?_,1,q _ (I.hok.fresh (e_ _))]
 rwa[#[_,gV,1,1],#[_,gV],λk1 k2 ⟨o,e,c⟩ k=>#[o,k o e,c]]
def uR(tl:TE):TI:=λσ H R=>tl σ H λx H1=>∃v d o kvs,x=.ref v/\H1 v=some (cV v d)/\H1 d=some (.frz o (.dK kvs))/\R (Iti d o (.dK kvs) (kvs.map λp=>(kV p.1,p.2))) H1
theorem xf(hl:PE X l tl)(hq:X.base.life={}:=by first|assumption|exact(‹Quiet _›).q):PI X (.Tuple tes tk tp) l (uR tl):=by
 intros R I h;erw[thn (hl pins s σ H _ I h) λv s1 ⟨x,H1,U,r1,q1⟩=>?_]
 let#[43,Z,d,o,kvs,e,hv,hd,q]:=q1;subst e;cases r1;let#[0375,h0,hz,hm,vs,a1,o',es,ep,h1,h2,h3,h4,h5,h6]:=id (show Gg X.prog X.w H1 s1.heap d (.frz o (.dK kvs)) from U.hok d _ hd)
 have eo:o'=o:=by rw[h0] at h1;cases h1;rfl
 subst eo;let#[k2,k3]:=uZ a1 h5;have O:s1.heap.IsItemsView Z d:=(show Gg X.prog X.w H1 s1.heap Z (cV Z d) from U.hok Z _ hv).1
 erw[j9 O #[_,h1,h2,h3] ?_];erw[4015,s1.heap.objs.size,[s1.heap.objs.size],_,_,0,U.kept (t':=s1.toks) λb o e=>g_ _ e,iV (u:=.dK kvs) h2 h3 (kv:=kvs.map λp=>(kV p.1,p.2)) (by rw[Oo];rwa[k2]) (by rw[Oo];rwa[k3]) hq,#[20,_,_,A_ _ rfl],λb hb=>?_,q]
 have e:b=s1.heap.objs.size:=by simpa using hb
 subst e;rwa[U.fpOk (e_ _) (U.hok.fresh (e_ _))]
def A8(v d:Addr):HO:=.ext λh=>h.IsValuesView v d
def Itv(d:Addr)(o:Obj)(u:HO)(vs:List V):It:=#[λi H=>H d=some (.frz o u)/\i<vs.length,λi H x H'=>H'=H/\vs[i]? = some x,λi H=>H d=some (.frz o u)/\vs.length<=i]
theorem sN{o:Obj}{kvs:List (Key×V)}{es:Array DictEntry}(rel:KV kvs vs)(h2:o.ExactDict)(h3:o.data=.dict es ep)(h4:KeysOf (aI P w) es)(h5:Pairs (aI P w) es.toList vs)(h6:(vs.map (·.1)).Nodup)(hL0:L={}):
  my P w K L tg (Itv d o (.dK kvs) (kvs.map (·.2))) [it] it (λi h=>h.IsValIter it d i vs.length ep) where
 mem:=by simp
 obj:=λi h st b O=>by
  have e:b=it:=by simpa using O
  subst e;let#[12,o,e,c,d]:=st;rwa[o,e,λv z=>by rw[d] at z;cases z]
 keep:=λi h h' st k=>by
  let#[12,o,e,c,d]:=st;rwa[o,k it (by simp) o e,c,d]
 item:=by
  intro X hP hw hK hL hc i pins s σ H E I hf st hg;subst hP hw hK;let#[hD,hi]:=(show H d=some (.frz o (.dK kvs))/\i<(kvs.map (·.2)).length from hg)
  rw[z_] at hi;have ho:s.heap.get? d=some o:=(show Gg X.prog X.w H s.heap d (.frz o (.dK kvs)) from I.hok d _ hD).1
  have hA:s.heap.DictAt (aI X.prog X.w) d vs ep:=#[25,o,es,ho,h2,h3,h4,h5,h6];obtain⟨⟨k,y⟩,U⟩:∃q,kvs[i]? = some q:=#[_,ge hi]
  obtain⟨⟨k',u⟩,hu⟩:∃q,vs[i]? = some q:=#[_,ge (by have:=rel.length;lia)]
  have ru:Gf y u:=(jj rel U hu).2;let#[05,f0,f1,f2,f3,f4,f5]:=hf it (by simp)
  erw[wpAny_pyNext_values_item st hA hu λh' Z sb=>?_]
  have I1:Inv X pins σ H { s with heap:=h' }:=I.turned (t':=s.toks) (λb o O e=>(sb.2 b O).trans e) f0 f1 f3 f4 f5
  let#[12,o',e,c,dd]:=id Z;rwa[u,1,oi (s:={ s with heap:=h' }) e c dd #[] #[24,y,H,I1,ru,#[1,by rw[Hx,U];rfl],Z,λb O=>(hf b O).1]]
 done:=by
  intro X hP hw hK hL hc i pins s σ H E I hf st hg;subst hP hw hK;let#[hD,hi]:=(show H d=some (.frz o (.dK kvs))/\(kvs.map (·.2)).length<=i from hg)
  rw[z_] at hi;have ho:s.heap.get? d=some o:=(show Gg X.prog X.w H s.heap d (.frz o (.dK kvs)) from I.hok d _ hD).1
  have hA:s.heap.DictAt (aI X.prog X.w) d vs ep:=#[25,o,es,ho,h2,h3,h4,h5,h6];let#[05,f0,f1,f2,f3,f4,f5]:=hf it (by simp)
  rwa[wpAny_pyNext_values_end (I.hd0 #[hc,hL.trans hL0]) st hA (getElem?_eq_none (by have:=rel.length;lia)) λh' eb=>#[1,I.turned (t':=s.toks) (λb o O e=>eb b o O e) f0 f1 f3 f4 f5]]
 self:=λ_ _ _ _ _ st h=>wpAny_pyIter_valiter st h
theorem tE{es:Array DictEntry}(hd:(d==sysModules)=false)(hm:DRaw d es ep s.heap)(hQ:Q (.ref s.heap.objs.size) { s with heap:=s.heap.push { cls:=.type "dict_values",data:=.fields #[8,.ref d] } }):wpAny (model prog w) A (call (.builtin "dict.values") [.ref d]) Q E s:=by
 have O:=hm.typeIs;erw[Lv F.slot_dict_values O F.entry_dict_values ?_ (F.args_dict_values_1 _)];erw[c_ ?_];unfold Builtin.Dict.noArgs;erw[c_ (N4 O ?_)];show wpAny _ _ (pure d) _ _ s;erw[f_ ?_];show wpAny _ _ (Builtin.Dict.showsAll d >>= _) _ _ s;unfold Builtin.Dict.showsAll;rw[w_ (by rw[hd];rwa[G_])]
 erw[c_ (f_ ?_)];rwa[c_ (HI (f_ #[0,hQ]))]
def sk:V->List V->Hp->VK->Prop:=λx vs H Q=>∃d o kvs,x=.ref d/\vs=[]/\H d=some (.frz o (.dK kvs))/\∀v,H v=none->Q (.ref v) (upd H v (A8 v d))
theorem ur:MtR X "dict.values" sk:=by
 intros x xs v us Q I rx rv h;let#[33,d,U,kvs,1,1,hd,q]:=h;cases rx;cases rv;let#[0373,_,hz,hm,vs,Z,o,es,ep,h1,h2,O,h4]:=id (show Gg X.prog X.w H s.heap d (.frz U (.dK kvs)) from I.hok d _ hd)
 erw[tE hm #[o,h1,h2,O] ?_];have gV:(s.heap.push { cls:=.type "dict_values",data:=.fields #[8,.ref d] }).get? s.heap.objs.size=some { cls:=.type "dict_values",data:=.fields #[8,.ref d] }:=A_ _ rfl;erw[22,.ref s.heap.objs.size,_,I.laid (t':=s.toks) (λb o e=>g_ _ e) (e_ _) ?_,1,q _ (I.hok.fresh (e_ _))]
 rwa[#[_,gV,1,1],#[_,gV],λk1 k2 ⟨o,e,c⟩ k=>#[o,k o e,c]]
def rC(tl:TE):TI:=λσ H R=>tl σ H λx H1=>∃v d o kvs,x=.ref v/\H1 v=some (A8 v d)/\H1 d=some (.frz o (.dK kvs))/\R (Itv d o (.dK kvs) (kvs.map (·.2))) H1
theorem tF(hl:PE X l tl)(hq:X.base.life={}:=by first|assumption|exact(‹Quiet _›).q):PI X tg l (rC tl):=by
 intros R I h;erw[thn (hl pins s σ H _ I h) λv s1 ⟨x,H1,U,r1,q1⟩=>?_]
 let#[43,Z,d,o,kvs,e,hv,hd,q]:=q1;subst e;cases r1;let#[0375,h0,hz,hm,vs,a1,o',es,ep,h1,h2,h3,h4,h5,h6]:=id (show Gg X.prog X.w H1 s1.heap d (.frz o (.dK kvs)) from U.hok d _ hd)
 have eo:o'=o:=by rw[h0] at h1;cases h1;rfl
 subst eo;have O:s1.heap.IsValuesView Z d:=(show Gg X.prog X.w H1 s1.heap Z (A8 Z d) from U.hok Z _ hv).1
 erw[wpAny_pyIter_values (knd:=aI X.prog X.w) (kvs:=vs) (ep:=ep) O #[25,_,es,h1,h2,h3,h4,h5,h6] ?_];erw[4015,s1.heap.objs.size,[s1.heap.objs.size],_,_,0,U.kept (t':=s1.toks) λb o e=>g_ _ e,sN a1 h2 h3 h4 h5 h6 hq,#[_,A_ _ rfl,1,1],λb hb=>?_,q]
 have e:b=s1.heap.objs.size:=by simpa using hb
 subst e;rwa[U.fpOk (e_ _) (U.hok.fresh (e_ _))]
theorem lN:bootBuiltins "dict"=some (.type "dict"):=#[5]
theorem j6{p:Pos}(nd:X.mg "dict" = none)(ha:PE X e te)(hc:X.still:=by rwa[1,by first|assumption|exact(‹Quiet _›).q])(hg:Gl X "dict":=by rfl)(hs:starEach [e] X.env=[(false,eval e X.env)]:=by rfl):PE X (.Call (.Name "dict" p) [e] [] pos) (tCB AL (ci te cQ)):=
 cZ (tL hc) hg nd lN (aa ha ag hs) #[] #[] hs
theorem oM{p:Pos}(nd:X.mg "dict" = none)(hu:X.A.units+2<cLine)(ha:PE X e te)(hc:X.still:=by rwa[1,by first|assumption|exact(‹Quiet _›).q])(hg:Gl X "dict":=by rfl)(hs:starEach [e] X.env=[(false,eval e X.env)]:=by rfl):PE X (.Call (.Name "dict" p) [e] [] pos) (tCB AK (ci te cQ)):=
 cZ (uv hc hu) hg nd lN (aa ha ag hs) #[] #[] hs
def qD:V->List V->Hp->VK->Prop:=λx vs H Q=>∃d o kvs,x=.ref d/\vs=[]/\H d=some (.frz o (.dT kvs))/\∀v,H v=none->Q (.ref v) (upd H v (cV v d))
theorem tU:MtR X "dict.items" qD:=by
 intros x xs v us Q I rx rv h;let#[33,d,Z,kvs,1,1,hd,q]:=h;cases rx;cases rv;let#[0374,_,hz,hm,O,kt,o,es,ep,h1,h2,U,h4,h5]:=id (show Gg X.prog X.w H s.heap d (.frz Z (.dT kvs)) from I.hok d _ hd)
 erw[jO hm #[o,h1,h2,U] ?_];have gV:(s.heap.push { cls:=.type "dict_items",data:=.fields #[8,.ref d] }).get? s.heap.objs.size=some { cls:=.type "dict_items",data:=.fields #[8,.ref d] }:=A_ _ rfl;erw[22,.ref s.heap.objs.size,_,I.laid (t':=s.toks) (λb o e=>g_ _ e) (e_ _) ?_,1,q _ (I.hok.fresh (e_ _))]
 rwa[#[_,gV,1,1],#[_,gV],λk1 k2 ⟨o,e,c⟩ k=>#[o,k o e,c]]
def qY(tl:TE):TI:=λσ H R=>tl σ H λx H1=>∃v d o kvs,x=.ref v/\H1 v=some (cV v d)/\H1 d=some (.frz o (.dT kvs))/\∀as,Paired (λ(p:List Key×V) (a:Addr)=>H1 a=some (.tup (p.1.map kV))) kvs as->R (Iti d o (.dT kvs) ((as.map V.ref).zip (kvs.map (·.2)))) H1
theorem t9(hl:PE X l tl)(hq:X.base.life={}:=by first|assumption|exact(‹Quiet _›).q):PI X (.Tuple tes tk tp) l (qY tl):=by
 intros R I h;erw[thn (hl pins s σ H _ I h) λv s1 ⟨x,H1,U,r1,q1⟩=>?_]
 let#[43,vw,d,o,kvs,e,hv,hd,q]:=q1;subst e;cases r1;let#[0374,h0,hz,hm,Z,kt,o',es,ep,h1,h2,h3,h4,h5]:=id (show Gg X.prog X.w H1 s1.heap d (.frz o (.dT kvs)) from U.hok d _ hd)
 have eo:o'=o:=by rw[h0] at h1;cases h1;rfl
 subst eo;let#[k1,k2]:=oR (P:=X.prog) (w:=X.w) kt;have k3:=xA (P:=X.prog) (w:=X.w) kt;have O:s1.heap.IsItemsView vw d:=(show Gg X.prog X.w H1 s1.heap vw (cV vw d) from U.hok vw _ hv).1
 rw[<- h4] at k2 k3;have len:((Z.map (·.2.1)).map V.ref).length=(kvs.map (·.2)).length:=by
  have:=Paired.length kt;simp only[z_];lia
 erw[j9 O #[_,h1,h2,h3] ?_];erw[4015,s1.heap.objs.size,[s1.heap.objs.size],_,_,0,U.kept (t':=s1.toks) λb o e=>g_ _ e,iV (u:=.dT kvs) h2 h3 (kv:=((Z.map (·.2.1)).map V.ref).zip (kvs.map (·.2))) (by rw[List.map_fst_zip (PU len)];rwa[k2]) (by rw[List.map_snd_zip (PU len.symm)];rwa[k3]) hq,#[20,_,_,A_ _ rfl],λb hb=>?_,q _ k1]
 have e:b=s1.heap.objs.size:=by simpa using hb
 subst e;rwa[U.fpOk (e_ _) (U.hok.fresh (e_ _))]
section
def Fx(i j:Int):Prop:=0<=j/\(Builtin.Int.intBits i:Int)+j<=2^27
theorem v9:OpR X (binaryOp .LShift) (rI Fx λi j=>.int (i*2^j.toNat)):=opI λ_ _ _ _ _ _ _ O q=>lshift_int O.1 O.2 q
theorem yu{i j:Int}{k:Nat}(h0:0<=j)(h1:j<=1000)(h:i.natAbs<2^k)(hk:k<=10000):Fx i j:=by
 erw[h0,?_];have e:Builtin.Int.intBits i<=k:=by
  unfold Builtin.Int.intBits
  split
  ·rwa[Hj _]
  ·rename_i z;have:=Nat.log2_lt (n:=i.natAbs) (k:=k) (by intro y;simp_all)
   have:=this.mpr h;lia
 have:(2:Int)^27=134217728:=#[]
 lia
end
def Dn(lo:Int)(n:Nat):It:=#[λi _=>i<n,λi H x H'=>H'=H/\x=.int (lo-i),λi _=>n<=i]
theorem qU(it:Addr)(lo:Int)(n:Nat)(hL0:L={}):my P w K L tg (Dn lo n) [it] it (λi h=>IsRangeIter h it (lo+(i:Nat)*(-1)) ((n:Int)-(i:Nat)) (-1)) where
 mem:=by simp
 obj:=λi h st b O=>by
  have e:b=it:=by simpa using O
  subst e;rwa[_,st,λv z=>by
   have z':Data.fields _=Data.cell v:=z;cases z']
 keep:=λi h h' st k=>k it (by simp) _ st
 item:=by
  intro X hP hw hK hL hc i pins s σ H E I Z st hg;subst hP hw hK;let#[05,f0,f1,f2,f3,f4,f5]:=Z it (by simp)
  have W:=Walks.range (prog:=X.prog) (w:=X.w) (I.hd0 #[hc,hL.trans hL0]) it lo (-1) n;erw[W.item i s _ _ hg st λv h' tk hv U kk=>?_]
  let#[t,1]:=hv;have I1:Inv X pins σ H { s with heap:=h',toks:=tk }:=I.turned (λb o O e=>kk b o (by simpa using O) e) f0 f1 f3 f4 f5
  erw[0,oi (s:={ s with heap:=h',toks:=tk }) (n := "range_iterator") U rfl rfl #[] #[24,.int (lo-i),H,I1,#[t,?_],#[1,1],U,λb O=>(Z b O).1]]
  rw[show lo+(i:Int)*(-1)=lo-i by lia]
 done:=by
  intro X hP hw hK hL hc i pins s σ H E I Z st hg;subst hP hw hK;let#[05,f0,f1,f2,f3,f4,f5]:=Z it (by simp)
  rwa[wpAny_pyNext_range_end (I.hd0 #[hc,hL.trans hL0]) st (by have:n<=i:=hg;lia) λh' eb=>#[1,I.turned (t':=s.toks) (λb o O e=>eb b o O e) f0 f1 f3 f4 f5]]
 self:=λ_ _ _ _ _ st h=>wpAny_pyIter_rangeiter st h
section
theorem xm{R:It->Hp->Prop}{lo hi:Int}{t u v:Tok}(hq:X.base.life={})(I:#[7,7])(h1:-(2^62)<=lo)(h2:lo<2^62)(h3:-(2^62)<=hi)(h4:hi<2^62)(q:R (Dn lo (lo-hi).toNat) H):wpAny #[7] X.A (pyIter (.ref s.heap.objs.size)) (PIE X pins σ tg R) E { s with heap:=s.heap.push { cls:=.type "range",data:=.fields #[8,.int lo t,.int hi u,.int (-1) v] },toks:=tk }:=by
 erw[wpAny_pyIter_range (IsRange.new ..) (PySem.W.small_down h1 h2 h3 h4) ?_];have O:Inv X pins σ H { s with heap:=s.heap.push { cls:=.type "range",data:=.fields #[8,.int lo t,.int hi u,.int (-1) v] },toks:=tk }:=I.kept λb o e=>g_ _ e
 erw[4015,(s.heap.push { cls:=.type "range",data:=.fields #[8,.int lo t,.int hi u,.int (-1) v] }).objs.size,[(s.heap.push { cls:=.type "range",data:=.fields #[8,.int lo t,.int hi u,.int (-1) v] }).objs.size],_,_,H,1,
  O.kept (t':=tk) λb o e=>g_ _ e,qU _ lo (lo-hi).toNat hq,?_,λb Z=>?_,q]
 ·have U:lo+((0:Nat):Int)*(-1)=lo:=by simp
  have e2:(((lo-hi).toNat:Nat):Int)-((0:Nat):Int)=Builtin.Range.rangeSize lo hi (-1):=by rw[PySem.W.rangeSize_down];split<;>lia
  show IsRangeIter _ _ (lo+((0:Nat):Int)*(-1)) ((((lo-hi).toNat:Nat):Int)-((0:Nat):Int)) (-1);rw[U,e2];rwa[A_ _ rfl]
 ·have e:b=(s.heap.push { cls:=.type "range",data:=.fields #[8,.int lo t,.int hi u,.int (-1) v] }).objs.size:=by simpa using Z
  subst e;rwa[O.fpOk (e_ _) (O.hok.fresh (e_ _))]
def FA(ta:TA):TI:=λσ H R=>ta σ H λvs H1=>∃i j:Int,vs=[.int i,.int j,.int (-1)]/\(-1000000<=i/\i<1000000/\-1000000<=j/\j<1000000)/\R (Dn i (i-j).toNat) H1
theorem wx{a b c:Expr}{ta:TA}{p:Pos}(hg:Gl X "range")(hm:X.mg "range" = none)(ha:PA X [a,b,c] ta)(hs:starEach [a,b,c] X.env=[(false,eval a X.env),(false,eval b X.env),(false,eval c X.env)]:=by rfl)(hs2:starEach [b,c] X.env=[(false,eval b X.env),(false,eval c X.env)]:=by rfl)(hq:X.base.life={}:=by first|assumption|exact(‹Quiet _›).q):
  PI X tg (.Call (.Name "range" p) [a,b,c] [] pos) (FA ta):=by
 intros R I h;erw[Call_ (eB I hg hm boot_range (Mt (thn (ha pos pins s σ H _ I h) λus s1 ⟨vs,H1,U,Z,O⟩=>?_) (by rw[hs,hs2]) (by rw[hs2];rfl)))]
 let#[22,i,j,e,#[O,q2,q3,q4],q]:=O;subst e;cases Z with
 |cons r rr=>
  cases rr with
  |cons r' rr=>
   cases rr with
   |cons r'' rr=>
    cases rr;let#[t,1]:=r;let#[t',1]:=r';let#[a1,1]:=r'';rwa[call_range_3 #[] (xm hq U () () () () q) (Or.inl (PyProof.noPylong_small ()))]
end
theorem nG(a b:Addr)(es:Array DictEntry)(ep ep2:Nat)(ha:(a==sysModules)=false)(hb:(b==sysModules)=false):
  Meets (Builtin.«dict.__ne__» #[[.ref a,.ref b],[]])
   (λ_ R s=>DRaw a es ep s.heap/\DRaw b #[8] ep2 s.heap/\R (.ok (.ret (.bool (decide (es.size≠0))))) s):=
 .of_wp λprog w A R s h=>by
  let#[h1,h2,h]:=h;have hT:=h1.typeIs;have U:=h2.typeIs;let#[12,oa,ga,xa,Z]:=id h1;let#[12,ob,gb,xb,db]:=id h2;show wpAny _ _ (Builtin.Dict.dictSlotArgs "__ne__" #[[.ref a,.ref b],[]] >>= _) _ _ s;unfold Builtin.Dict.dictSlotArgs;erw[c_ (c_ (N4 hT ?_))];erw[c_ (M7 (a:=(Value.ref a,[Value.ref b])) rfl ?_)];dsimp only;erw[f_ ?_];dsimp only;erw[c_ (N6 (T := "dict") (b:=true) U (by rw[isSubtype_type];kernel_rfl) ?_)]
  simp only[Bool.not_true,M8,OP];erw[c_ (f_ ?_)];erw[c_ (f_ ?_)];erw[c_ ?_];unfold Builtin.Dict.samePairs;unfold Builtin.Dict.showsAll;rw[w_ (by rw[ha];rwa[G_]),w_ (by rw[hb];rwa[G_])]
  erw[c_ (f_ ?_)];erw[c_ (f_ ?_)];erw[c_ (Pc ga Z ?_)];erw[c_ (Pc gb db ?_)]
  by_cases O:es.size=0
  ·rw[O];rw[w_ (show ¬((0 != (#[8]:Array DictEntry).size)=true) from G_)]
   erw[c_ (wpAny_dictEpoch ga Z ?_)];erw[c_ (M7 (a:=((none:Option Bool),⟨⟩)) (by simp) ?_)]
   erw[f_ (f_ #[0,?_])];rw[O] at h;rwa[h]
  ·rw[C_ (by simpa using O)]
   erw[c_ (N8 (f_ (f_ #[0,?_])))];rw[q_ O] at h;rwa[h]
def FU:R2:=λx y H Q=>∃(a b:Addr) (kvs:List (List Key×V)),x=.ref a/\y=.ref b/\Rd H a (.dT kvs)/\Rd H b (.dK [])/\Q (.bl (decide (kvs≠[]))) H
theorem Bj(hu:X.A.units+64<cLine):OpR X (compareOp .NotEq) FU:=by
 intros x y v u Q I rx ry h;let#[34,a,b,kvs,1,1,ha,hb,q]:=h;cases (show v=Value.ref a from rx)
 cases (show u=Value.ref b from ry)
 let#[0274,hz,hm,a6,kt,o,es,ep,h1,h2,h3,h4,h5]:=id (show Gg X.prog X.w H s.heap a (.dT kvs) from ha.ok I.hok)
 let#[0275,a9,a4,a',a5,o',O,a3,U,Z,a1,a7,a2,a8]:=id (show Gg X.prog X.w H s.heap b (.dK []) from hb.ok I.hok)
 cases a5;obtain rfl:O = #[8]:=by
  apply Array.toList_inj.mp;cases he:O.toList with
  |nil=>rfl
  |cons a l=>rw[he] at a2;cases a2
 have hsz:es.size=kvs.length:=by rw[<- Md,h4,z_,<- Paired.length kt]
 have e:decide (es.size≠0)=decide (kvs≠[]):=OM.mpr #[λz e=>z (by rw[hsz,e];rfl),λz e=>z (eq_nil_of_length_eq_zero (by rw[<- hsz];rwa[e]))]
 erw[richCompare_meets_room (op:=.NotEq) (DRaw.typeIs #[o,h1,h2,h3]) (DRaw.typeIs #[o',U,Z,a1]) F.slot_dict_ne F.entry_dict_ne (F.args_dict_ne_2 _ _) (nG a b es ep a3 hm a4)
  #[#[o,h1,h2,h3],#[o',U,Z,a1],(λz=>nomatch z),?_] ()]
 rw[e];rwa[22,.bl _,H,I,1,q]
theorem CJ:typeLookup (.type "list_reverseiterator") "__len__" = pure none:=by rw[typeLookup_type,OY];kernel_rfl
theorem zJ:typeLookup (.type "list_reverseiterator") "__length_hint__" = pure (some (.builtin "list_reverseiterator.__length_hint__")):=by rw[typeLookup_type,OY];kernel_rfl
section
theorem A3{r:Addr}{Q:Bool->Shared->Prop}(hT:s.TypeIs (.ref r) "list_reverseiterator")(h:Q false s):wpAny (model prog w) A (Builtin.List.listLengthHint (.ref r)) Q E s:=by
 unfold Builtin.List.listLengthHint;erw[c_ (wpAny_specialOf hT CJ ?_)];erw[NA (λO=>absurd O #[]) (λ_=>?_)]
 erw[NA (λO=>absurd O #[]) (λ_=>?_)]
 erw[c_ (wpAny_specialOf hT zJ ?_)];generalize hid:("list_reverseiterator.__length_hint__" : String)=id0
 wp_delta
 rw[show splitId id0=some ("list_reverseiterator", "__length_hint__") from by subst hid;decide +kernel]
 subst hid;erw[c_ (N6 (T := "list_reverseiterator") (b:=true) hT (by rw[isSubtype_type];kernel_rfl) ?_)]
 erw[NA (λO=>absurd O #[]) (λ_=>?_)]
 erw[NA (λ_=>?_) (λO=>absurd #[5] O)]
 erw[NA (λO=>absurd O #[5]) (λ_=>?_)]
 rwa[f_ h]
theorem qK{R:List Value->Shared->Prop}{r l:Addr}(hh:A.handled=none)(hr:s.heap.IsRevIter r l ((items.size:Int)-1))(hl:s.heap.IsList l items)(hne:l≠r)(hn:items.size<=sizeLine)(h:∀(h':Heap) (tk:Nat) (acc:Array Value),(∀b o,b≠r->s.heap.get? b=some o->h'.get? b=some o)->ItemsOf (λi v=>items[items.size-1-i]? = some v) acc items.size->R acc.toList { s with heap:=h',toks:=tk }):
  wpAny (model prog w) A (collect (.ref r)) R E s:=by
 let#[12,o,ho,hc,hd]:=id hr;let#[ol,a5,_]:=id hl;have r1:r<s.heap.objs.size:=Hl ho;have l1:l<s.heap.objs.size:=Hl a5;unfold collect;erw[c_ (wpAny_runValue (MP entry_proto_collect' ?_))];rw[Mx PySem.F.plain_proto_collect _];erw[c_ (m:=newList []) (HI (f_ #[OK PySem.F.plain_list_iadd _,MP entry_list_iadd' ?_]))];rw[Mx PySem.F.plain_list_iadd _]
 let h1:Heap:=s.heap.push { cls:=.type "list",data:=.seq ([]:List Value).toArray }
 have hS:h1.get? s.heap.objs.size=some { cls:=.type "list",data:=.seq #[8] }:=A_ _ rfl;have k1:∀b o,s.heap.get? b=some o->h1.get? b=some o:=λb o e=>g_ _ e
 have U:h1.IsRevIter r l ((items.size:Int)-1):=hr.at λo e=>k1 _ o e
 have a4:h1.IsList l items:=hl.at λo e=>k1 _ o e
 show wpAny _ A.in1 (Builtin.List.listExtendWith (.ref s.heap.objs.size) (.ref r) (.ref s.heap.objs.size)) _ _ { s with heap:=h1 }
 unfold Builtin.List.listExtendWith;erw[c_ (PY (T := "list_reverseiterator") U.typeIs ?_)];have a6:Builtin.List.listSameRef (.ref s.heap.objs.size) (.ref r)=false:=by simp[Builtin.List.listSameRef,O7 r1]
 rw[w_ (by rw[a6];decide +kernel)]
 erw[c_ (wpAny_pyIter_revIter U ?_)];erw[c_ (Ls (A3 U.typeIs ?_))];erw[NA (λa3=>absurd a3 #[5]) (λ_=>f_ #[OK PySem.F.plain_extend_loop _,?_])]
 have W:=Walks.listRev (prog:=prog) (w:=w) (A:=A.in1) hh r l hne items;erw[codeAny_extend_loopS W.toS hn s.heap.objs.size (by simp only[OT,Nm,Pb,not_or];rwa[O7 r1,O7 l1]) (.ref s.heap.objs.size) items.size 0 _ #[8] 0 rfl (Hj _) #[Hj _,by simpa using U,a4] hS (ItemsOf.nil _) λs' Z c' hm a2 a1=>?_]
 rw[Moved.eq_with hm];erw[c_ (wpAny_load a2 (f_ (h s'.heap s'.toks Z (λb o hb e=>hm.heap b o (λO=>?_) (k1 b o e)) a1)))]
 rcases HB.mp O with e'|O
 ·rwa[absurd (Hl e) (by rw[e'];rwa[ME _])]
 ·rwa[hb (D_.mp O)]
theorem xX{r l:Addr}(hh:A.handled=none)(hr:s.heap.IsRevIter r l ((items.size:Int)-1))(hl:s.heap.IsList l items)(hne:l≠r)(hn:items.size<=sizeLine)(h:∀(h':Heap) (tk:Nat) (acc:Array Value),(∀b o,b≠r->s.heap.get? b=some o->h'.get? b=some o)->ItemsOf (λi v=>items[items.size-1-i]? = some v) acc items.size->Q (.ref h'.objs.size) { s with heap:=h'.push { cls:=.type "tuple",data:=.seq acc },toks:=tk }):
  wpAny (model prog w) A (call (.type "tuple") [.ref r]) Q E s:=by
 erw[callType_codes (Q₁:=λobj U=>U.TypeIs obj "tuple"/\Q obj U) F.called_tuple (F.typeCall_tuple_1 _) F.entry_object_init ?_ λobj U h₁=>#[h₁.1,F.args_object_init_2 obj _,object_init_meets F.called_tuple.init.lookup F.called_tuple.made #[] prog w A.in1 _ U #[h₁.1,1,h₁.2]]]
 erw[codeAny_of_tree (c_ (M7 (F.newCall_tuple_1 _) (f_ #[OK F.plain_tuple_new _,MP F.entry_tuple_new ?_])))];rw[Mx F.plain_tuple_new _];have f1:=sub_tuple_self;have f2:=init_tuple_lookup;have f3:=madeHere_tuple;have Z:=hr.typeIs
 wp_walk using PY Z,qK (A:=A.in1.in1) hh hr hl hne hn
 intro h' tk acc hk O;erw[c_ (m:=Builtin.Tuple.tupleExact acc.toList.toArray) (HI (f_ ?_) (by show acc.toList.toArray.size<=sizeLine;simp only[Array.toArray_toList];rw[O.1];rwa[hn]))]
 rw[show acc.toList.toArray=acc by simp]
 rwa[#[_,A_ _ rfl,1],h h' tk acc hk O]
end
def Fv(te:TE):TE:=λσ H Q=>ci te cQ σ H λvs H1=>∃l ys,vs=[.ref l]/\H1 l=some (.lst ys)/\∀t,H1 t=none->Q (.ref t) (upd H1 t (.tup ys.reverse))
theorem xg{acc:Array Value}(h:ItemsOf (λi v=>items[items.size-1-i]? = some v) acc items.size):acc.toList=items.toList.reverse:=by
 apply List.ext_getElem?;intro j;rw[M3]
 by_cases U:j<items.size
 ·have O:j<acc.size:=by rw[h.1];rwa[U]
  have e:=h.2 j acc[j] (Hz O);rw[Hz O,<- e,getElem?_reverse (by rw[Md];rwa[U]),Md,M3]
 ·rw[NR (by rw[h.1];lia)]
  symm;apply getElem?_eq_none;rw[LO,Md];lia
theorem xv{p pos2:Pos}(mT:X.mg "tuple" = none)(mR:X.mg "reversed" = none)(he:PE X e te)(hc:X.still:=by rwa[1,by first|assumption|exact(‹Quiet _›).q])(hgT:Gl X "tuple":=by rfl)(hgR:Gl X "reversed":=by rfl)(hs:starEach [e] X.env=[(false,eval e X.env)]:=by rfl)(hs2:starEach [.Call (.Name "reversed" p2) [e] [] pos2] X.env=[(false,eval (.Call (.Name "reversed" p2) [e] [] pos2) X.env)]:=by rfl):
  PE X (.Call (.Name "tuple" p) [.Call (.Name "reversed" p2) [e] [] pos2] [] pos) (Fv te):=by
 intros Q I h;erw[MG (eB I hgT mT eT (Mt ?_ hs2 rfl) #[] #[])]
 rw[hs2];erw[Calls.spliced_cons (MG (eB I hgR mR boot_reversed (Mt (thn (aa he ag hs pos2 pins s σ H _ I h) λus s1 ⟨vs,H1,O,r1,q1⟩=>?_) hs rfl) #[] #[]))]
 let#[22,l,ys,e1,hl,q]:=q1;cases e1;let#[u,1,rx]:=eS r1;cases rx;let#[0121,hz,its,n,rv,ho]:=(show Gg X.prog X.w H1 s1.heap l (.lst ys) from O.hok l _ hl)
 have il:s1.heap.IsList l its.toArray:=#[_,ho,1,n,1];have len:=rv.length;erw[call_reversed_list il (Calls.spliced_nil ?_)];have U:l<s1.heap.objs.size:=Hl ho;have I2:Inv X pins σ H1 { s1 with heap:=s1.heap.push (revObj l ((its.toArray.size:Int)-1)) }:=O.kept (t':=s1.toks) λb o e=>g_ _ e
 let#[05,f0,f1,f2,f3,f4,f5]:=O.fpOk (e_ _) (O.hok.fresh (e_ _));erw[xX (r:=s1.heap.objs.size) (l:=l) (items:=its.toArray) (I.hd0 hc) #[_,A_ _ rfl,1,1] (il.push _) (F9 U) (by rw[HC,<- len];rwa[hz]) λh' tk acc hk ha=>?_]
 have Z:Inv X pins σ H1 { s1 with heap:=h',toks:=tk }:=I2.turned (λb o hb e=>hk b o hb e) f0 f1 f3 f4 f5
 have ea:acc=its.reverse.toArray:=by
  apply Array.toList_inj.mp;rw[xg ha]
 subst ea;have I4:=Z.laid (a:=h'.objs.size) (o:=.tup ys.reverse) (h':=h'.push { cls:=.type "tuple",data:=.seq its.reverse.toArray }) (t':=tk) (λb o e=>g_ _ e) (e_ _) #[015210,by rw[LO];rwa[hz],its.reverse,Ge.rev rv,_,A_ _ rfl,1,0]
 rwa[22,.ref h'.objs.size,_,I4,1,q _ (Z.hok.fresh (e_ _))]
def sZ(j:Nat)(led:Bool):SetTable:=#[(7),#[8,j],#[8],(0),led,(0),true]
theorem lay1(led:Bool)(h:Int)(x:Value):layNew (.fresh 0 0 led) #[8] h x=(#[8,(h,x)],sZ (SetTable.bits h%8) led,false,false):=by
 unfold layNew SetTable.freeSlot;have e:(SetTable.fresh 0 0 led).probe (λ_=>h+1) h ((SetTable.fresh 0 0 led).probeStart h)=some (.empty (SetTable.bits h%8) none):=rfl
 rw[e]
 rfl
def nw(led:Bool):Obj:={ cls:=.type "set",dict:=none,data:=.set #[8] 0 (.fresh 0 0 led) }
def yj(led:Bool)(n:Int)(t:Tok):Obj:={ cls:=.type "set",dict:=none,data:=.set #[8,(hashInt n,.int n t)] 1 (sZ (SetTable.bits (hashInt n)%8) led) }
section
theorem Al{a:Addr}{n:Int}{t:Tok}{Q:Bool->Shared->Prop}(ho:s.heap.get? a=some (nw led))(h:∀h',Heap.SameBut a s.heap h'->h'.get? a=some (yj led n t)->Q true { s with heap:=h',toks:=s.toks+1 }):wpAny (model prog w) A (setAdd a (.int n t)) Q E s:=by
 unfold setAdd;erw[Ls (c_ ((intKind prog w).pyHash (k:=n) (intKind_is _ _ _ _) ?_))];unfold setAddHashed setAddHashedIn;have O:({ s with toks:=s.toks+1 }:Shared).heap.get? a=some (nw led):=ho
 erw[Ls (c_ (NS O rfl rfl ?_))];dsimp only;rw[C_ (by simp[byScan,Value.scannable,scanBound])]
 unfold setAddByScan;erw[c_ (c_ (N8 ?_))];erw[c_ (M7 (a:=ScanMet.absent) rfl ?_)];dsimp only;rw[show(intKind prog w).hash n=hashInt n from rfl,lay1]
 dsimp only;erw[c_ (M7 (a:=⟨⟩) rfl ?_)];rw[C_ (show(sZ (SetTable.bits (hashInt n)%8) led).plain=true from rfl)]
 erw[c_ (M7 (a:=true) rfl ?_)];simp only[PX];erw[c_ (wpAny_storeSet_of O rfl ?_ (by show 1<=sizeLine;decide))]
 rw[w_ (show ¬(!false&&(sZ (SetTable.bits (hashInt n)%8) led).tooFull)=true from λz=>by cases z)]
 erw[f_ ?_];dsimp only;erw[f_ (h _ (LY ..) ?_)];rwa[NC _ ho rfl]
theorem zW(v:Value){Q1:Value->Shared->Prop}(h:Q1 (.ref s.heap.objs.size) { s with heap:=s.heap.push (nw (!w.params.followText "set-order")) }):
  codeAny (model prog w) A (.call (.builtin "set.__new__") #[[.type "set",v],[]]) (wants Q1 E) s:=by
 erw[codeAny_of_tree (c_ (M7 (F.newCall_set_1 v) (f_ #[OK F.plain_set_new _,MP F.entry_set_new ?_])))];rw[Mx F.plain_set_new _];have O:=sub_set_self;let#[U,g,d,tk,os]:=s;unfold Builtin.«set.__new__» Builtin.Frozenset.newClass;dsimp only
 wp_walk
 erw[ON (f_ ?_)];simp only[newObj];rwa[c_ (wpAny_alloc (f_ (f_ h)))]
theorem wo{S l I:Addr}(hh:A.handled=none)(hS:s.heap.get? S=some (nw led))(hl:s.heap.IsList l items)(hI:s.heap.IsListIter I l 0)(hi:items = #[8]\/∃n t,items = #[8,.int n t])(dl:l≠S)(dI:I≠S)(dlI:l≠I)(h:∀h' tk,(∀b o,b≠S->b≠I->s.heap.get? b=some o->h'.get? b=some o)->((items = #[8]/\h'.get? S=some (nw led))\/∃n t,items = #[8,.int n t]/\h'.get? S=some (yj led n t))->R (.ok (.ret .none)) { s with heap:=h',toks:=tk }):
  codeAny (model prog w) A (.builtin "set.update.loop" #[[.ref S,.ref I],[]]) R s:=by
 erw[MP F.entry_set_update_loop ?_];rw[Mx F.plain_set_update_loop _]
 rcases hi with rfl|⟨n,t,rfl⟩
 ·erw[c_ (m:=pyNext (.ref I)) (wpAny_pyNext_list_end (A:=A.in1) hh hI hl #[] λh' Z=>?_)]
  rwa[f_ (h h' s.toks (λb o _ hb e=>Z b o hb e) (.inl #[1,Z _ _ dI.symm hS]))]
 ·erw[c_ (m:=pyNext (.ref I)) (Ou hI hl (x:=.int n t) rfl λh1 a3 O=>?_)]
  erw[c_ (m:=holding [Value.int n t] (setAdd S (.int n t))) (Ls (Al (s:={ s with heap:=h1 }) ((O.2 S dI.symm).trans hS) λh2 U e2=>?_))]
  erw[f_ #[OK F.plain_set_update_loop _,MP F.entry_set_update_loop ?_]];rw[Mx F.plain_set_update_loop _];have a4:h2.IsListIter I l (0+1):=a3.at λo e=>(U.2 I dI).trans e
  have a2:h2.IsList l #[8,.int n t]:=hl.at λo e=>(U.2 l dl).trans ((O.2 l dlI).trans e)
  erw[c_ (m:=pyNext (.ref I)) (wpAny_pyNext_list_end (A:=A.in1) (s:={ s with heap:=h2,toks:=s.toks+1 }) hh a4 a2 rfl λh3 Z=>?_)]
  rwa[f_ (h h3 (s.toks+1) (λb o hb a1 e=>Z b o a1 ((U.2 b hb).trans ((O.2 b a1).trans e))) (.inr #[21,n,t,1,Z _ _ dI.symm e2]))]
set_option maxHeartbeats 4000000 in
theorem pC{l:Addr}(hh:A.handled=none)(hl:s.heap.IsList l items)(hi:items = #[8]\/∃n t,items = #[8,.int n t])(h:∀h' tk,(∀b o,s.heap.get? b=some o->h'.get? b=some o)->((items = #[8]/\h'.get? s.heap.objs.size=some (nw (!w.params.followText "set-order")))\/∃n t,items = #[8,.int n t]/\h'.get? s.heap.objs.size=some (yj (!w.params.followText "set-order") n t))->Q (.ref s.heap.objs.size) { s with heap:=h',toks:=tk }):
  wpAny (model prog w) A (call (.type "set") [.ref l]) Q E s:=by
 let#[ol,a1,_]:=id hl;have l1:l<s.heap.objs.size:=Hl a1;generalize hled:(!w.params.followText "set-order")=led at h
 let h1:Heap:=s.heap.push (nw led)
 have hS:h1.get? s.heap.objs.size=some (nw led):=A_ _ rfl;let#[c,tl,f1]:=F.called_set.mro;have f2:=F.called_set.made;have f3:=F.called_set.sub;have f4:=F.called_set.notType;have f5:=F.called_set.canCreate;have f6:=F.typeCall_set_1 (.ref l);erw[PV (codeAny_of_tree (f_ #[Code.quiet_builtin _ #[5],MP F.entry_type_call ?_]))]
 rw[Around.under_plain (weight_type_call_type "set" [.ref l] []) rfl]
 repeat (any_goals (first|assumption|wp_step))
 erw[Ox (zW (.ref l) (E:=E) (Q1:=λobj s1=>obj=.ref s.heap.objs.size/\s1={ s with heap:=h1 }) #[1,by rw[hled]]) λr s1 Z=>?_]
 cases r with
 |error e=>rwa[Z]
 |ok fl=>
  cases fl with
  |next=>rwa[Z.elim]
  |brk=>rwa[Z.elim]
  |cont=>rwa[Z.elim]
  |ret obj=>
   let#[1,1]:=Z;have hT:Shared.TypeIs { s with heap:=h1 } (.ref s.heap.objs.size) "set":=#[_,hS,1]
   have f7:=F.called_set.init.lookup;have f8:=F.called_set.init.bind (.ref s.heap.objs.size)
   repeat (any_goals (first|assumption|wp_step))
   have kp:∀b o,s.heap.get? b=some o->h1.get? b=some o:=λb o e=>g_ _ e
   have U:h1.IsList l items:=hl.push _;erw[Ox (codeAny_call_builtin (R:=wants (λr s2=>r=.none/\∃h' tk,s2={ s with heap:=h',toks:=tk }/\(∀b o,s.heap.get? b=some o->h'.get? b=some o)/\((items = #[8]/\h'.get? s.heap.objs.size=some (nw led))\/∃n t,items = #[8,.int n t]/\h'.get? s.heap.objs.size=some (yj led n t))) E) F.called_set.init.plain F.entry_set_init (check_set_init_1 hT ?_)) λr2 s2 O=>?_]
   ·have g1:=F.sub_list_set;have g2:=F.sub_list_frozenset;have g3:(Value.type "list" == Value.type "dict")=false:=#[]
    have g4:Shared.TypeIs { s with heap:=h1 } (.ref l) "list":=U.typeIs
    unfold Builtin.«set.__init__» noKeywords Builtin.Frozenset.updateFrom;generalize hPI:pyIter=PI
    wp_walk
    subst hPI;erw[Nl U (c_ (wpAny_runValue ?_))];have e1:h1.objs.size=s.heap.objs.size+1:=Ps ..;have n1:s.heap.objs.size≠h1.objs.size:=by rw[e1];rwa[F9 (Pt _)]
    erw[wo (l:=l) (I:=h1.objs.size) (led:=led) (items:=items) (by simp[hh]) (g_ _ hS) (U.push _) #[_,A_ _ rfl,1,1] hi (F9 l1) n1.symm (by rw[e1];rwa[F9 (O3 l1)]) λh' tk hk hx=>?_]
    erw[f_ (f_ #[0122,1,h',tk,1,λb o e=>?_,hx])]
    have hb:=Hl e;rwa[hk b o (F9 hb) (by rw[e1];rwa[F9 (O3 hb)]) (g_ _ (kp b o e))]
   ·cases r2 with
    |error e=>rwa[O]
    |ok fl2=>
     cases fl2 with
     |next=>rwa[O.elim]
     |brk=>rwa[O.elim]
     |cont=>rwa[O.elim]
     |ret r=>
      let#[0122,1,h',tk,1,hk,hx]:=O
      repeat (any_goals (first|assumption|wp_step))
      rwa[h _ _ hk hx]
end
theorem si_next:Slot "set_iterator" "__next__" "set_iterator.__next__":=.of (owner := "set_iterator") (n := "__next__") (by rw[typeLookup_type,OY];kernel_rfl) #[5] #[5] #[5] (by first|rwa[.inl #[5]]|rwa[.inr #[5]]) (by rw[isSubtype_type];kernel_rfl)
theorem zh:entryFor table "set_iterator.__next__"=some Builtin.«set_iterator.__next__»:=entryFor_of_tree (by kernel_rfl)
theorem sf:Manifest.owners.lookup (String.ofList ['r','o','t','a','r','e','t','i','_','t','e','s'].reverse)=some Manifest.sig_set_iterator:=by kernel_rfl
theorem B3(a:Value):argsOk "set_iterator.__next__" #[[a],[]]:=by
 unfold argsOk;rw[signature?_of (id := "set_iterator.__next__") (n:=['_','_','t','x','e','n','_','_']) (o:=['r','o','t','a','r','e','t','i','_','t','e','s']) (by kernel_rfl) sf];kernel_rfl
theorem vi:Slot "set_iterator" "__iter__" "set_iterator.__iter__":=.of (owner := "set_iterator") (n := "__iter__") (by rw[typeLookup_type,OY];kernel_rfl) #[5] #[5] #[5] (by first|rwa[.inl #[5]]|rwa[.inr #[5]]) (by rw[isSubtype_type];kernel_rfl)
theorem nZ:entryFor table "set_iterator.__iter__"=some Builtin.«dict_keyiterator.__iter__»:=entryFor_alias (id' := "dict_keyiterator.__iter__") (by kernel_rfl) (by first|rfl|decide +kernel|(unfold String.splitOn;simp +decide [String.splitOnAux])) #[5] (by kernel_rfl)
theorem qa(a:Value):argsOk "set_iterator.__iter__" #[[a],[]]:=by
 unfold argsOk;rw[signature?_of (id := "set_iterator.__iter__") (n:=['_','_','r','e','t','i','_','_']) (o:=['r','o','t','a','r','e','t','i','_','t','e','s']) (by kernel_rfl) sf];kernel_rfl
theorem ni:entryFor table "set.__iter__"=some Builtin.«frozenset.__iter__»:=entryFor_alias (id' := "frozenset.__iter__") (by kernel_rfl) (by first|rfl|decide +kernel|(unfold String.splitOn;simp +decide [String.splitOnAux])) #[5] (by kernel_rfl)
def siO(slot i n ep:Nat)(a:Addr):Obj:={ cls:=.type "set_iterator",data:=.fields #[8,rawInt slot,rawInt i,.ref a,rawInt n,rawInt ep] }
def fj(led:Bool):Option (Int×Tok)->Obj
 |none=>nw led
 |some (n,t)=>yj led n t
def cnt:Option (Int×Tok)->Nat
 |none=>0
 |some _=>1
section
variable {a I:Addr}
theorem wJ(ha:s.heap.get? a=some (fj led c))(hQ:Q (.ref s.heap.objs.size) { s with heap:=s.heap.push (siO 0 0 (cnt c) (cnt c) a) }):wpAny (model prog w) A (pyIter (.ref a)) Q E s:=by
 have hT:s.TypeIs (.ref a) "set":=by cases c<;>rwa[_,ha,1]
 erw[wpAny_pyIter_slot hT F.slot_set_iter (Lv F.slot_set_iter hT ni ?_ (F.args_set_iter_1 _))];obtain⟨es,ep,t,hd,Z,hp,he,U⟩:∃es ep t,(fj led c).data=.set es ep t/\t.fits es.size=true/\t.plain=true/\es.size=cnt c/\ep=cnt c:=by
  cases c with
  |none=>rwa[34,_,2,1,1,1]
  |some p=>rwa[34,_,2,1,1,1]
 unfold Builtin.«frozenset.__iter__»;erw[c_ (M7 (a:=a) rfl ?_)];unfold Builtin.Frozenset.sizeOf setEntries setDrawn setEpoch;erw[c_ (c_ (c_ (NS ha hd Z (f_ (f_ ?_)))))];erw[c_ (c_ (NS ha hd Z ?_))];dsimp only;unfold setsByText;erw[c_ (c_ (ON (f_ (f_ ?_))))];let#[t1,t2,t3,t4,t5,t6,t7]:=t;obtain rfl:t7=true:=hp;erw[NA (λO=>absurd (show(_&&(!true&&decide (es.size>1)))=true from O) (by simp)) (λ_=>?_)]
 erw[c_ (f_ (c_ (c_ (NS ha hd Z (f_ ?_)))))];erw[c_ (HI (f_ #[62,0, "set_iterator",_,#[_,A_ _ rfl,1],si_next.lookup,?_]))];rw[he,U];rwa[hQ]
theorem Ed(j:Nat):SetTable.below #[8,j] 0=0:=by
 unfold SetTable.below SetTable.below.go;simp[SetTable.below.go]
theorem DQ(j:Nat):SetTable.below #[8,j] (j+1)=1:=by
 unfold SetTable.below SetTable.below.go;simp[SetTable.below.go]
theorem Ft(f:Nat->Nat)(x:α):pickOrder f #[8,x] = #[8,x]:=by
 unfold pickOrder pickOrder.go;simp[pickOrder.go,Nat.mod_one]
theorem w8{Q:Array (Int×Value)->Shared->Prop}(hf:w.params.followText "set-order"=true)(ha:s.heap.get? a=some (fj led c))(hQ:∀es,(fj led c).data=.set es (cnt c) (match c with|none=>.fresh 0 0 led|some p=>sZ (SetTable.bits (hashInt p.1)%8) led)->Q es s):wpAny (model prog w) A (setWalk a) Q E s:=by
 unfold setWalk setsByText;cases c with
 |none=>
  erw[c_ (NS ha rfl rfl (c_ (c_ (ON (f_ ?_)))))];show wpAny _ _ (if w.params.followText "set-order"=true then _ else _) _ _ _
  rw[C_ hf];rwa[c_ (ON (f_ (hQ _ rfl)))]
 |some p=>
  erw[c_ (NS ha rfl rfl (c_ (c_ (ON (f_ ?_)))))];show wpAny _ _ (if w.params.followText "set-order"=true then _ else _) _ _ _
  rw[C_ hf];erw[c_ (ON (f_ ?_))];rw[Ft];rwa[hQ _ rfl]
def at_(c:Option (Int×Tok))(i:Nat)(slot:Nat):Option (Value×Nat):=match c with
 |none=>none
 |some p=>if i=0 then some (.int p.1 p.2,slot) else none
def sl:Option (Int×Tok)->Nat
 |none=>0
 |some p=>SetTable.bits (hashInt p.1)%8+1
theorem DJ{i slot:Nat}{Q:Option (Value×Nat)->Shared->Prop}(ha:s.heap.get? a=some (fj (!w.params.followText "set-order") c))(hi:i<=cnt c)(U:w.params.followText "set-order" = false->slot=if i=0 then 0 else sl c)(Z:∀O:Nat,(w.params.followText "set-order" = false->O=sl c)->Q (at_ c i O) s):wpAny (model prog w) A (setNext a slot i (cnt c)) Q E s:=by
 obtain⟨es,ep,t,hd,hf,a2⟩:∃es ep t,(fj (!w.params.followText "set-order") c).data=.set es ep t/\t.fits es.size=true/\ep=cnt c:=by
  cases c with
  |none=>rwa[32,_,2,1]
  |some p=>rwa[32,_,2,1]
 unfold setNext;erw[c_ (NS ha hd hf ?_)];dsimp only;unfold setsByText;erw[c_ (c_ (ON (f_ ?_)))];show wpAny _ _ (if w.params.followText "set-order"=true then _ else _) _ _ _
 cases ht:w.params.followText "set-order" with
 |true=>
  rw[C_ rfl,w_ (by rw[a2];simp)]
  erw[c_ (w8 ht ha λes he=>f_ ?_)]
  have z:=Z slot (λz=>by rw[ht] at z;cases z)
  cases c with
  |none=>
   cases he;rwa[z]
  |some p=>
   cases he;unfold at_ at z
   by_cases h0:i=0
   ·subst h0;rwa[z]
   ·obtain rfl:i=1:=by
     have:i<=1:=hi;lia
    rwa[z]
 |false=>
  rw[w_ #[]]
  have U:=U ht;have Z:=Z _ λ_=>rfl
  rw[ht] at hd;cases c with
  |none=>
   cases hd;obtain rfl:i=0:=Nat.le_zero.mp hi;rw[C_ rfl] at U;subst U;rwa[c_ (M7 (a:=⟨⟩) rfl (f_ Z))]
  |some p=>
   cases hd;erw[NA (λa1=>absurd a1 (λz=>by cases z)) (λ_=>c_ (M7 (a:=⟨⟩) rfl (f_ ?_)))]
   unfold at_ at Z
   by_cases h0:i=0
   ·subst h0;rw[C_ rfl] at U;subst U;rw[show(sZ (SetTable.bits (hashInt p.1)%8) (!false)).place = #[8,SetTable.bits (hashInt p.1)%8] from rfl,Ed]
    rwa[Z]
   ·obtain rfl:i=1:=by
     have:i<=1:=hi;lia
    rw[w_ h0] at U;subst U;rw[show(sZ (SetTable.bits (hashInt p.1)%8) (!false)).place = #[8,SetTable.bits (hashInt p.1)%8] from rfl,show sl (some p)=SetTable.bits (hashInt p.1)%8+1 from rfl,DQ]
    rwa[Z]
def SIt(w:World)(I a:Addr)(c:Option (Int×Tok))(i:Nat)(h:Heap):Prop:=∃slot:Nat,i<=cnt c/\(w.params.followText "set-order" = false->slot=if i=0 then 0 else sl c)/\h.get? I=some (siO slot i (cnt c) (cnt c) a)
theorem rl{i:Nat}{Q:Option Value->Shared->Prop}(hh:A.handled=none)(ha:s.heap.get? a=some (fj (!w.params.followText "set-order") c))(hI:SIt w I a c i s.heap)(h1:∀n t h',c=some (n,t)->i=0->SIt w I a c 1 h'->Heap.SameBut I s.heap h'->Q (some (.int n t)) { s with heap:=h' })(h2:∀h',i=cnt c->Heap.ExtBut I s.heap h'->Q none { s with heap:=h' }):wpAny (model prog w) A (pyNext (.ref I)) Q E s:=by
 let#[12,slot,hi,hs,U]:=hI;have hT:s.TypeIs (.ref I) "set_iterator":=#[_,U,1];obtain⟨es,ep,t,hd,hf,he⟩:∃es ep t,(fj (!w.params.followText "set-order") c).data=.set es ep t/\t.fits es.size=true/\es.size=cnt c:=by
  cases c with
  |none=>rwa[32,_,2,1]
  |some p=>rwa[32,_,2,1]
 unfold pyNext;erw[c_ (Nr (Lz (name:=Str.ofString "__next__") hT si_next (Lv si_next hT zh ?_ (B3 _))))];unfold Builtin.«set_iterator.__next__»;erw[c_ (M7 (a:=(Value.ref I,[])) rfl ?_)];erw[c_ (wpAny_fieldsOf U rfl ?_)];dsimp only[rawInt];unfold setEntries;erw[c_ (c_ (NS ha hd hf (f_ ?_)))];rw[w_ (by rw[he];simp)]
 simp only[Mz];erw[c_ (DJ ha hi hs λO Z=>?_)]
 have fin:i=cnt c->wpAny (model prog w) A.in1 (do setField (.ref I) 2 .none;let e <- newExc (.type "StopIteration") [];raiseNew e) (λfin s'=>∃v,fin=Fin.done (Flow.ret v)/\wpAny (model prog w) A (pure (some v)) Q E s') (λe s'=>wpAny (model prog w) A (do let b <- isInstance e (.type "StopIteration");if b=true then pure none else throw e) Q E s') s:=λhc=>by
  erw[c_ (MC U rfl (by simp) (c_ ?_))]
  simp only[newExc,newTuple];erw[c_ (HI (c_ (m:=firstArgMember _ _) (M7 (a:=Value.none) (by first|rfl|(simp only[firstArgMember];rfl)) (HI ?_ (by size_fits)))) (by size_fits))]
  simp only[raiseNew];erw[c_ (wpAny_handled ?_)];rw[show A.in1.handled=none from hh]
  erw[c_ (f_ (wpAny_throw ?_))];erw[c_ (N6 (T := "StopIteration") (b:=true) #[_,A_ _ rfl,1] isSubtype_stop ?_)];rwa[f_ (h2 _ hc (((LY ..).extBut.push _).push _))]
 unfold at_;cases c with
 |none=>rwa[fin (Nat.le_zero.mp hi)]
 |some p=>
  by_cases h0:i=0
  ·subst h0;dsimp only;rw[C_ rfl];erw[c_ (MC U rfl (by simp) ?_)]
   have g1:=NC (Obj.mapFields (·.setIfInBounds 0 (.int (O:Int) 0))) U (NZ (MD rfl _));erw[c_ (MC g1 rfl (by simp) ?_)]
   erw[f_ #[0,f_ (h1 p.1 p.2 _ rfl rfl #[O,e_ _,λz=>Z z,?_] ?_)]]
   ·rwa[NC _ g1 rfl]
   ·exact(LY ..).trans (LY ..)
  ·dsimp only;rw[w_ h0];erw[fin ?_];have:i<=1:=hi;show i=1;lia
end
section
variable {a:Addr}
theorem zC{Q:Bool->Shared->Prop}(hT:s.TypeIs (.ref a) "set")(h:Q false s):wpAny (model prog w) A (Builtin.List.listLengthHint (.ref a)) Q E s:=by
 unfold Builtin.List.listLengthHint;erw[c_ (wpAny_specialOf hT F.slot_set_len.lookup ?_)];generalize hid:("set.__len__" : String)=id0
 wp_delta
 rw[show splitId id0=some ("set", "__len__") from by subst hid;decide +kernel]
 subst hid;erw[c_ (N6 (T := "set") (b:=true) hT sub_set_self ?_)];erw[NA (λO=>absurd O #[]) (λ_=>?_)]
 erw[NA (λ_=>c_ (PY hT (f_ h))) (λO=>absurd #[5] O)]
theorem xK(hh:A.handled=none)(I a:Addr)(hne:a≠I)(c:Option (Int×Tok)):
  Walks prog w A I [I,a] [I] (cnt c) (λ_ v=>∃n t,c=some (n,t)/\v=.int n t) (λi h=>SIt w I a c i h/\h.get? a=some (fj (!w.params.followText "set-order") c)) where
 sub:=λb O=>by simp at O;simp[O]
 frame:=λi h h' st hk=>by
  let#[#[slot,h1,h2,h3],h4]:=st;rwa[#[slot,h1,h2,hk I (by simp) _ h3],hk a (by simp) _ h4]
 item:=λi s Q E hi st U=>by
  erw[rl hh st.2 st.1 (λn t h' Z h0 a1 sb=>?_) λh' Z=>absurd hi ()]
  subst h0;rwa[U _ h' s.toks #[21,n,t,Z,1] #[a1,(sb.2 a hne).trans st.2] λb o O e=>(sb.2 b (λz=>O (by simp[z]))).trans e]
 done:=λs Q E st U=>by
  erw[rl hh st.2 st.1 (λn t h' Z h0=>?_) λh' _ eb=>U h' s.toks λb o O e=>eb b o (λz=>O (by simp[z])) e]
  subst Z;cases h0
 self:=λi s Q E st U=>by
  let#[#[slot,h1,h2,h3],h4]:=st;have hT:s.TypeIs (.ref I) "set_iterator":=#[_,h3,1];erw[wpAny_pyIter_slot hT vi (Lv vi hT nZ ?_ (qa _))];rwa[f_ #[62,0, "set_iterator",_,hT,si_next.lookup,U]]
theorem BD(a:Addr)(c:Option (Int×Tok)):KdlSrc prog w "set" a a (cnt c) (λ_ v=>∃n t,c=some (n,t)/\v=.int n t) (λh=>h.get? a=some (fj (!w.params.followText "set-order") c)) where
 type:=λ_ hm=>by cases c<;>rwa[_,hm,1]
 there:=λ_ hm=>#[Hl hm,Hl hm]
 keep:=λ_ _ hm hk=>hk a (.inl rfl) _ hm
 notList:=#[]
 notTuple:=#[]
 hint:=λ_ _ _ _ hm O=>zC (by cases c<;>rwa[_,hm,1]) O
 iter:=λA s U hm=>#[22,_,_,(λ_ _ O=>wJ hm O),xK U _ a (F9 (Hl hm)) c,#[#[(0),Hj _,λ_=>rfl,A_ _ rfl],g_ _ hm]]
end
theorem Eo(c:Option (Int×Tok)):cnt c<=1:=by cases c<;>simp[cnt]
theorem Ec(c:Option α):c.toList.length<=1:=by cases c<;>simp
def nh(w:World)(a:Addr)(ns:List Int):HO:=.ext λh=>∃c:Option (Int×Tok),ns=(c.map (·.1)).toList/\h.get? a=some (fj (!w.params.followText "set-order") c)
def DI(w:World)(K:Frag)(H:Hp)(x:V)(B:List Int->Prop):Prop:=
 (∃l ns,x=.ref l/\SqL K H l (ns.map V.int)/\B ns)\/(∃a ns,x=.ref a/\H a=some (nh w a ns)/\B ns)\/∃d ks kvs,x=.ref d/\Rd H d (.dK kvs)/\kvs.map (·.1)=ks.map Sum.inl/\B ks
section
theorem qf{x:V}{B:List Int->Prop}{R:List Value->Shared->Prop}(hh:A.handled=none)(I:#[7,7])(rx:Gf x u)(hs:DI X.w X.K H x B)(h:∀h' tk its ns,B ns->Ge (ns.map V.int) its->(∀b o,s.heap.get? b=some o->h'.get? b=some o)->ns.length<=sizeLine->R its { s with heap:=h',toks:=tk }):wpAny #[7] A (collect u) R E s:=by
 rcases hs with⟨l,ns,rfl,O,hB⟩|⟨a,ns,rfl,ha,hB⟩|⟨d,ks,kvs,rfl,hd,hk,hB⟩
 ·cases rx;let#[12,its,rv,p,hz]:=I.list O;rw[z_] at hz;erw[collect_list (vs:=its) p.isList (h _ s.toks its ns hB rv (λb o q=>?_) hz) (by rw[<- rv.length,z_];rwa[hz])]
  have a1:b<s.heap.objs.size:=Hl q;rw[Heap.get?_update_ne _ _ _ _ (F9 a1),Heap.get?_push_ne _ _ _ (F9 a1)];rwa[q]
 ·cases rx;let#[#[c,1,hc],_]:=id (show Gg X.prog X.w H s.heap a (nh X.w a ns) from I.hok a _ ha)
  erw[kdu_collect (BD a c) hh hc (Hb (Eo c) #[]) λh' tk acc hk U=>?_]
  erw[h h' tk _ _ hB ?_ hk (Hb (Ec _) #[])]
  let#[acc]:=acc;cases c with
  |none=>
   obtain rfl:acc=[]:=eq_nil_of_length_eq_zero U.1;rwa[.nil]
  |some p=>
   obtain⟨v,rfl⟩:∃v,acc=[v]:=List.length_eq_one_iff.mp U.1
   let#[21,n,t,e,1]:=U.2 0 v rfl;cases e;rwa[.cons #[t,1] .nil]
 ·cases rx;let#[0211,hz,hm,vs,kv,dd]:=lX I.hok hd;let#[ep,a2]:=dd.dictAt;have lv:kvs.length=vs.length:=Paired.length kv;erw[kdu_collect (kdl_dict (knd:=aI X.prog X.w) (kvs:=vs) (ep:=ep) hm) hh a2 (by rw[<- lv];rwa[hz]) λh' tk acc a3 U=>?_]
  have keys:vs.map (·.1)=ks.map Sum.inl:=by rw[<- KV.keys kv,hk]
  have lk:ks.length=vs.length:=by
   have:=LD List.length keys;simpa using this.symm
  erw[h h' tk _ _ hB ?_ a3 ()]
  have go:∀(l:List Value) (ks:List Int),l.length=ks.length->(∀(j:Nat) (v:Value),l[j]? = some v->∃k,ks[j]? = some k/\∃t,v=Value.int k t)->Ge (ks.map V.int) l:=by
   intro l
   induction l with
   |nil=>intro ks O _;rw[eq_nil_of_length_eq_zero O.symm];rwa[.nil]
   |cons v l ih=>
    intro ks O hv;cases ks with
    |nil=>cases O
    |cons k ks=>
     let#[50,k',e,t,1]:=hv 0 v rfl;cases e;rwa[.cons #[t,1] (ih ks (by simpa using O) λj v e=>hv (j+1) v e)]
  erw[go _ _ (by rw[Md,U.1,lk]) λj v e=>?_]
  rw[M3] at e;let#[21,k,x,e1,e2]:=U.2 j v e;have Z:(vs.map (·.1))[j]? = some k:=by rw[Hx,e1];rfl
  rw[keys,Hx] at Z;cases e4:ks[j]? with
  |none=>rw[e4] at Z;cases Z
  |some i=>
   rw[e4] at Z;cases Z
   rcases bn (show kF (Sum.inl i) v=true from e2) with⟨i',t,e5,rfl⟩|⟨y,t,e5,rfl⟩
   ·cases e5;rwa[50,i,1,t,1]
   ·cases e5
theorem tM(hc:X.still):cU X (.builtin "sorted") (λxs H Q=>∃x,xs=[x]/\DI X.w X.K H x λns=>ns.length<64/\∀(D:Addr) (zs:List Int),H D=none->zs.Perm ns->zs.Pairwise (· <= ·)->Q (.ref D) (upd H D (.lst (zs.map V.int)))):=by
 intros xs us Q I r h;let#[x,1,hs]:=h;let#[u,1,rx]:=eS r;erw[Calls.call_function_entry kind_sorted plain_sorted entry_sorted (args_sorted1 _) ?_];unfold Builtin.«sorted»;erw[c_ (m:=checkCount "sorted" 1 1 _) (f_ ?_)];erw[c_ (qf (A:=X.A.in1) (I.hd0 hc) I rx hs λh' tk its ns hB rv hk hz=>?_)]
 let#[a4,q]:=hB;have U:Inv X pins σ H { s with heap:=h',toks:=tk }:=I.kept hk
 have li:its.length=ns.length:=by rw[<- rv.length,z_]
 erw[c_ (wpAny_newList ?_ (by rw[li];rwa[hz]))]
 have O:(h'.push (seqObj "list" its.toArray 0)).get? h'.objs.size=some (seqObj "list" its.toArray 0):=A_ _ rfl;erw[c_ (Ls (Lv slot_list_sort #[_,O,1] entry_list_sort (list_sort_tree O (iW rv) () λout zs a1 Z a3=>#[0,?_]) (args_list_sort _)))]
 let#[e,he]:=sortedHeap_at (out:=out) O;have kp:∀b o,h'.get? b=some o->(sortedHeap (h'.push (seqObj "list" its.toArray 0)) h'.objs.size its out).get? b=some o:=λb o e=>by
  have hb:=Hl e;rw[sortedHeap_old (F9 hb) (by rw[size_push'];rwa[O3 hb])]
  rwa[g_ _ e]
 have lz:zs.length=ns.length:=Z.length_eq;have rz:Ge (zs.map V.int) out.toList:=ku a1;have I2:=U.laid (a:=h'.objs.size) (o:=.lst (zs.map V.int)) (t':=tk) kp (e_ _) #[0121,by rw[z_,lz];rwa[hz],out.toList,e,rz,he]
 rwa[f_ #[62,0,.ref h'.objs.size,_,I2,1,q _ zs (U.hok.fresh (e_ _)) Z a3]]
theorem By{a:Addr}{ns:List Int}(e:ns=(c.map (·.1)).toList)(g:h.get? a=some (fj (!w.params.followText "set-order") c)):Gg P w H h a (nh w a ns):=
 #[#[c,e,g],#[_,g],λ_ _ z k=>z.elim λc y=>#[c,y.1,k _ y.2]]
theorem wV(hc:X.still):cU X (.type "set") (λxs H Q=>∃p ns,xs=[.ref p]/\SqL X.K H p (ns.map V.int)/\ns.length<=1/\∀a,H a=none->Q (.ref a) (upd H a (nh X.w a ns))):=by
 intros xs us Q I r h;let#[23,p,ns,1,hq,hn,q]:=h;let#[u,1,rx]:=eS r;cases rx;let#[12,its,U,pl,hz]:=I.list hq;have fin:∀(c:Option (Int×Tok)) (h':Heap) (tk:Nat),ns=(c.map (·.1)).toList->(∀b o,s.heap.get? b=some o->h'.get? b=some o)->h'.get? s.heap.objs.size=some (fj (!X.w.params.followText "set-order") c)->EP X pins σ Q (.ref s.heap.objs.size) { s with heap:=h',toks:=tk }:=by
  intro c h' tk e kp g;have z:Gg X.prog X.w (upd H s.heap.objs.size (nh X.w s.heap.objs.size ns)) h' s.heap.objs.size (nh X.w s.heap.objs.size ns):=By e g;have Z:=I.laid (h':=h') (t':=tk) kp (e_ _) z;rwa[22,.ref s.heap.objs.size,_,Z,1,q _ (I.hok.fresh (e_ _))]
 cases ns with
 |nil=>
  cases U;erw[pC (I.hd0 hc) pl.isList (.inl rfl) λh' tk kp O=>?_]
  rcases O with⟨_,g⟩|⟨n,t,e,_⟩
  ·rwa[fin none h' tk rfl kp g]
  ·cases e
 |cons n ns=>
  cases ns with
  |cons _ _=>rwa[absurd hn (by simp)]
  |nil=>
   cases U with
   |cons r r''=>
    cases r'';let#[t,1]:=r;erw[pC (I.hd0 hc) pl.isList (.inr #[20,n,t,1]) λh' tk kp O=>?_]
    rcases O with⟨e,_⟩|⟨n',t',e,g⟩
    ·cases e
    ·cases e;rwa[fin (some (n,t)) h' tk rfl kp g]
end
section
variable {p:Pos}
def F6(w:World)(K:Frag):List V->Hp->VK->Prop:=λxs H Q=>∃p ns,xs=[.ref p]/\SqL K H p (ns.map V.int)/\ns.length<=1/\∀a,H a=none->Q (.ref a) (upd H a (nh w a ns))
def Ez(w:World)(K:Frag):List V->Hp->VK->Prop:=λxs H Q=>∃x,xs=[x]/\DI w K H x λns=>ns.length<64/\∀(D:Addr) (zs:List Int),H D=none->zs.Perm ns->zs.Pairwise (· <= ·)->Q (.ref D) (upd H D (.lst (zs.map V.int)))
theorem yL(nset:X.mg "set" = none)(ha:PE X e te)(hK:X.K=K:=by rfl)(hw:X.w=w:=by rfl)(hc:X.still:=by rwa[1,by first|assumption|exact(‹Quiet _›).q])(hg:Gl X "set":=by rfl)(hs:starEach [e] X.env=[(false,eval e X.env)]:=by rfl):PE X (.Call (.Name "set" p) [e] [] pos) (tCB (F6 w K) (ci te cQ)):=by
 subst hK hw;rwa[cZ (wV hc) hg nset wm (aa ha ag hs) #[] #[] hs]
theorem wy(T:Blt X.mg)(ha:PE X e te)(hK:X.K=K:=by rfl)(hw:X.w=w:=by rfl)(hc:X.still:=by rwa[1,by first|assumption|exact(‹Quiet _›).q])(hg:Gl X "sorted":=by rfl)(hs:starEach [e] X.env=[(false,eval e X.env)]:=by rfl):PE X (.Call (.Name "sorted" p) [e] [] pos) (tCB (Ez w K) (ci te cQ)):=by
 subst hK hw;rwa[cJ (tM hc) hg T.sorted boot_sorted (aa ha ag hs) #[] #[] hs]
end
def Dw(tl:TE):TI:=λσ H R=>tl σ H λx H1=>∃d o kvs,x=.ref d/\H1 d=some (.frz o (.dT kvs))/\∀as,Paired (λ(p:List Key×V) (a:Addr)=>H1 a=some (.tup (p.1.map kV))) kvs as->R (Itd d o (.dT kvs) (as.map V.ref)) H1
theorem wX(K:Frag)(hK:X.K=K)(hl:PE X l tl)(hq:X.base.life={}:=by first|assumption|exact(‹Quiet _›).q):PI X tg l (Dw tl):=by
 intros R I h;erw[thn (hl pins s σ H _ I h) λv s1 ⟨x,H1,O,r1,q1⟩=>?_]
 let#[32,d,o,kvs,e,hd,q]:=q1;subst e;cases r1;let#[0374,h0,hz,hm,a1,kt,o',es,ep,h1,h2,U,h4,h5]:=id (show Gg X.prog X.w H1 s1.heap d (.frz o (.dT kvs)) from O.hok d _ hd)
 have Z:o'=o:=by rw[h0] at h1;cases h1;rfl
 subst Z;let#[k1,k2]:=oR (P:=X.prog) (w:=X.w) kt;rw[<- h4] at k2;erw[qL hm #[_,h1,h2,U] ?_];erw[4015,s1.heap.objs.size,[s1.heap.objs.size],_,_,0,O.kept (t':=s1.toks) λb o e=>g_ _ e,xh (u:=.dT kvs) h2 U k2 hq,#[_,A_ _ rfl,1,1],λb hb=>?_,q _ k1]
 have e:b=s1.heap.objs.size:=by simpa using hb
 subst e;rwa[O.fpOk (e_ _) (O.hok.fresh (e_ _))]
section
variable (K:Frag)
theorem Ca{i k:Nat}{y z:Str}{p1 p3:Pos}{kk:Nat}(hK:X.K=K)(hc:X.calm=true)(hN:X.N.Nodup)(hi:X.N[i]? = some x)(hj:X.N[j]? = some y)(hk:X.N[k]? = some z)(hx:X.env.scope.names.lookup x=some .local)(hy:X.env.scope.names.lookup y=some .local)(hz:X.env.scope.names.lookup z=some .local):
  PG X (.Tuple [.Name x p1,.Name y p2,.Name z p3] kk pos) (zL K 3 (iu (bP i) (iu (bP j) (iu (bP k) Bg)))):=by
 subst hK;rwa[km hc (aS (bL hN hi hx) (aS (bL hN hj hy) (aS (bL hN hk hz) ii)))]
end
def FrzD(x:V)(H:Hp):Prop:=∃d o,x=.ref d/\((∃kvs,H d=some (.frz o (.dK kvs)))\/∃kvs,H d=some (.frz o (.dT kvs)))
def tM0(r:V->List V->Hp->VK->Prop)(to:TE):TE:=λσ H Q=>to σ H λx H1=>r x [] H1 Q
theorem tD{o:Expr}{to:TE}{id:String}{r:V->List V->Hp->VK->Prop}(hF:∀x H Q,r x [] H Q->FrzD x H)(slot:Slot "dict" name id)(hty:typeOf (.builtin id)=pure (.type "method_descriptor"))(hm:MtR X id r)(ho:PE X o to)(hbase:attributeBase o name X.env (eval o X.env)=eval o X.env)(hline:(apos.endLine==cpos.line)=true):PE X (.Call (.Attribute o name apos) [] [] cpos) (tM0 r to):=by
 intros Q I h;erw[wpAny_Call_method0_late hbase hline (thn (ho pins s σ H _ I h) λv s1 ⟨x,H1,U,r1,Z⟩=>?_)]
 let#[21,d,O,1,hd]:=hF _ _ _ Z;cases r1;have z:s1.heap.get? d=some O/\O.ExactDict:=by
  rcases hd with⟨kvs,hd⟩|⟨kvs,hd⟩
  ·let#[0372,g,_,_,_,_,o',_,_,e,ex,_]:=(show Gg X.prog X.w H1 s1.heap d (.frz O (.dK kvs)) from U.hok d _ hd)
   rw[g] at e;cases e;rwa[g,ex]
  ·let#[0372,g,_,_,_,_,o',_,_,e,ex,_]:=(show Gg X.prog X.w H1 s1.heap d (.frz O (.dT kvs)) from U.hok d _ hd)
   rw[g] at e;cases e;rwa[g,ex]
 rwa[25,"dict",id,PySem.F.plainAttrs_dict,slot,hty,#[O,z.1,z.2.1],λa e=>by cases e;rwa[O,z.1,z.2.2.1],Calls.callWith_builtin rfl (PySem.evalArgs_none (hm pins s1 σ H1 (.ref d) [] _ [] Q U rfl .nil Z))]
section
variable {o:Expr}{to:TE}(K:Frag)
theorem qk(hK:X.K=K)(ho:PE X o to)(hbase:attributeBase o "items" X.env (eval o X.env)=eval o X.env:=by rfl)(hline:(apos.endLine==cpos.line)=true:=by rfl)(hq:X.base.life={}:=by first|assumption|exact(‹Quiet _›).q):PI X (.Tuple tes tk tp) (.Call (.Attribute o "items" apos) [] [] cpos) (uR (tM0 vM to)):=
 xf (tD (λ_ _ _ ⟨d,o,kvs,e,_,h,_⟩=>#[21,d,o,e,.inl #[kvs,h]]) PySem.F.slot_dict_items PySem.F.type_dict_items wk ho hbase hline)
theorem qG(hK:X.K=K)(ho:PE X o to)(hbase:attributeBase o "items" X.env (eval o X.env)=eval o X.env:=by rfl)(hline:(apos.endLine==cpos.line)=true:=by rfl)(hq:X.base.life={}:=by first|assumption|exact(‹Quiet _›).q):PI X (.Tuple tes tk tp) (.Call (.Attribute o "items" apos) [] [] cpos) (qY (tM0 qD to)):=
 t9 (tD (λ_ _ _ ⟨d,o,kvs,e,_,h,_⟩=>#[21,d,o,e,.inr #[kvs,h]]) PySem.F.slot_dict_items PySem.F.type_dict_items tU ho hbase hline)
theorem BG(hK:X.K=K)(ho:PE X o to)(hbase:attributeBase o "values" X.env (eval o X.env)=eval o X.env:=by rfl)(hline:(apos.endLine==cpos.line)=true:=by rfl)(hq:X.base.life={}:=by first|assumption|exact(‹Quiet _›).q):PI X tg (.Call (.Attribute o "values" apos) [] [] cpos) (rC (tM0 sk to)):=
 tF (tD (λ_ _ _ ⟨d,o,kvs,e,_,h,_⟩=>#[21,d,o,e,.inl #[kvs,h]]) PySem.F.slot_dict_values PySem.F.type_dict_values ur ho hbase hline)
end
theorem k8{f:Str}(K:Frag)(hK:X.K=K)(he:PE X e ta)(hb:attributeBase e f X.env (eval e X.env)=eval e X.env):PE X (.Attribute e f pos) (Fy K ta f):=hK▸dc he hb
def LX:Life:={ known:=1 }
theorem E7:LX≠{}:=λz=>by
 have:=LD Life.known z;rwa[absurd this #[]]
def del(H:Hp)(x:Addr):Hp:=λb=>if b=x then none else H b
theorem gu{x b:Addr}(h:b≠x):del H x b=H b:=w_ h
theorem mI{x:Addr}:del H x x=none:=C_ rfl
theorem fg{x b:Addr}(h:H b=none):del H x b=none:=by
 by_cases e:b=x
 ·rw[e];rwa[mI]
 ·rw[gu e];rwa[h]
theorem EK{x b:Addr}{o:HO}(h:del H x b=some o):b≠x/\H b=some o:=by
 by_cases e:b=x
 ·rw[e,mI] at h;cases h
 ·rw[gu e] at h;rwa[e,h]
theorem Inv.forget{x:Addr}(I:#[7,7])(hx:H x=some (nY x C L)):Inv X pins σ (del H x) s:=by
 have u:=I.base;erw[I.ok,I.os,I.bare,#[u.keep,u.slot,λb o e n O=>fg (u.free b o e n O),u.there,λb xs e=>?_,λb o v e=>?_,λb ps e=>?_],I.loc,I.cell,fg I.free,λy c e=>fg (I.freeC y c e),λp U=>?_,λb Z e=>?_,I.len]
 ·have e2:=u.tups b xs e;rw[gu (λz=>by rw[z,hx] at e2;cases e2)]
  rwa[e2]
 ·have e2:=u.frzs b o v e;rw[gu (λz=>by rw[z,hx] at e2;cases e2)]
  rwa[e2]
 ·let#[mo,e2]:=u.tbls b ps e;rwa[mo,by rw[gu (λz=>by rw[z,hx] at e2;cases e2)];rwa[e2]]
 ·let#[e,n,r]:=I.pin p U;rwa[e,fg n,r]
 ·let#[ne,e]:=EK e;exact(I.hok b Z e).stay (λc v _ z=>z) (λc z=>by rw[gu (λq=>by rw[q,hx] at z;cases z)];rwa[z]) λc xs z=>by rw[gu (λq=>by rw[q,hx] at z;cases z)];rwa[z]
noncomputable def baseX (h base:Heap) (x:Addr):Heap:=by
 classical
 rwa[{ hideAll h ((List.range h.objs.size).filter λa=>decide (base.get? a=none/\a≠x)) with life:=LX }]
theorem rA{base:Heap}{x b:Addr}{o:Obj}(e:(baseX h base x).get? b=some o):h.get? b=some o/\(b=x\/∃o',base.get? b=some o'):=by
 classical
 have O:h.get? b=some o:=of_hideAll ((List.range h.objs.size).filter λa=>decide (base.get? a=none/\a≠x)) e
 erw[O,?_]
 by_cases U:b=x
 ·rwa[.inl U]
 ·cases q:base.get? b with
  |some o'=>rwa[.inr #[o',1]]
  |none=>
   have:(hideAll h ((List.range h.objs.size).filter λa=>decide (base.get? a=none/\a≠x))).get? b=none:=PySem.W.hideAll_none _ (List.mem_filter.mpr #[M_.mpr (Hl O),q_ #[q,U]])
   rw[show(baseX h base x).get? b=_ from this] at e
   cases e
theorem pE{base:Heap}{x b:Addr}{o:Obj}(e:h.get? b=some o)(hb:b=x\/∃o',base.get? b=some o'):(baseX h base x).get? b=some o:=by
 classical
 refine(hideAll_get ((List.range h.objs.size).filter λa=>decide (base.get? a=none/\a≠x)) e λhm=>?_:(hideAll h _).get? b=some o)
 let#[h1,h2]:=E_ (List.mem_filter.mp hm).2
 rcases hb with z|⟨o',z⟩
 ·rwa[h2 z]
 ·rw[h1] at z;cases z
theorem tX{base:Heap}{x:Addr}:(baseX h base x).objs.size=h.objs.size:=PySem.W.hideAll_size _ _
theorem uK{base base':Heap}(hb:∀b o,base.get? b=none->h.get? b=some o->(∀vs,o.data≠.fields vs)->base'.get? b=none):∀{l:List Env},h.FunFrames base l->h.FunFrames base' l
 |[],_=>trivial
 |env::r,⟨k,⟨L,o,hf,hn,ho,hd⟩,hr⟩=>#[k,#[23,L,o,hf,hb L o hn ho hd,ho,hd],uK hb hr]
theorem Gi.marked2{base:Heap}{k:Nat}(r:Gi base k A)(h h':Option Value):RoomH k ((A.mark h).mark h'):=#[r.dp,r.un]
def Dx(x:Addr)(sp:Sp)(E:XK)(t:TA):TE:=λσ H Q=>t σ H λvs H1=>(∃C,H1 x=some (nY x C {}))/\sp vs (del H1 x) Q E
theorem BQ{x0:Addr}{k:Nat}{p:Pos}{t:TA}(F:∀O:Heap,X.K.In O->O.Ns mainGlobals X.mg->jY X.prog X.w X.K X.mg O k x sp)(hr:RoomH k (X.caught x0).A)(ha:PA (X.caught x0).nox (e::es) t)(hg:Gl X x:=by rfl)(hdb:(x==("__debug__" : Str))=false:=by decide)(he:starEach (e::es) X.env=(false,eval e X.env)::starEach es X.env:=by rfl)(hpl:(backTo pos (starEach es X.env)).any (·.1)=false:=by rfl):
  PEX (X.caught x0) LX (.Call (.Name x p) (e::es) [] pos) (λEX=>Dx x0 sp EX t):=by
 intros Q EX I h;let#[33,f0,a3,a5,_,hm,hk,_]:=(F X.base I.ok.mod.kin I.ok.mod.glob).ex;erw[MG (dY (X:=X.caught x0) I hg hm ?_ hdb)];erw[callWith_K (h₀:=X.base) I.ok.mod.kin hk (Mf (ha pos pins s σ H _ (I.wish _) h) (λus s1 z=>?_) λ_ _ z=>False.elim z) he hpl]
 let#[23,vs,H1,a2,r,#[C,hx],q]:=z;have U:Inv (X.caught x0) pins σ H1 s1:=a2.unwish;erw[U.kIn,?_];have I2:=U.forget hx;have f2:({}:Life)={}->jx s1.heap x0 (some .none):=(show Gg X.prog X.w H1 s1.heap x0 (nY x0 C {}) from U.hok x0 _ hx).1.2
 let#[22,ox,vx,gx,dx,cx]:=f2 rfl;have up:∀b o,X.base.get? b=some o->(baseX s1.heap X.base x0).get? b=some o:=λb o z=>pE (U.bk b o z) (.inr #[o,z])
 have M0:=U.ok.mod;have M1:Mod X.K X.mg (baseX s1.heap X.base x0):=#[M0.kin.keeps up,M0.glob.keeps up,let ⟨mb,h1,h2⟩:=M0.blt;#[mb,h1.keeps up,h2],M0.nolimit.keeps up]
 have e0:Env0 X.prog X.w X.K X.mg (baseX s1.heap X.base x0) (X.caught x0).A X.stack s1 (del H1 x0):=by
  erw[U.ok.frames,M1,λb o z=>?_,PU tX,uK (λb o z ho hd=>?_) U.stack,λb Z=>fg (U.stkFree b Z),I2.hok,U.bare]
  ·let#[z1,z2]:=rA z;erw[z1,?_]
   by_cases Z:b=x0
   ·rw[Z];rwa[mI]
   ·rcases z2 with z2|⟨o',z2⟩
    ·rwa[absurd z2 Z]
    ·rwa[fg (U.bs b o' z2).2]
  ·cases q2:(baseX s1.heap X.base x0).get? b with
   |none=>rfl
   |some o2=>
    let#[y1,y2]:=rA q2
    rcases y2 with y2|⟨o',y2⟩
    ·rw[y2,gx] at ho;cases ho;rwa[absurd dx (hd vx)]
    ·rw[show X.base.get? b=none from z] at y2;cases y2
 have rm:Gi (baseX s1.heap X.base x0) k (X.caught x0).A:=#[#[λz=>absurd z E7,.inr #[33,x0,ox,vx,1,pE gx (.inl rfl),dx,cx]],hr.dp,hr.un]
 let#[33,f,fd,ps,FO,a1,a4,Z]:=(F _ M1.kin M1.glob).ex;obtain rfl:f0=f:=by
  rw[hm] at a1;cases a1
  rfl
 have hl:us.length=ps.length:=by rw[<- r.length];rwa[FO.len _ _ _ _ q]
 have bb:=Z s1 us U.kIn (by rw[Pg];rwa[hl])
 rw[Pg] at bb;erw[PV (Ox (FO.run (X.caught x0).A X.stack s1 (del H1 x0) #[us,[]] us vs Q EX rm e0 bb r q) λr s' hq=>?_)]
 cases r with
 |error e=>rwa[21,_,s1,I2,hq]
 |ok fl=>
  cases fl with
  |ret u=>rwa[I2.after hq]
  |next=>rwa[False.elim hq]
  |brk=>rwa[False.elim hq]
  |cont=>rwa[False.elim hq]
section
variable {n:Str}{k:Nat}
theorem DefIn.lawQ{fa:Addr}(X:K.In h)(G:h.Ns mainGlobals mg)(d:DefIn K n st)(e:mg n=some (.ref fa))(o:∀{fd} {base:Heap},Fun K n n st fa fd->base.life={}->K.In base->base.Ns mainGlobals mg->`Gd CX0 k fa fd ps sp)(b:BindsOk n st [x]:=by(repeat intro _);rfl):
  ∃fd:FuncData,(∀(s:Shared) (v:Value),BindsTo s fd #[[v],[]] [(x,v)])/\∀base:Heap,base.life={}->K.In base->base.Ns mainGlobals mg->`Gd CX0 k fa fd ps sp:=by
 let#[21,f,fd,a,F]:=d;cases e.symm.trans (P7 X G a);let#[404012,oc,od,kV,doc,pm,an,cdv,ct,osl,1,U,O]:=id F.ex;rwa[_,λs v=>.of_eq (b kV doc pm an cdv ct v),λbase=>o F]
end
structure ClsIn (K:Frag) (n:Str) (C:Addr):Prop where
 a:nsIn K mainGlobals n=some (some (.ref C))
 pg:plainGet K C Str.empty=true
 hd:hasDictIn K C=true
 po:PySem.W.plainOver K C=true
 sa:findIn K (.ref C) "__setattr__"=some (some (.builtin "object.__setattr__"))
 ms:makesIn K C=true
 kc:keepIn K (.ref C)=true
theorem ClsIn.cl{n:Str}(e:ClsIn K n C):Cls K C:=#[e.pg,e.hd,e.po,e.sa]
def MethIn(K:Frag)(C:Addr)(m q:Str)(st:Stmt):Prop:=∃f fd,nu K C m f/\Fun K m q st f fd
theorem MethIn.mk{m:Str}{kV:Value}(a:findIn K (.ref C) m=some (some (.ref f)))(i:isFn K (.ref f)=true)(l:K.lookup f=some #[oc,od,.func (fnOf m q (bJ st) (aW st) (aj st) .none kV doc pm an cdv ct),osl])(c:codeIn K cdv q=true)(k:keepIn K (.ref f)=true):MethIn K C m q st:=#[21,f,_,#[a,i,k],Ac l c k]
def BindsM(m q:Str)(st:Stmt)(ps:List Str):Prop:=∀(kV doc pm:Value) (an:Option Addr) (cdv ct:Value),AllA ps.length λus=>bindArgs (fnOf m q (bJ st) (aW st) (aj st) .none kV doc pm an cdv ct) #[us,[]]=pure (ps.zip us)
section
variable {base:Heap}
theorem BindsM.b{m:Str}(h:BindsM m q st ps){fd:FuncData}(F:Fun K m q st f fd):Gq K fd ps []:=F.binds λa b c d e g=>(h a b c d e g).all
theorem MethIn.b{m:Str}{k:Nat}(d:MethIn K C m q st)(cl:Cls K C)(o:∀{f fd},Fun K m q st f fd->`Gd CX0 k f fd ps sp)(b:BindsM m q st ps:=by(repeat intro _);rfl):`MtB k C m sp:=
 let ⟨f,fd,M,F⟩:=d
 #[#[32,f,fd,ps,o F,M,b.b F],cl]
theorem MethIn.i{k:Nat}(d:MethIn K C "__init__" q st)(e:ClsIn K x C)(A:mg x=some (.ref C))(o:∀{f fd},Fun K "__init__" q st f fd->`Gd CX0 k f fd ps sp)(b:BindsM "__init__" q st ps:=by(repeat intro _);rfl):`MkB k C x sp:=
 let ⟨f,fd,M,F⟩:=d
 #[#[32,f,fd,ps,o F,#[e.ms,M.at_,M.fn,e.kc],b.b F],A]
theorem MethIn.ix{k:Nat}(d:MethIn K C "__init__" q st)(e:ClsIn K x C)(A:mg x=some (.ref C))(o:∀{f fd},Fun K "__init__" q st f fd->`Gd (CXE P w base.life) k f fd ps sp)(b:BindsM "__init__" q st ps:=by(repeat intro _);rfl):`CH k C x sp:=
 let ⟨f,fd,M,F⟩:=d
 #[#[32,f,fd,ps,o F,#[e.ms,M.at_,M.fn,e.kc],b.b F],A]
end
theorem defH{Kf:Frag}{base:Heap}{n:Str}{k:Nat}(X:Kf.In h)(G:h.Ns mainGlobals mg)(d:DefIn Kf n st)(o:∀{f fd},Fun Kf n n st f fd->rX P w Kf mg base k f fd ps sp)(b:BindsOk n st ps:=by(repeat intro _);rfl):CI P w Kf mg base k n sp:=
 let ⟨f,fd,a,F⟩:=d
 #[f,fd,ps,o F,P7 X G a,F.kp,b.b F]
theorem MethIn.go{m:Str}{X:Prop}(d:MethIn K C m q st)(o:∀{f fd},Fun K m q st f fd->nu K C m f->Gq K fd ps []->X)(b:BindsM m q st ps:=by(repeat intro _);rfl):X:=
 let ⟨_,_,M,F⟩:=d
 o F M (b.b F)
end L2
set_option exponentiation.threshold 9000
namespace K
open PySem L2 PyProof.Rows
variable {P:Program}{w:World}{K:Frag}{mg:Str->Option Value}{base:Heap}
variable {P:Program}{w:World}{K:Frag}{mg:Str->Option Value}{j z n B M N X0 L0:Nat}{a e lo:Int}{σ rest:L2.St}{H H' H0:Hp}{c f CF CG CT C_NoTurn HR Ia IL Je C_NoRung C_NoRelation C_NoMap C_NoText C_NoName C_TooMany Im:Addr}{d:PyData}{xs:List (Int×Int)}{g:TG}{tb:TS}{fd:FuncData}{α β:Type}{ns l es:List Int}{x y:Int×Int}{tk:Tok}{v:V}{p:List Addr}{ps cs:List Nat}{R Q:VK}{q:Nat×List (Int×Int)}{ls:List (List Int)}{J:It}{src:List (Option Nat)}{te ta:TE}{us dvs:List V}{ds:List PyData}
def top(i:Nat):Stmt:=PySem.Challenge.pw_relationladder_k50_no_turns.main.body.getD i (.Pass #[(0),(0),(0),(0)])
abbrev cL:Stmt:=top 15
abbrev jV:Stmt:=top 16
abbrev cM:Stmt:=inClass (top 21) 0
abbrev bX:Stmt:=inClass (top 21) 1
abbrev aK:Stmt:=inClass (top 21) 2
abbrev cW:Stmt:=inClass (top 21) 3
abbrev dn:Stmt:=inClass (top 22) 0
abbrev ff:Stmt:=inClass (top 22) 1
abbrev cP:Stmt:=inClass (top 22) 2
abbrev bA:Stmt:=inClass (top 22) 3
abbrev gc:Stmt:=inClass (top 22) 4
abbrev df:Stmt:=top 23
abbrev iT:Stmt:=top 24
abbrev cD:Stmt:=top 25
abbrev j7:Stmt:=top 26
abbrev lI:Stmt:=top 31
abbrev iN:Stmt:=top 32
abbrev dj:Stmt:=top 34
abbrev de:Stmt:=top 35
abbrev gB:Stmt:=top 36
abbrev cI:Stmt:=top 37
abbrev pK:Stmt:=top 38
abbrev cR:Stmt:=top 39
abbrev lH:Stmt:=top 41
abbrev mP:Stmt:=top 42
abbrev dP:Stmt:=inClass (top 45) 0
abbrev eI:Stmt:=inClass (top 45) 1
abbrev eh:Stmt:=inClass (top 45) 2
abbrev lM:Stmt:=top 46
abbrev uE:Stmt:=top 48
abbrev dL:Stmt:=top 49
abbrev fT:Stmt:=top 50
abbrev fC:Stmt:=top 52
abbrev eA:Stmt:=top 53
abbrev fS:Stmt:=top 54
abbrev fE:Stmt:=top 55
abbrev fc:Stmt:=top 56
abbrev cE:Stmt:=inClass (top 57) 0
abbrev cX:Stmt:=inClass (top 57) 1
abbrev bQ:Stmt:=inClass (top 57) 2
abbrev dC:Stmt:=inClass (top 57) 3
abbrev gw:Stmt:=top 59
abbrev iQ:Stmt:=top 60
abbrev gM:Stmt:=top 61
abbrev fZ:Stmt:=top 62
abbrev iK:Stmt:=top 63
abbrev dR:Stmt:=top 64
abbrev fU:Stmt:=top 65
abbrev et:Stmt:=top 66
abbrev gq:Stmt:=top 67
abbrev gk:Stmt:=top 68
abbrev fF:Stmt:=top 69
abbrev eZ:Stmt:=top 70
abbrev gD:Stmt:=top 71
abbrev gs:Stmt:=top 72
abbrev gN:Stmt:=top 73
abbrev fA:Stmt:=top 74
abbrev e9:Stmt:=top 75
abbrev eV:Stmt:=top 76
abbrev eO:Stmt:=top 77
abbrev cG:Stmt:=top 78
abbrev fH:Stmt:=top 79
abbrev eP:Stmt:=top 80
abbrev e7:Stmt:=top 81
abbrev gI:Stmt:=top 82
abbrev eC:Stmt:=top 83
abbrev gd:Stmt:=top 84
abbrev eM:Stmt:=top 85
abbrev gP:Stmt:=top 86
abbrev zn:Stmt:=top 87
theorem E6:(["_law_part", "_law_number_here"]:List Str).Nodup:=#[5]
def CDivA(_ j:Int):Prop:=j≠0/\j.natAbs<2^8800
theorem CDivA.ok{i j:Int}(h:CDivA i j):Builtin.divisionGoesByPylong i j=false:=by
 erw[PyProof.noPylong_of_log2 ?_]
 by_cases h0:j.natAbs=0
 ·rw[h0];decide +kernel
 ·have O:j.natAbs.log2<8800:=(Nat.log2_lt h0).mpr h.2;lia
theorem bj{X:Cx}:OpR X (binaryOp .FloorDiv) (rI CDivA λi j=>.int (i.fdiv j)):=opI λ_ _ _ _ _ _ _ O q=>floordiv_int O.1 q (.inl O.ok)
theorem fu{i j:Int}(hi:i.natAbs<2^8800)(hj:j.natAbs<2^8800):IntMulOk i j:=by
 have O:∀{k:Int},k.natAbs<2^8800->Builtin.Int.intBits k<=8800:=λ{k} h=>by
  unfold Builtin.Int.intBits
  split
  ·lia
  ·rename_i h0;have U:k.natAbs≠0:=by intro z;apply h0;simp;lia
   have:=(Nat.log2_lt U).mpr h;lia
 have h1:=O hi;have h2:=O hj;unfold IntMulOk;have Z:Builtin.Int.intTooBig ((Builtin.Int.intBits i:Int)+Builtin.Int.intBits j)=false:=by
  unfold Builtin.Int.intTooBig;rw[decide_eq_false_iff_not];have:bitsLine=2^27:=rfl;rw[this];lia
 rw[Z];simp
theorem sq1{a z:TS}{D:gi}(o:∀R,R=z->(ip a R) D σ H):(ip a z) D σ H:=o z rfl
theorem sq5{a b c d e z:TS}{D:gi}(o:∀R,R=z->(ip a (ip b (ip c (ip d (ip e R))))) D σ H):(ip a (ip b (ip c (ip d (ip e z))))) D σ H:=o z rfl
theorem bw{a:Addr}{xs:List V}{D:gi}(Pv:Nat->L2.St->Hp->Prop)(h0:Pv 0 σ H)(hl:∀i σ H,i<=xs.length->Pv i σ H->SqL K H a xs)(hs:∀i x σ H,xs[i]? = some x->Pv i σ H->∀N B:L2.St->Hp->Prop,(∀σ' H',Pv (i+1) σ' H'->N σ' H')->g x σ H λσ2 H2=>tb { nx:=N,ct:=N,bk:=B,rt:=D.rt } σ2 H2)(hd:∀σ H,Pv xs.length σ H->D.nx σ H):
  ∃W:Nat->Nat->L2.St->Hp->Prop,(∃m,W 0 m σ H)/\∀i m σ H,W i m σ H->
   ((Itl K a).stop i H/\D.nx σ H)\/((Itl K a).go i H/\∃N:L2.St->Hp->Prop,(∀σ' H',N σ' H'->∃O,O<m/\W (i+1) O σ' H')/\∀x H',(Itl K a).yld i H x H'->g x σ H' λσ2 H2=>tb { D with nx:=N,ct:=N,bk:=D.nx } σ2 H2):=
 rF Pv h0 hl (λi x σ H e p=>hs i x σ H e p _ _ λ_ _ z=>z) hd
theorem l0{D:gi}(Pv:Nat->L2.St->Hp->Prop)(h0:Pv 0 σ H)(hs:∀i σ H,i<n->Pv i σ H->∀N B:L2.St->Hp->Prop,(∀σ' H',Pv (i+1) σ' H'->N σ' H')->g (.int (lo+i)) σ H λσ2 H2=>tb { nx:=N,ct:=N,bk:=B,rt:=D.rt } σ2 H2)(hd:∀σ H,Pv n σ H->D.nx σ H):
  ∃W:Nat->Nat->L2.St->Hp->Prop,(∃m,W 0 m σ H)/\∀i m σ H,W i m σ H->
   ((Itr lo n).stop i H/\D.nx σ H)\/((Itr lo n).go i H/\∃N:L2.St->Hp->Prop,(∀σ' H',N σ' H'->∃O,O<m/\W (i+1) O σ' H')/\∀x H',(Itr lo n).yld i H x H'->g x σ H' λσ2 H2=>tb { D with nx:=N,ct:=N,bk:=D.nx } σ2 H2):=
 kg Pv h0 (λi σ H e p=>hs i σ H e p _ _ λ_ _ z=>z) hd
theorem aP{j:Int}(h:0<=j)(h2:j<2^63):j.natAbs<2^8800:=by
 have O:j.natAbs<2^63:=()
 rwa[Hh O (Hr #[] #[])]
theorem ja{i j:Int}(h:0<j)(h2:j<2^63):CDivA i j:=#[(),aP () h2]
theorem AI(ns:List Int){k:Int}(h0:0<=k)(h1:k<ns.length):∃z,atI (ns.map V.int) k=some (V.int z):=by
 let#[n,1]:=MT h0;have hn:n<ns.length:=()
 rwa[ns[n],bN (by rw[Hx,ge hn];rfl)]
def Ax(K:Frag):Sp:=λvs H Q _=>∃(a:Addr) (ns:List Int) (k:Int),vs=[.ref a,.int k]/\SqL K H a (ns.map V.int)/\ns.length<=63/\0<=k/\k<=100/\∀r:Int,Q (.int r) H
def ir(a b:Int):Int:=(a*48271+7919*b*b+17)%2147483647
def Gn(a b:Int)(k:Nat):Prop:=b=0\/(0<=a/\a<2147483647/\0<b/\b<=k)
def C8(K:Frag):Sp:=λvs H Q _=>∃(a:Addr) (ns:List Int) (k:Int),vs=[.ref a,.int k]/\SqL K H a (ns.map V.int)/\ns.length<=63/\0<=k/\k<=99/\
 ∀(p:Addr) (a b:Int),H p=none->Gn a b 100->Q (.ref p) (upd H p (.lst [.int a,.int b]))
def fD:Sp:=λvs H Q _=>∃(p:Addr) (a b m:Int) (k:Nat),vs=[.ref p,.int m]/\H p=some (.lst [.int a,.int b])/\Gn a b k/\k<=1000000/\0<m/\m.natAbs<2^8800/\
 ∀r a' b',0<=r->r<m->Gn a' b' (k+1)->Q (.int r) (upd H p (.lst [.int a',.int b']))
section
variable [Quiet base]
theorem G0:Gb ["_law_script", "_law_k", "_law_seed", "_law_some"] ["_law_script", "_law_k"] (aj gw):=.i
theorem BF(F:Fun K "_law_cell" "_law_cell" gw f fd)(T:Blt mg):`Gd CX0 1 f fd ["_law_script", "_law_k"] (Ax K):=by
 erw[F.o G0 λ_ _ _ _ H _ Q _ hr h=>?_]
 ·let#[35,a,ns,k,1,hS,hl,hk0,hk1,q]:=h
  have a1:((ns.map V.int).length:Int)=ns.length:=by rw[z_]
  erw[_,(af (aL (aw gJ (pv 1) (bY K T (pv 0)) (au _))
(ai (ar (aC (aH K rfl) (pv 0) (pv 1) (λ_ _=>rfl))))
aB)
(af #[5,2,G0,(ao bH (pv 1) ah)]
(af (aL (aw gQ (bY K T (pv 0)) ah (au _))
(ai #[5,2,G0,(ao aQ (pv 2) (ao aZ (aC (aH K rfl) (pv 0) (ao aZ (pv 1) (bY K T (pv 0))) (λ_ _=>rfl)) ah))])
aB)
(af #[5,3,G0,(ao aZ (ao bH (pv 2) ah) ah)]
(ai (ar (ao aZ (ao bj (ao bH (pv 3) (ao aQ (ao aQ (pv 3) (ao bH ah (pv 1))) ah)) ah) ah))))))),?_]
  erw[51222211,0,0,a,0,.inl hS,2,0,?_];erw[bC (λh=>?_) (λh=>?_)]
  ·have h':k<ns.length:=by have:=E_ h;lia
   let#[z,U]:=AI ns hk0 h';rwa[5144,0,0,a,_,2,hS,U,q _]
  ·erw[63,0,2,.inl #[(),()],?_]
   erw[622211,0,a,0,.inl hS,2,0,?_];have fin:∀Z:Int,(0:Int)<=Z*48271%65537/\Z*48271%65537<65537:=λZ=>#[L5 _ #[],LC _ #[]]
   erw[bC (λh=>?_) (λh=>?_)]
   ·have h':0<(ns.length:Int):=by have:=E_ h;lia
    let#[z,U]:=AI ns (k:=k%((ns.map V.int).length:Int)) (L5 _ ()) (by have:=LC k (b:=((ns.map V.int).length:Int)) ();lia)
    erw[51512223442322,0,0,0,0,a,0,.inl hS,2,(by show(0:Int)<_;lia),a,_,2,hS,U,2,(by show(0:Int)<65537;decide),2,?_]
    have O:=fin (k*7919+z%65537);erw[6323,0,2,.inr #[#[],#[]],2,(by show(0:Int)<65537;decide),?_]
    rwa[51632222232323,0,0,0,2,.inl #[#[],#[]],2,2,2,.inl #[Int.lt_of_lt_of_le #[] O.1,Int.lt_of_lt_of_le O.2 #[]],2,ja #[] #[],2,(by show(0:Int)<65521;decide),q _]
   ·have O:=fin (k*7919);erw[6323,0,2,.inr #[#[],#[]],2,(by show(0:Int)<65537;decide),?_]
    rwa[51632222232323,0,0,0,2,.inl #[#[],#[]],2,2,2,.inl #[Int.lt_of_lt_of_le #[] O.1,Int.lt_of_lt_of_le O.2 #[]],2,ja #[] #[],2,(by show(0:Int)<65521;decide),q _]
theorem sc__law_bag:Gb ["_law_script", "_law_at", "_law_cell_here"] ["_law_script", "_law_at"] (aj iQ):=.i
theorem Ev(F:Fun K "_law_bag" "_law_bag" iQ f fd)(Jz:`FnB 1 "_law_cell" (Ax K)):`Gd CX0 2 f fd ["_law_script", "_law_at"] (C8 K):=by
 erw[F.o sc__law_bag λ_ _ _ _ H _ Q _ Z h=>?_]
 ·let#[35,a,ns,k,1,hS,hl,hk0,hk1,q]:=h
  erw[_,(af #[5,2,sc__law_bag,(az Jz Z.m #[6,0,1])]
(af (aL (PW.pt (gf (aw C6 (pv 2) (ao iX ah ah) (au _)) (f9 (aw rS (pv 2) (rQ iE (ao iX ah ah)) (au _)))))
(ai (ar (aX #[6,2,ah])))
aB)
(ai (ar (aX #[6,(ao aZ (pv 2) ah),(ao aQ (pv 1) ah)]))))),?_]
  erw[5135,0,0,a,ns,k,1,hS,hl,hk0,(),λr=>?_]
  erw[632211,0,2,#[#[],#[],#[]],2,0,?_]
  have U:(0:Int)<=r%2147483647/\r%2147483647<2147483647:=#[L5 _ #[],LC _ #[]]
  erw[bC (λh=>?_) (λh=>?_)]
  ·erw[aU ?_];rwa[0,by show 2<=sizeLine;decide,λp O=>q p r 0 O (.inl rfl)]
  ·erw[636211,0,2,#[#[],#[],#[]],0,2,0,?_]
   erw[bC (λh=>?_) (λh=>?_)]
   ·rwa[0,by show 2<=sizeLine;decide,λp O=>q p r 0 O (.inl rfl)]
   ·rwa[6363,0,2,(by show(0:Int)<2147483647;decide),0,2,by show 2<=sizeLine;decide,λp O=>q p _ _ O (.inr #[U.1,U.2,(),()])]
theorem sc__law_take:Gb ["_law_bag_here", "_law_many", "_law_some"] ["_law_bag_here", "_law_many"] (aj gM):=.i
theorem B8(F:Fun K "_law_take" "_law_take" gM f fd):`Gd CX0 1 f fd ["_law_bag_here", "_law_many"] fD:=by
 erw[F.o sc__law_take λ_ _ _ _ H _ Q _ hr h=>?_]
 ·let#[4016,p,a,b,m,k,1,hp,hb,hk,hm,hm2,q]:=h
  erw[_,(af (aL (aw bf (aC (aH K rfl) (pv 0) ah (λ_ _=>rfl)) ah (au _))
(af #[5,2,sc__law_take,(ao aZ (aC (aH K rfl) (pv 0) ah (λ_ _=>rfl)) (pv 1))]
(af (ux (ao bj (aC (aH K rfl) (pv 0) ah (λ_ _=>rfl)) (pv 1)) (sU (pv 0) ah lU))
(ai (ar (pv 2)))))
aB)
(af (ux (ao aZ (ao aQ (ao aQ (ao bH (aC (aH K rfl) (pv 0) ah (λ_ _=>rfl)) ah) (ao bH (ao bH ah (aC (aH K rfl) (pv 0) ah (λ_ _=>rfl))) (aC (aH K rfl) (pv 0) ah (λ_ _=>rfl)))) ah) ah) (sU (pv 0) ah lU))
(af (ux (ao aQ (aC (aH K rfl) (pv 0) ah (λ_ _=>rfl)) ah) (sU (pv 0) ah lU))
(ai (ar (ao aZ (ao aZ (ao bH (aC (aH K rfl) (pv 0) ah (λ_ _=>rfl)) ah) ah) (pv 1))))))),?_]
  have O:∀(a b:Int) (H':Hp),H' p=some (.lst [.int a,.int b])->SqL K H' p [.int a,.int b]:=λa b H' h=>SqL.of h
  erw[8511,0,p,_,2,O a b H hp,1,1,0,?_];erw[bC (λh=>?_) (λh=>?_)]
  ·have U:b=0:=by simpa using h
   erw[8463,0,p,_,2,O a b H hp,1,0,2,hm,?_];erw[846384,0,p,_,2,O a b H hp,1,0,2,#[(),hm2],0,p,_,2,hp,1,?_]
   erw[0,?_];rwa[q _ _ _ (L5 _ ()) (LC _ hm) (.inl U)]
  ·have U:b≠0:=by simpa using h
   rcases hb with z|⟨a0,a1,b0,b1⟩
   ·rwa[absurd z U]
   erw[84238423842322222384,0,p,_,2,O a b H hp,1,2,.inl #[(),()],0,p,_,2,O a b H hp,1,2,.inl #[#[],#[]],0,p,_,2,O a b H hp,1,2,.inr #[(),()],2,2,2,(by show(0:Int)<2147483647;decide),0,p,_,2,hp,1,?_]
   have Z:0<=ir a b:=L5 _ #[]
   have a2:ir a b<2147483647:=LC _ #[]
   erw[842284,0,p,_,2,O (ir a b) b _ ae,1,2,0,p,[.int (ir a b),.int b],2,ae,1,?_];erw[84232363,0,p,_,2,O (ir a b) (b+1) _ ae,1,2,.inl #[(),()],2,(by show(0:Int)<2147483629;decide),0,2,hm,?_]
   have e:upd (upd H p (.lst [.int (ir a b),.int b])) p (.lst [.int (ir a b),.int (b+1)])=upd H p (.lst [.int (ir a b),.int (b+1)]):=cf;have z:=q (ir a b*69621%2147483629%m) (ir a b) (b+1) (L5 _ ()) (LC _ hm) (.inr #[Z,a2,(),()])
   rw[<- e] at z;rwa[z]
end
def jE(K:Frag):Sp:=λvs H Q _=>∃(v:V) (t:Value) (b c:Bool),vs=[v]/\GE K H v t/\kitOne K t (.type "int")=some b/\kitOne K t (.type "bool")=some c/\Q (.bl (b && !c)) H
theorem Gn.mono{b:Int}{k:Nat}(h:Gn a b j)(hk:j<=k):Gn a b k:=by
 rcases h with h|⟨h1,h2,O,U⟩
 ·rwa[.inl h]
 ·rwa[.inr #[h1,h2,O,()]]
section
variable [Quiet base]
theorem nB:Gb ["_law_found"] ["_law_found"] (aj fZ):=.i
theorem Ay(F:Fun K "_law_whole" "_law_whole" fZ f fd)(T:Blt mg):`Gd CX0 1 f fd ["_law_found"] (jE K):=by
 erw[F.o nB λ_ _ _ _ H _ Q _ O h=>?_]
 ·let#[44,v,t,b,c,1,ty,h1,h2,q]:=h
  erw[_,(ai (ar (dO (eG K T (pv 0) T.int gZ) (fe (tP (eG K T (pv 0) T.bool mw)))))),?_];erw[6211,0,t,b,ty,h1,0,?_];cases b with
  |false=>rwa[bO q]
  |true=>rwa[aU #[6211,0,t,c,ty,h2,0,q]]
end
theorem sqvT{a:Addr}{xs:List V}(h:SqT K H a xs):SqV true K H a xs:=h
theorem fI{a:Addr}{xs:List V}(h:SqL K H a xs):SqV false K H a xs:=h
def v2(f:Int->Int->V):V->V->V:=λx y=>match x,y with
 |.int i,.int j=>f i j
 |_,_=>.non
def v1(f:Int->V):V->V:=λx=>match x with
 |.int i=>f i
 |_=>.non
theorem zc(f:Int->Int->V):∀ns ms:List Int,List.zipWith (v2 f) (ns.map V.int) (ms.map V.int)=List.zipWith f ns ms
 |[],_=>rfl
 |_::_,[]=>rfl
 |n::ns,m::ms=>LD (f n m :: ·) (zc f ns ms)
theorem ut(f:Int->V)(ns:List Int):(ns.map V.int).map (v1 f)=ns.map f:=by
 rw[Oo];rfl
theorem Au(g:α->V)(f:Int->Int->α):∀ns ms:List Int,List.zipWith (λi j=>g (f i j)) ns ms=(List.zipWith f ns ms).map g
 |[],_=>rfl
 |_::_,[]=>rfl
 |n::ns,m::ms=>LD (g (f n m) :: ·) (Au g f ns ms)
theorem fP{i:Nat}{x:V}(h:(ns.map V.int)[i]? = some x):∃z,ns[i]? = some z/\x=.int z:=by
 rw[Hx] at h;cases e:ns[i]? with
 |none=>rw[e] at h;cases h
 |some z=>rw[e] at h;rwa[z,1,(Mc h).symm]
theorem gv:((10:Int)^(10:Int).toNat)=10000000000:=#[5]
def pT:Sp:=λvs H Q _=>∃(p:Addr) (a b:Int) (k:Nat),vs=[.ref p]/\H p=some (.lst [.int a,.int b])/\Gn a b k/\k<=900000/\
 ∀(r a' b':Int),0<=r->r<1000000000000000000000000000000->Gn a' b' (k+3)->Q (.int r) (upd H p (.lst [.int a',.int b']))
def qR:Sp:=λvs H Q _=>∃(p:Addr) (a b:Int) (k:Nat),vs=[.ref p]/\H p=some (.lst [.int a,.int b])/\Gn a b k/\k<=800000/\
 ∀(r a' b':Int),-1000000000000000000000000000000<r->r<1000000000000000000000000000000->Gn a' b' (k+4)->Q (.int r) (upd H p (.lst [.int a',.int b']))
section
variable [Quiet base]
theorem sc__law_great:Gb ["_law_bag_here", "_law_high"] ["_law_bag_here"] (aj fA):=.i
theorem Aa(F:Fun K "_law_great" "_law_great" fA f fd)(HQ:`FnB 1 "_law_take" fD):`Gd CX0 2 f fd ["_law_bag_here"] pT:=by
 erw[F.o sc__law_great λ_ _ _ _ H _ Q _ hr h=>?_]
 ·let#[44,p,a,b,k,1,hp,hb,hk,q]:=h
  erw[_,(af #[5,1,sc__law_great,(ao aQ (ao bH (az HQ hr.m #[6,0,(ao iX ah ah)]) (ao iX ah ah)) (az HQ hr.m #[6,0,(ao iX ah ah)]))]
(ai (ar (ao aQ (ao bH (pv 1) (ao iX ah ah)) (az HQ hr.m #[6,0,(ao iX ah ah)]))))),?_]
  erw[634016,0,2,#[#[],#[],#[]],p,a,b,_,k,1,hp,hb,(),by rw[gv];decide,by rw[gv];rwa[aP #[] #[]],λr1 a1 b1 a7 a4 O=>?_]
  rw[gv] at a4;erw[2323,2,#[#[],#[],#[]],2,.inl #[(),()],?_]
  erw[634016,0,2,#[#[],#[],#[]],p,a1,b1,_,k+1,1,ae,O,(),by rw[gv];decide,by rw[gv];rwa[aP #[] #[]],λr2 a2 b2 a8 a5 U=>?_]
  rw[gv] at a5;erw[22,2,?_];erw[6323,0,2,#[#[],#[],#[]],2,.inr (by rw[gv];rwa[#[],#[]]),?_]
  erw[634016,0,2,#[#[],#[],#[]],p,a2,b2,_,k+2,1,ae,U,(),by rw[gv];decide,by rw[gv];rwa[aP #[] #[]],λr3 a3 b3 a9 a6 Z=>?_]
  rw[gv] at a6;erw[22,2,?_];rw[cf,cf,gv];rwa[q _ a3 b3 () () Z]
theorem mZ:Gb ["_law_bag_here"] ["_law_bag_here"] (aj e9):=.i
theorem xU(F:Fun K "_law_signed" "_law_signed" e9 f fd)(HQ:`FnB 1 "_law_take" fD)(Io:`FnB 2 "_law_great" pT):`Gd CX0 3 f fd ["_law_bag_here"] qR:=by
 erw[F.o mZ λ_ _ _ _ H _ Q _ hr h=>?_]
 ·let#[44,p,a,b,k,1,hp,hb,hk,q]:=h
  erw[_,(ai (ar (ao bH (ao cS (ao bH ah (az HQ hr.m #[6,0,ah])) ah) (az Io hr.m #[6,0])))),?_];erw[96,0,p,a,b,(2),k,1,hp,hb,(),#[],aP #[] #[],λr1 a1 b1 a3 a4 U=>?_]
  erw[2322,2,.inl #[#[],#[]],2,?_]
  erw[84,0,p,a1,b1,k+1,1,ae,U,(),λr2 a2 b2 a5 a6 Z=>?_]
  erw[23,2,.inl #[(),()],?_]
  rw[cf];have O:r1=0\/r1=1:=()
  erw[q _ a2 b2 ?_ ?_ Z]
  ·rcases O with z|z<;>rw[z]<;>lia
  ·rcases O with z|z<;>rw[z]<;>lia
end
def o5:Sp:=λvs H Q _=>∃(a b:Int),vs=[.int a,.int b]/\b≠0/\b.natAbs<2^8800/\∀t,H t=none->Q (.ref t) (upd H t (.tup [.int (nrm a b).1,.int (nrm a b).2]))
section
variable [Quiet base]
theorem GQ:Gb ["_law_top", "_law_bottom", "_law_one", "_law_other"] ["_law_top", "_law_bottom"] (aj iK):=.i
theorem EJ(F:Fun K "_law_low" "_law_low" iK f fd)(T:Blt mg):`Gd CX0 1 f fd ["_law_top", "_law_bottom"] o5:=by
 erw[F.o GQ λ_ _ _ _ H _ Q _ hr h=>?_]
 ·let#[23,a,b,1,hb,hbs,q]:=h
  erw[_,(af #[5,2,GQ,(pX T (pv 0))]
(af #[5,3,GQ,(pX T (pv 1))]
(af (gK Hu (aw gQ (pv 3) ah (au _))
(ai (El (i:=2) (j:=3) rfl GQ.nd rfl rfl #[] rfl rfl #[6,3,(ao aZ (pv 2) (pv 3))] rfl)))
(af (aL (aw gJ (pv 1) ah (au _))
(ai #[5,2,GQ,(ao cS ah (pv 2))])
aB)
(ai (ar (aN #[6,(ao bj (pv 0) (pv 2)),(ao bj (pv 1) (pv 2))]))))))),?_]
  erw[5151,0,0,0,0,?_];erw[gz (λσ H'=>∃x y:Nat,σ=[some (.int a),some (.int b),some (.int x),some (.int y)]/\H'=H/\Nat.gcd x y=Int.gcd a b) (λσ _=>match σ with|[_,_,_,some (.int y)]=>y.toNat|_=>0) #[22,a.natAbs,b.natAbs,?_,1,1] ?_ ?_]
  ·have e1:(if a<0 then -a else a)=(a.natAbs:Int):=by split<;>lia
   have e2:(if b<0 then -b else b)=(b.natAbs:Int):=by split<;>lia
   rw[e1,e2]
   rfl
  ·intro σ H2 Z;let#[22,x,y,1,1,hg]:=Z
   erw[6211,0,2,0,bC (λh=>?_) (λh=>?_)]
   ·have hy:0<y:=by have:=E_ h;lia
    erw[516322,0,0,0,2,(by show(0:Int)<(y:Int);lia),_,0,#[22,y,x%y,?_,1,?_],?_]
    ·rfl
    ·rw[<- hg,Nat.gcd_comm x y,Nat.gcd_rec y x,Nat.gcd_comm]
    ·show((x:Int)%(y:Int)).toNat<(y:Int).toNat;have h1:=LC (x:Int) (show(0:Int)<y by lia)
     have h2:=L5 (x:Int) (show(y:Int)≠0 by lia)
     lia
   ·have hy:y=0:=by
     have h1:¬(0:Int)<(y:Int):=λz=>h (q_ z)
     lia
    subst hy;rw[Nat.gcd_zero_right] at hg;subst hg;have a2:0<Int.gcd a b:=Int.gcd_pos_of_ne_zero_right a hb;have a1:Int.gcd a b<=b.natAbs:=Nd () (Nat.gcd_dvd_right a.natAbs b.natAbs)
    have sm:(Int.gcd a b)<2^8800:=Lk a1 hbs;erw[6211,0,2,0,bC (λh=>?_) (λh=>?_)]
    ·have U:b<0:=E_ h;erw[62,0,2,?_];have O:CDivA a (0-(Int.gcd a b:Int)):=#[(),by rw[show(0-(Int.gcd a b:Int)).natAbs=Int.gcd a b by lia];rwa[sm]]
     erw[51235124,0,0,2,O,0,0,2,O,(by show 2<=sizeLine;decide),λt ht=>?_]
     have z:=q t ht;unfold nrm at z;rw[C_ U] at z;rw[show 0-(Int.gcd a b:Int) = -(Int.gcd a b:Int) by lia]
     rwa[z]
    ·have U:¬b<0:=λz=>h (q_ z)
     have O:CDivA a (Int.gcd a b:Int):=#[(),by rw[HM];rwa[sm]]
     erw[51235124,0,0,2,O,0,0,2,O,(by show 2<=sizeLine;decide),λt ht=>?_]
     have z:=q t ht;unfold nrm at z;rw[w_ U] at z;rwa[z]
  ·intro σ H Q Q' hq Z;let#[6211,x,hx,i,j,e1,e2,b,hb,h]:=Z
   rwa[6211,x,hx,i,j,e1,e2,b,hb,hq _ _ h]
end
def dw(n:Int)(i:Nat):List Int:=((List.range i).map λj:Nat=>(2:Int)+(j:Int)).filter λd=>decide (d*d<=n)
def iG(n:Int):Bool:=decide (1<n)&&(dw n 98).all λd=>decide (0<n%d)
def Gc(p:Int):Prop:=p=0\/(2<=p/\p<=9973/\iG p=true)
theorem jh(n:Int)(i:Nat):dw n (i+1)=if (2+(i:Int))*(2+(i:Int))<=n then dw n i++[2+(i:Int)] else dw n i:=by
 unfold dw;rw[range_succ,L8,filter_append]
 by_cases h:(2+(i:Int))*(2+(i:Int))<=n
 ·rw[C_ h];simp[h]
 ·rw[w_ h];simp[h]
theorem mem_parts{n d:Int}{i:Nat}:d∈dw n i↔2<=d/\d<2+(i:Int)/\d*d<=n:=by
 unfold dw;rw[mem_filter,MO]
 constructor
 ·rintro⟨⟨j,hj,rfl⟩,h⟩;have:=M_.mp hj;rwa[(),(),E_ h]
 ·rintro⟨h1,h2,h3⟩;rwa[#[(d-2).toNat,M_.mpr (),()],q_ h3]
theorem isPb_iff{n:Int}:iG n=true↔1<n/\∀d,2<=d->d<100->d*d<=n->0<n%d:=by
 unfold iG;rw[Lw,Q8]
 constructor
 ·rintro⟨h1,h2⟩;rwa[E_ h1,λd a b c=>E_ (h2 d (mem_parts.mpr #[a,(),c]))]
 ·rintro⟨h1,h2⟩;erw[q_ h1,λd hd=>?_]
  let#[a,b,c]:=mem_parts.mp hd;rwa[q_ (h2 d a () c)]
theorem Ey:iG 2=true:=#[5]
def ma:Sp:=λvs H Q _=>∃n:Int,vs=[.int n]/\∀H',Ga H H'->Q (.bl (iG n)) H'
section
variable [Quiet base]
theorem Hi:Gb ["_law_number_here", "_law_parts"] ["_law_number_here"] (aj dR):=.i
theorem rE(F:Fun K "_law_is_prime" "_law_is_prime" dR f fd)(T:Blt mg):`Gd CX0 1 f fd ["_law_number_here"] ma:=by
 erw[F.o Hi λ_ _ _ _ H _ Q _ hr h=>?_]
 ·let#[n,1,q]:=h;erw[_,(af (dD (i:=1) Hi.nd rfl #[4] (N:=["_law_part", "_law_number_here"]) (src:=[none,some 0]) rfl rfl rfl #[9,wu rfl T.range #[6,ah,ah]] (λ_ _ _=>by rwa[by exact(bL (i:=0) E6 rfl rfl),(eR (aw rS (ao bH (pv 0) (pv 0)) (pv 1) (au _))),by exact(pv 0)]))
(ai (ar (dO (cg gQ (pv 0) ah (au _)) (fe (lD K T #[9,aR (N:=["_law_part", "_law_number_here"]) (src:=[none,some 0]) rfl rfl rfl #[9,aG K rfl (pv 1)] (λ_ _ _=>by rwa[by exact(bL (i:=0) E6 rfl rfl),aO,by exact(cg gQ (ao aZ (pv 1) (pv 0)) ah (au _))])] false)))))),?_]
  erw[22,_,0,#[#[],#[],#[],#[]],cc (n:=98) (σ0:=[none,some (.int n)]) rfl (λacc i zs σ H'=>∃u:Option V,σ=[u,some (.int n)]/\zs=(dw n i).map V.int/\Ga H H') #[] (λacc O=>#[none,1,1,Ga.new O]) ?_ ?_ ?_ ?_]
  ·rintro acc i zs σ H' O hi Z _;rwa[hi]
  ·rintro acc zs σ H' O Z _;rwa[e_ 98]
  ·rintro acc i zs σ H' x a7 O hi Z a5 ⟨u,rfl,rfl,sm⟩ ⟨rfl,rfl⟩;erw[51236211,0,0,2,.inl #[(),()],0,2,0,bC (λh=>?_) (λh=>?_)]
   ·have h':(2+(i:Int))*(2+(i:Int))<=n:=E_ h;erw[521212,0,_,Z,jU (),_,ae,by rw[x_,He];lia,0,?_,sm.put O]
    rw[jh,C_ h',L8]
    rfl
   ·have h':¬(2+(i:Int))*(2+(i:Int))<=n:=λz=>h (q_ z)
    erw[_,Z,(),0,?_,sm]
    rw[jh,w_ h']
  ·intro acc zs σ H' O Z a5 a6;let#[12,u,1,1,sm]:=a6
   erw[6211,0,2,0,bC (λh=>?_) (λh=>?_)]
   ·have h1:(1:Int)<n:=E_ h;erw[52,0,acc,1,#[_,SqL.of Z],lV (v1 λd=>.bl (decide (0<n%d))) rfl (SqL.of Z) (Nat.le_of_lt (jU ())) (λi x H1 R hx a2 hR=>?_) (λa1 H1 a3 a2 U=>?_)]
    ·let#[z,a4,1]:=fP hx;let#[z2,_,_]:=mem_parts.mp (GY a4);rwa[512322,0,0,2,(by show(0:Int)<z;lia),2,hR]
    ·rw[ut] at U;have e1:(dw n 98).map (λd=>V.bl (decide (0<n%d)))=((dw n 98).map λd=>decide (0<n%d)).map V.bl:=by rw[Oo];rfl
     rw[e1] at U;erw[22,a1,0,fI (SqL.of U),?_];have z:=q H1 (sm.trans a2);unfold iG at z;rw[q_ h1,Nx] at z;rw[all_map];rwa[z]
   ·have h1:¬(1:Int)<n:=λz=>h (q_ z)
    have z:=q H' sm;unfold iG at z;rw[GN h1,NL] at z;rwa[z]
end
def uG:Sp:=λvs H Q _=>∃(p:Addr) (a b:Int) (k:Nat),vs=[.ref p]/\H p=some (.lst [.int a,.int b])/\Gn a b k/\k<=900000/\
 ∀(r a' b':Int) (H':Hp),Gc r->H' p=some (.lst [.int a',.int b'])->Gn a' b' (k+2)->(∀c o,H c=some o->c≠p->H' c=some o)->Q (.int r) H'
section
variable [Quiet base]
theorem GR:Gb ["_law_bag_here", "_law_way", "_law_number_here"] ["_law_bag_here"] (aj fU):=.i
theorem A6(F:Fun K "_law_prime" "_law_prime" fU f fd)(HQ:`FnB 1 "_law_take" fD)(IK:`FnB 1 "_law_is_prime" ma):`Gd CX0 2 f fd ["_law_bag_here"] uG:=by
 erw[F.o GR λ_ _ _ _ H _ Q _ hr h=>?_]
 ·let#[44,p,a,b,k,1,hp,hb,hk,q]:=h
  erw[_,(af #[5,1,GR,(az HQ hr.m #[6,0,ah])]
(af (aL (aw gJ (pv 1) ah (au _))
(ai (ar ah))
aB)
(af (aL (aw gJ (pv 1) ah (au _))
(ai (ar (aC (aH K rfl) (aX #[6,ah,ah,ah]) (ao cS (pv 1) ah) (λ_ _=>rfl))))
aB)
(af #[5,2,GR,(ao aQ ah (az HQ hr.m #[6,0,ah]))]
(af (gK Hu (cF (bW (az IK hr.m #[6,2])))
(ai #[5,2,GR,(ao cS (pv 2) ah)]))
(ai (ar (pv 2)))))))),?_]
  erw[96,0,p,a,b,(8),k,1,hp,hb,(),#[],aP #[] #[],λZ a1 b1 a6 a7 O=>?_]
  have k1:∀o c o',H c=some o'->c≠p->(upd H p o) c=some o':=λo c o' e hc=>by rw[ak hc];rwa[e]
  erw[6211,0,2,0,bC (λh=>?_) (λh=>?_)]
  ·rwa[q 0 a1 b1 _ (.inl rfl) ae (O.mono ()) (k1 _)]
  have h4:¬Z<4:=λz=>h (q_ z)
  erw[6211,0,2,0,bC (λh=>?_) (λh=>?_)]
  ·have h7:Z<7:=E_ h;erw[(by show 3<=sizeLine;decide),λq1 n1=>?_]
   have pq:p≠q1:=al (o:=.lst [.int a1,.int b1]) ae n1;obtain⟨v,a4,hv⟩:∃v:Int,atI [V.int 2,V.int 3,V.int 7] (Z-4)=some (.int v)/\Gc v:=by
    have h:Z=4\/Z=5\/Z=6:=()
    rcases h with rfl|rfl|rfl
    ·rwa[(2),1,.inr #[#[],#[],#[5]]]
    ·rwa[(3),1,.inr #[#[],#[],#[5]]]
    ·rwa[(7),1,.inr #[#[],#[],#[5]]]
   erw[6244,0,2,q1,_,2,SqL.of ae,a4,?_];rwa[q v a1 b1 _ hv (by rw[ak pq,ae]) (O.mono ()) λc o e hc=>by rw[ak (al (k1 _ c o e hc) n1)];rwa[k1 _ c o e hc]]
  ·erw[96,0,p,a1,b1,9972,k+1,1,ae,O,(),#[],aP #[] #[],λr2 a2 b2 a8 a9 a5=>?_]
   erw[22,2,?_];rw[cf];erw[gz (λσ H'=>∃n:Int,σ=[some (.ref p),some (.int Z),some (.int n)]/\2<=n/\n<=9973/\Ga (upd H p (.lst [.int a2,.int b2])) H') (λσ _=>match σ with|[_,_,some (.int n)]=>n.toNat|_=>0) #[0,(),(),Ga.refl _] ?_ ?_]
   ·intro σ H2 U;let#[13,n,1,n2,n9,sm]:=U
    erw[51,0,n,1,λH3 a3=>#[0,?_]]
    cases hn:iG n with
    |false=>
     erw[aU #[63,0,2,#[0,?_,(),sm.trans a3],?_]]
     ·have:n≠2:=λz=>by rw[z,Ey] at hn;cases hn
      lia
     ·show(n-1).toNat<n.toNat;lia
    |true=>
     erw[bO #[0,?_]];have s:=sm.trans a3;rwa[q n a2 b2 H3 (.inr #[n2,n9,hn]) (s _ _ ae) a5 λc o e hc=>s _ _ (k1 _ c o e hc)]
   ·intro σ H Q Q' hq U;let#[51,x,hx,n,e,h]:=U
    erw[51,x,hx,n,e,λH' s=>?_]
    let#[b,hb,z]:=h H' s;rwa[b,hb,hq _ _ z]
end
def oQ:Sp:=λvs H Q _=>∃n:Int,vs=[.int n]/\Q (.bl (decide (2<=n/\n<=9973)&&iG n)) H
section
variable [Quiet base]
theorem sc_is_prime:Gb ["whole", "divisor"] ["whole"] (aj iT):=.i
theorem tj{tk2:Tok}(F:Fun K "is_prime" "is_prime" iT f fd)(cLeast:mg "LEAST_PRIME"=some (.int 2 tk))(cGreatest:mg "GREATEST_PRIME"=some (.int 9973 tk2)):`Gd CX0 1 f fd ["whole"] oQ:=by
 erw[F.o sc_is_prime λ_ _ _ _ H _ Q _ hr h=>?_]
 ·let#[n,1,q]:=h;erw[_,(af (aL (PW.pt (gf (aw gJ (pv 0) (bu (v:=.int 2) rfl cLeast #[0]) (au _)) (f9 (aw gQ (pv 0) (bu (v:=.int 9973) rfl cGreatest #[0]) (au _)))))
(ai (ar dU))
aB)
(af #[5,1,sc_is_prime,ah]
(af (gK Hu (aw rS (ao bH (pv 1) (pv 1)) (pv 0) (au _))
(af (aL (aw bf (ao aZ (pv 0) (pv 1)) ah (au _))
(ai (ar dU))
aB)
(ai #[5,1,sc_is_prime,(ao aQ (pv 1) ah)])))
(ai (ar dU))))),?_]
  have no:¬(2<=n/\n<=9973)->Q (.bl false) H:=λh=>by
   rw[GN h,NL] at q;rwa[q]
  erw[6211,0,2,0,bC (λh=>?_) (λh=>?_)]
  ·have h1:n<2:=E_ h;rwa[aU (no ())]
  have h1:¬n<2:=λz=>h (q_ z)
  erw[6211,0,2,0,bC (λh=>?_) (λh=>?_)]
  ·have h2:9973<n:=E_ h;rwa[no ()]
  have h2:¬9973<n:=λz=>h (q_ z)
  rw[q_ (show 2<=n/\n<=9973 by lia),Nx] at q
  erw[gz (λσ H'=>∃d:Int,σ=[some (.int n),some (.int d)]/\H'=H/\2<=d/\d<=101/\∀e,2<=e->e<d->0<n%e) (λσ _=>match σ with|[_,some (.int d)]=>(200-d).toNat|_=>0) #[(2),1,1,(),(),λe h1 h2=>()] ?_ ?_]
  ·intro σ H2 U;let#[14,d,1,1,hd2,hd1,hall]:=U
   erw[51236211,0,0,2,.inl #[(),()],0,2,0,bC (λh=>?_) (λh=>?_)]
   ·have a1:d*d<=n:=E_ h;have O:d<100:=Int.not_le.mp λz=>by
     have:=Int.mul_le_mul z z () ()
     lia
    erw[512411,0,0,2,(by show(0:Int)<d;lia),1,0,bC (λh=>?_) (λh=>?_)]
    ·have h0:n%d=0:=by
      have:=E_ h;injection this
     have e:iG n=false:=by
      cases hp:iG n with
      |false=>rfl
      |true=>
       have:=(isPb_iff.mp hp).2 d hd2 O a1;lia
     rw[e] at q;rwa[q]
    ·have h0:n%d≠0:=λz=>h (q_ (LD V.int z))
     have a2:=L5 n (show d≠0 by lia)
     erw[63,0,2,#[d+1,1,1,(),(),λe Z e2=>?_],?_]
     ·by_cases ee:e=d
      ·rw[ee];lia
      ·rwa[hall e Z ()]
     ·show(200-(d+1)).toNat<(200-d).toNat;lia
   ·have a1:¬d*d<=n:=λz=>h (q_ z)
    have e:iG n=true:=isPb_iff.mpr #[(),λe Z e2 e3=>hall e Z (Int.not_le.mp λz=>by
     have:=Int.mul_le_mul z z () ()
     lia)]
    rw[e] at q;rwa[q]
  ·intro σ H Q Q' hq U;let#[51236211,x,hx,x2,hx2,i,j,Z,e2,c,y,hy,i2,j2,e3,e4,b,hb,h]:=U
   rwa[51236211,x,hx,x2,hx2,i,j,Z,e2,c,y,hy,i2,j2,e3,e4,b,hb,hq _ _ h]
end
def pA:Sp:=λvs H Q _=>∃a b:Int,vs=[.int a,.int b]/\Q (.int (Int.gcd a b)) H
section
theorem Gr:Gb ["one", "other", "first", "second", "rest"] ["one", "other"] (aj cD):=.i
theorem Ag(F:Fun K "greatest_divisor" "greatest_divisor" cD f fd)(T:Blt mg):`Gd CX0 1 f fd ["one", "other"] pA:=by
 erw[F.o Gr λ_ _ _ _ H _ Q _ hr h=>?_]
 ·let#[21,a,b,1,q]:=h
  erw[_,(af #[5,2,Gr,(pX T (pv 0))]
(af #[5,3,Gr,(pX T (pv 1))]
(af (gK Hu (aw gh (pv 3) ah (au _))
(af #[5,4,Gr,(ao aZ (pv 2) (pv 3))]
(af #[5,2,Gr,(pv 3)]
(ai #[5,3,Gr,(pv 4)]))))
(ai (ar (pv 2)))))),?_]
  erw[5151,0,0,0,0,?_];erw[gz (λσ H'=>∃(x y:Nat) (u:Option V),σ=[some (.int a),some (.int b),some (.int x),some (.int y),u]/\H'=H/\Nat.gcd x y=Int.gcd a b) (λσ _=>match σ with|[_,_,_,some (.int y),_]=>y.toNat|_=>0) #[32,a.natAbs,b.natAbs,none,?_,1,1] ?_ ?_]
  ·have U:(if a<0 then -a else a)=(a.natAbs:Int):=by split<;>lia
   have e2:(if b<0 then -b else b)=(b.natAbs:Int):=by split<;>lia
   rw[U,e2]
   rfl
  ·intro σ H2 O;let#[32,x,y,u,1,1,hg]:=O
   erw[0,1,0,?_]
   by_cases hy:y=0
   ·subst hy;erw[vt rfl ?_];rw[Nat.gcd_zero_right] at hg;subst hg;rwa[0,q]
   ·rw[GN (show ¬V.int (y:Int)=V.int 0 from λz=>by injection z;lia)]
    erw[aU #[512352,0,0,2,(by show(0:Int)<(y:Int);lia),0,0,#[32,y,x%y,some (.int ((x:Int)%(y:Int))),?_,1,?_],?_]]
    ·rfl
    ·rw[<- hg,Nat.gcd_comm x y,Nat.gcd_rec y x,Nat.gcd_comm]
    ·show((x:Int)%(y:Int)).toNat<(y:Int).toNat;have h1:=LC (x:Int) (show(0:Int)<y by lia)
     have h2:=L5 (x:Int) (show(y:Int)≠0 by lia)
     lia
  ·intro σ H Q Q' Z O;let#[1211,x,hx,U,b,hb,h]:=O
   rwa[x,hx,U,b,hb,Z _ _ h]
end
def Gp(CF CR:Addr)(H:Hp)(x:Addr)(p:Int):Prop:=(p=0/\∃dx,H x=some (.ins CF dx []))\/(p≠0/\∃dx,H x=some (.ins CR dx [("modulus",.int p)]))
def pO(CR:Addr):Sp:=λvs H Q _=>∃(x dx:Addr) (p:Int),vs=[.ref x,.int p]/\H x=some (.ins CR dx [])/\Gc p/\p≠0/\Q .non (upd H x (.ins CR dx [("modulus",.int p)]))
def AG(CF CR:Addr):Sp:=λvs H Q _=>∃p:Int,vs=[.int p]/\Gc p/\∀(x:Addr) (H':Hp),Ga H H'->Gp CF CR H' x p->Q (.ref x) H'
section
variable [Quiet base]
theorem jw:Gb ["self", "prime"] ["self", "prime"] (aj dn):=.i
theorem Am{CR:Addr}(F:Fun K "__init__" "Rests.__init__" dn f fd)(cl:Cls K CR)(nM:Gj K CR "modulus")(JI:`FnB 1 "is_prime" oQ):`Gd CX0 2 f fd ["self", "prime"] (pO CR):=by
 erw[F.o jw λ_ _ _ _ H _ Q _ U h=>?_]
 ·let#[34,x,dx,p,1,hx,hp,p0,q]:=h
  erw[_,(af (aL (cF (bW (az JI U.m #[6,1])))
(ai Af)
aB)
(ai (iJ (pv 0) (pv 1) rfl))),?_]
  rcases hp with z|⟨h1,h2,O⟩
  ·rwa[absurd z p0]
  erw[5111,0,p,1,0,?_];rw[q_ #[h1,h2],O];erw[bO #[5145,0,0,x,CR,dx,[],1,hx,cl,nM,(by show 0<1000;decide),?_]]
  rwa[q]
theorem kT:Gb ["_law_prime_here"] ["_law_prime_here"] (aj et):=.i
theorem CD{CR:Addr}(F:Fun K "_law_numbers" "_law_numbers" et f fd)(MFractions:Mk0 K CF)(AFractions:mg "Fractions"=some (.ref CF))(Kn:`MkB 2 CR "Rests" (pO CR)):`Gd CX0 4 f fd ["_law_prime_here"] (AG CF CR):=by
 erw[F.o kT λ_ _ _ _ H _ Q _ U h=>?_]
 ·let#[12,p,1,hp,q]:=h
  erw[_,(af (aL (aw bf (pv 0) ah (au _))
(ai (ar (DH MFractions AFractions)))
aB)
(ai (ar (t8 Kn U.m #[6,0])))),?_]
  erw[0,1,0,bC (λh=>?_) (λh=>?_)]
  ·have h0:p=0:=by
    have:=E_ h;injection this
   intro x dx nx O ne;rwa[q x _ ((Ga.new O).put nx) (.inl #[h0,dx,ae])]
  ·have h0:p≠0:=λz=>h (q_ (LD V.int z))
   erw[0,λx dx nx O ne=>?_]
   erw[35,x,dx,p,1,ae,hp,h0,1,?_];rwa[q x _ (((Ga.new O).put nx).put nx) (.inr #[h0,dx,ae])]
end
def isI:V->Bool
 |.int _=>true
 |_=>false
def Typed(K:Frag)(H:Hp)(x:V):Prop:=∃(t:Value) (b c:Bool),GE K H x t/\kitOne K t (.type "int")=some b/\kitOne K t (.type "bool")=some c/\(b && !c)=isI x
theorem Typed.int(i:Int):Typed K H (.int i):=#[33,_,true,false,.int i,1,1,1]
theorem Typed.tup{a:Addr}{xs:List V}(h:H a=some (.tup xs)):Typed K H (.ref a):=#[33,_,false,false,.tup h,1,1,1]
def E4(P:Int)(H:Hp)(v:V):Prop:=(P≠0/\∃r,v=.int r/\0<=r/\r<P)\/(P=0/\∃(t:Addr) (n d:Int),v=.ref t/\H t=some (.tup [.int n,.int d])/\0<d/\Int.gcd n d=1/\n.natAbs<10^31/\d.natAbs<10^31)
theorem BE:(2:Nat)^5000<2^8800:=HF #[] #[]
def so(K:Frag)(H:Hp)(v:V):Prop:=Typed K H v/\((∃t,GE K H v t/\kitOne K t (.type "tuple")=some false/\∀a,v=.ref a->∃xs,H a=some (.lst xs)) \/
 ∃a xs,v=.ref a/\H a=some (.tup xs)/\xs.length<=1000/\(∀x∈xs,Typed K H x)/\∀i,V.int i∈xs->i.natAbs<2^5000)
def i7:List V->Bool
 |[.int n,.int d]=>decide (1<=d)&&decide (Int.gcd n d=1)
 |_=>false
def vT(H:Hp):V->Bool
 |.ref a=>match H a with
  |some (.tup xs)=>i7 xs
  |_=>false
 |_=>false
def C9(P:Int):V->Bool
 |.int i=>decide (0<=i)&&decide (i<P)
 |_=>false
def lT(P:Int)(H:Hp)(v:V):Bool:=if P=0 then vT H v else C9 P v
theorem jZ{a:Addr}{xs:List V}(h:H a=some (.tup xs)):vT H (.ref a)=i7 xs:=by
 show(match H a with|some (.tup xs)=>i7 xs|_=>false)=_
 rw[h]
theorem jW(h:∀a,v=.ref a->∃xs,H a=some (.lst xs)):vT H v=false:=by
 cases v with
 |ref a=>
  let#[xs,e]:=h a rfl;show(match H a with|some (.tup xs)=>i7 xs|_=>false)=_
  rw[e]
 |_=>rfl
def F1:Sp:=λvs H Q _=>∃(p:Addr) (P a b:Int) (g:Bool) (k:Nat),vs=[.int P,.ref p,.bl g]/\Gc P/\H p=some (.lst [.int a,.int b])/\Gn a b k/\k<=700000/\
 ∀(v:V) (a' b':Int) (H':Hp),E4 P H' v->H' p=some (.lst [.int a',.int b'])->Gn a' b' (k+8)->(∀c o,H c=some o->c≠p->H' c=some o)->Q v H'
def AT(K:Frag):Sp:=λvs H Q _=>∃(P:Int) (v:V),vs=[.int P,v]/\Gc P/\so K H v/\∀H',Ga H H'->Q (.bl (lT P H v)) H'
section
variable [Quiet base]
theorem mW:Gb ["_law_prime_here", "_law_bag_here", "_law_great_here"] ["_law_prime_here", "_law_bag_here", "_law_great_here"] (aj eV):=.i
theorem ik:Gb ["_law_prime_here", "_law_found"] ["_law_prime_here", "_law_found"] (aj cG):=.i
theorem Bu(F:Fun K "_law_number_like" "_law_number_like" cG f fd)(T:Blt mg)(Iv:`FnB 1 "_law_whole" (jE K))(HW:`FnB 1 "_law_low" o5):
  Gd P w K mg base CX0 2 f fd ["_law_prime_here", "_law_found"] (AT K):=by
 erw[F.o ik λ_ _ _ _ H _ Q _ O h=>?_]
 ·let#[23,P,v,1,hP,#[ty,hv],q]:=h
  erw[_,(af (aL (aw gQ (pv 0) ah (au _))
(ai (ar (dO (az Iv O.m #[6,1]) (fe (Av rS gJ ah (pv 1) (pv 0))))))
aB)
(af (aL (PW.pt (gf (cF (bW (eG K T (pv 1) T.tuple eT))) (gf (aw gh (bY K T (pv 1)) ah (au _)) (gf (cF (bW (az Iv O.m #[6,(aC (aA K rfl) (pv 1) ah (λ_ _=>rfl))]))) (f9 (cF (bW (az Iv O.m #[6,(aC (aA K rfl) (pv 1) ah (λ_ _=>rfl))]))))))))
(ai (ar dU))
aB)
(ai (ar (dO (cg gQ (aC (aA K rfl) (pv 1) ah (λ_ _=>rfl)) ah (au _)) (fe (cg (keqD K rfl O.units) (az HW O.m #[6,(aC (aA K rfl) (pv 1) ah (λ_ _=>rfl)),(aC (aA K rfl) (pv 1) ah (λ_ _=>rfl))]) (pv 1) (au _)))))))),?_]
  erw[6211,0,2,0,bC (λh=>?_) (λh=>?_)]
  ·have h0:0<P:=E_ h;have z:=q H (Ga.refl H);unfold lT at z;rw[w_ ()] at z
   let#[33,t,b,c,ty,h1,h2,e]:=ty
   erw[8411,0,v,t,b,c,1,ty,h1,h2,0,?_];rw[e];cases v with
   |int i=>
    erw[aU #[6211,0,2,0,?_]]
    by_cases hi:0<=i
    ·rw[q_ hi];erw[aU #[62,0,2,?_]];have U:Q (.bl (decide (0<=i)&&decide (i<P))) H:=z;rw[q_ hi,Nx] at U;rwa[U]
    ·rw[GN hi];have U:Q (.bl (decide (0<=i)&&decide (i<P))) H:=z;rw[GN hi,NL] at U;rwa[bO U]
   |_=>rwa[bO z]
  ·have h0:P=0:=by
    have h1:¬0<P:=λz=>h (q_ z)
    rcases hP with z|⟨z,_⟩<;>lia
   unfold lT at q;rw[C_ h0] at q
   rcases hv with⟨t,ty,e,hn⟩|⟨a,xs,rfl,ha,hl,hty,hbd⟩
   ·rw[jW hn] at q;rwa[6211,0,t,false,ty,e,0,aU (aU (q H (Ga.refl H)))]
   ·rw[jZ ha] at q;erw[6211,0,_,true,.tup ha,1,0,bO ?_];erw[6311,0,a,xs,1,.inr (SqT.of ha),1,0,?_]
    by_cases Z:(xs.length:Int)=2
    ·erw[vt (LD V.int Z) ?_]
     match xs,Z with
     |[x,y],_=>
     let#[33,t1,b1,c1,ty1,h11,h12,e1]:=hty x (by simp)
     let#[33,t2,b2,c2,ty2,h21,h22,e2]:=hty y (by simp)
     erw[844411,0,a,_,2,SqT.of ha,1,x,t1,b1,c1,1,ty1,h11,h12,0,?_];rw[e1];cases x with
     |int n=>
      erw[bO ?_];erw[844411,0,a,_,2,SqT.of ha,1,y,t2,b2,c2,1,ty2,h21,h22,0,?_];rw[e2];cases y with
      |int d=>
       erw[bO ?_];erw[842211,0,a,_,2,SqT.of ha,1,2,0,?_];have q':∀H',Ga H H'->Q (.bl (decide (1<=d)&&decide (Int.gcd n d=1))) H':=q
       by_cases hd:0<d
       ·rw[q_ (show 1<=d by lia),Nx] at q'
        rw[q_ hd];erw[aU #[848423,0,a,_,2,SqT.of ha,1,0,a,_,2,SqT.of ha,1,n,d,1,(),MN (hbd d (by simp)) BE,λt nt=>?_]]
        have st:=Ga.new (o:=.tup [.int (nrm n d).1,.int (nrm n d).2]) nt;erw[64,0,jC [(nrm n d).1,(nrm n d).2],jC [n,d],jf (SqT.of ae),jf (SqT.of (st _ _ ha)),dF _,dF _,?_];rw[mK];have ed:decide ([(nrm n d).1,(nrm n d).2]=[n,d])=decide (Int.gcd n d=1):=by
         apply OM.mpr;rw[<- fm n d hd]
         constructor
         ·intro z;injection z with z1 z2
          injection z2 with z2
          rwa[N2 z1 z2]
         ·intro z;rw[z]
        rw[ed];rwa[q' _ st]
       ·rw[GN (show ¬1<=d by lia),NL] at q'
        rw[GN hd];rwa[bO (q' H (Ga.refl H))]
      |_=>rwa[aU (q H (Ga.refl H))]
     |_=>rwa[aU (aU (by cases y<;>rwa[q H (Ga.refl H)]))]
    ·have e0:(!decide (V.int (xs.length:Int)=V.int 2))=true:=by
      rw[GN (λz=>Z (by injection z))];rfl
     rw[e0];have z:=q H (Ga.refl H);have ep:i7 xs=false:=by
      unfold i7
      split
      ·rwa[absurd rfl Z]
      ·rfl
     rw[ep] at z;rwa[aU (aU z)]
end
def At(P:Int)(H:Hp)(v:V)(x:Int×Int):Prop:=(P=0/\∃t,v=.ref t/\H t=some (.tup [.int x.1,.int x.2]))\/(P≠0/\v=.int x.1/\x.2=1)
theorem At.mono{P:Int}(h:At P H v x)(k:∀t xs,H t=some (.tup xs)->H' t=some (.tup xs)):At P H' v x:=by
 rcases h with⟨h0,t,rfl,e⟩|h
 ·rwa[.inl #[h0,t,1,k _ _ e]]
 ·rwa[.inr h]
theorem At.same{P:Int}(h:At P H v x)(s:Ga H H'):At P H' v x:=h.mono λt xs e=>s _ _ e
theorem sL:(2:Nat)^4300<2^8800:=HF #[] #[]
theorem kK{b:Int}(h1:a.natAbs<2^4300)(h2:b.natAbs<2^4300):IntMulOk a b:=fu (MN h1 sL) (MN h2 sL)
theorem uc{b:Int}(h1:a.natAbs<2^4300)(h2:b.natAbs<2^4300):(a*b).natAbs<2^8800:=Hh (fQ h1 h2) (pQ #[])
theorem Gc.b{P:Int}(h:Gc P):0<=P/\P<=9973/\P≠1:=by
 rcases h with h|⟨h1,h2,_⟩<;>lia
def oH(g:Int->Int×Int->Int×Int->Int×Int):Sp:=λvs H Q _=>∃(P:Int) (u v:V) (x y:Int×Int),vs=[.int P,u,v]/\Gc P/\At P H u x/\At P H v y/\OkN P x/\OkN P y/\Sz 4300 x/\Sz 4300 y/\∀r H',Ga H H'->At P H' r (g P x y)->Q r H'
section
variable [Quiet base]
theorem qv:Gb ["_law_prime_here", "_law_one", "_law_other"] ["_law_prime_here", "_law_one", "_law_other"] (aj gk):=.i
theorem zF(F:Fun K "_law_plus" "_law_plus" gk f fd)(HW:`FnB 1 "_law_low" o5):`Gd CX0 2 f fd ["_law_prime_here", "_law_one", "_law_other"] (oH bT):=by
 erw[F.o qv λ_ _ _ _ H _ Q _ U h=>?_]
 ·let#[4018,P,u,v,x,y,1,hP,hu,hv,ox,oy,sx,sy,q]:=h
  erw[_,(af (aL (aw bf (pv 0) ah (au _))
(ai (ar (az HW U.m #[6,(ao aQ (ao br (aC (aA K rfl) (pv 1) ah (λ_ _=>rfl)) (aC (aA K rfl) (pv 2) ah (λ_ _=>rfl))) (ao br (aC (aA K rfl) (pv 2) ah (λ_ _=>rfl)) (aC (aA K rfl) (pv 1) ah (λ_ _=>rfl)))),(ao br (aC (aA K rfl) (pv 1) ah (λ_ _=>rfl)) (aC (aA K rfl) (pv 2) ah (λ_ _=>rfl)))])))
aB)
(ai (ar (ao aZ (ao aQ (pv 1) (pv 2)) (pv 0))))),?_]
  unfold bT at q;erw[0,1,0,bC (λh=>?_) (λh=>?_)]
  ·have h0:P=0:=by have:=E_ h;injection this
   rcases hu with⟨_,s,rfl,hs⟩|⟨z,_⟩
   ·rcases hv with⟨_,t,rfl,ht⟩|⟨z,_⟩
    ·rw[C_ h0] at q;erw[84842384842322,0,s,_,2,SqT.of hs,1,0,t,_,2,SqT.of ht,1,2,kK sx.1 sy.2,0,t,_,2,SqT.of ht,1,0,s,_,2,SqT.of hs,1,2,kK sy.1 sx.2,2,?_];erw[84842323,0,s,_,2,SqT.of hs,1,0,t,_,2,SqT.of ht,1,2,kK sx.2 sy.2,_,0,i3 ox.den oy.den,uc sx.2 sy.2,λr Z=>?_]
     rwa[q _ _ (Ga.new Z) (.inl #[h0,r,1,ae])]
    ·rwa[absurd h0 z]
   ·rwa[absurd h0 z]
  ·have h0:P≠0:=λz=>h (q_ (LD V.int z))
   have O:0<P:=by have:=hP.b;lia
   rcases hu with⟨z,_⟩|⟨_,rfl,_⟩
   ·rwa[absurd z h0]
   ·rcases hv with⟨z,_⟩|⟨_,rfl,_⟩
    ·rwa[absurd z h0]
    ·rw[w_ h0] at q;rwa[512263,0,0,2,0,2,O,q _ H (Ga.refl H) (.inr #[h0,1,1])]
end
section
variable [Quiet base]
theorem nV:Gb ["_law_prime_here", "_law_one", "_law_other"] ["_law_prime_here", "_law_one", "_law_other"] (aj fF):=.i
theorem xi(F:Fun K "_law_times" "_law_times" fF f fd)(HW:`FnB 1 "_law_low" o5):`Gd CX0 2 f fd ["_law_prime_here", "_law_one", "_law_other"] (oH bV):=by
 erw[F.o nV λ_ _ _ _ H _ Q _ U h=>?_]
 ·let#[4018,P,u,v,x,y,1,hP,hu,hv,ox,oy,sx,sy,q]:=h
  erw[_,(af (aL (aw bf (pv 0) ah (au _))
(ai (ar (az HW U.m #[6,(ao br (aC (aA K rfl) (pv 1) ah (λ_ _=>rfl)) (aC (aA K rfl) (pv 2) ah (λ_ _=>rfl))),(ao br (aC (aA K rfl) (pv 1) ah (λ_ _=>rfl)) (aC (aA K rfl) (pv 2) ah (λ_ _=>rfl)))])))
aB)
(ai (ar (ao aZ (ao bH (pv 1) (pv 2)) (pv 0))))),?_]
  unfold bV at q;erw[0,1,0,bC (λh=>?_) (λh=>?_)]
  ·have h0:P=0:=by have:=E_ h;injection this
   rcases hu with⟨_,s,rfl,hs⟩|⟨z,_⟩
   ·rcases hv with⟨_,t,rfl,ht⟩|⟨z,_⟩
    ·rw[C_ h0] at q;erw[848423,0,s,_,2,SqT.of hs,1,0,t,_,2,SqT.of ht,1,2,kK sx.1 sy.1,?_];erw[84842323,0,s,_,2,SqT.of hs,1,0,t,_,2,SqT.of ht,1,2,kK sx.2 sy.2,_,0,i3 ox.den oy.den,uc sx.2 sy.2,λr Z=>?_]
     rwa[q _ _ (Ga.new Z) (.inl #[h0,r,1,ae])]
    ·rwa[absurd h0 z]
   ·rwa[absurd h0 z]
  ·have h0:P≠0:=λz=>h (q_ (LD V.int z))
   have hb:=hP.b;have O:0<P:=()
   rcases hu with⟨z,_⟩|⟨_,rfl,_⟩
   ·rwa[absurd z h0]
   ·rcases hv with⟨z,_⟩|⟨_,rfl,_⟩
    ·rwa[absurd z h0]
    ·rw[w_ h0] at q
     rcases ox with⟨z,_⟩|⟨_,x0,x1,_⟩
     ·rwa[absurd z h0]
     rwa[512363,0,0,2,.inl #[(),()],0,2,O,q _ H (Ga.refl H) (.inr #[h0,1,1])]
end
def mO:Sp:=λvs H Q _=>∃P:Int,vs=[.int P]/\Gc P/\∀r H',Ga H H'->At P H' r (0,1)->Q r H'
section
variable [Quiet base]
theorem mG:Gb ["_law_prime_here"] ["_law_prime_here"] (aj eZ):=.i
theorem wM(F:Fun K "_law_nought" "_law_nought" eZ f fd)(T:Blt mg):`Gd CX0 1 f fd ["_law_prime_here"] mO:=by
 erw[F.o mG λ_ _ _ _ H _ Q _ hr h=>?_]
 ·let#[12,P,1,hP,q]:=h
  erw[_,(ai (ar (aC (aH K rfl) (aX #[6,(aN #[6,ah,ah]),ah]) (cZ pG (by rfl) T.int gZ #[6,(cg gQ (pv 0) ah (au _))]) (λ_ _=>rfl)))),?_]
  erw[(by show 2<=sizeLine;decide),λt U=>?_]
  erw[(by show 2<=sizeLine;decide),λl O=>?_]
  have s1:=Ga.new (o:=.tup [.int 0,.int 1]) U;have s2:=Ga.new (o:=.lst [.ref t,.int 0]) O;have Z:=hP.b
  by_cases h0:P=0
  ·erw[62,0,2,.inr #[84,0,l,_,2,SqL.of ae,(by rw[GN ()];rfl),?_]]
   rwa[q _ _ (s1.trans s2) (.inl #[h0,t,1,s2 _ _ ae])]
  ·erw[62,0,2,.inr #[84,0,l,_,2,SqL.of ae,(by rw[q_ ()];rfl),?_]]
   rwa[q _ _ (s1.trans s2) (.inr #[h0,1,1])]
end
def yh:Sp:=λvs H Q _=>∃(P:Int) (u:V) (x:Int×Int),vs=[.int P,u]/\Gc P/\At P H u x/\∀r H',Ga H H'->At P H' r (ij P x)->Q r H'
section
variable [Quiet base]
theorem qq:Gb ["_law_prime_here", "_law_number_here"] ["_law_prime_here", "_law_number_here"] (aj gs):=.i
theorem Bt(F:Fun K "_law_less" "_law_less" gs f fd):`Gd CX0 1 f fd ["_law_prime_here", "_law_number_here"] yh:=by
 erw[F.o qq λ_ _ _ _ H _ Q _ Z h=>?_]
 ·let#[33,P,u,x,1,hP,hu,q]:=h
  erw[_,(af (aL (aw bf (pv 0) ah (au _))
(ai (ar (aN #[6,(ao cS ah (aC (aA K rfl) (pv 1) ah (λ_ _=>rfl))),(aC (aA K rfl) (pv 1) ah (λ_ _=>rfl))])))
aB)
(ai (ar (ao aZ (ao cS ah (pv 1)) (pv 0))))),?_]
  unfold ij at q;erw[0,1,0,bC (λh=>?_) (λh=>?_)]
  ·have h0:P=0:=by have:=E_ h;injection this
   rcases hu with⟨_,s,rfl,hs⟩|⟨z,_⟩
   ·rw[C_ h0] at q;erw[842285,0,s,_,2,SqT.of hs,1,2,0,s,_,2,SqT.of hs,1,(by show 2<=sizeLine;decide),λr U=>?_]
    rwa[q _ _ (Ga.new U) (.inl #[h0,r,1,ae])]
   ·rwa[absurd h0 z]
  ·have h0:P≠0:=λz=>h (q_ (LD V.int z))
   have O:0<P:=by have:=hP.b;lia
   rcases hu with⟨z,_⟩|⟨_,rfl,_⟩
   ·rwa[absurd z h0]
   ·rw[w_ h0] at q;rwa[6263,0,2,0,2,O,q _ H (Ga.refl H) (.inr #[h0,1,1])]
end
def dN(P:Int)(x:Int×Int):PyData:=if P=0 then jC [x.1,x.2] else .int x.1
theorem vE{P:Int}(h:At P H v x):DR K H (dN P x) v:=by
 unfold dN
 rcases h with⟨h0,t,rfl,e⟩|⟨h0,rfl,_⟩
 ·rw[C_ h0];rwa[jf (ns:=[x.1,x.2]) (SqT.of e)]
 ·rw[w_ h0];rwa[.int _]
theorem ia(P:Int)(x:Int×Int):SeqAt.shaped (dN P x)=true:=by
 unfold dN
 split
 ·rwa[dF _]
 ·rfl
def kn:Sp:=λvs H Q _=>∃(p:Addr) (P a b:Int) (k:Nat),vs=[.int P,.ref p,.bl false]/\Gc P/\H p=some (.lst [.int a,.int b])/\Gn a b k/\k<=700000/\
 ∀(v:V) (x:Int×Int) (a' b':Int) (H':Hp),At P H' v x->OkN P x->(P=0->Sz 2 x)->H' p=some (.lst [.int a',.int b'])->Gn a' b' (k+2)->(∀c o,H c=some o->c≠p->H' c=some o)->Q v H'
section
variable [Quiet base]
theorem ui(F:Fun K "_law_number" "_law_number" eV f fd)(T:Blt mg)(HQ:`FnB 1 "_law_take" fD)(Io:`FnB 2 "_law_great" pT)(Jf:`FnB 3 "_law_signed" qR)(HW:`FnB 1 "_law_low" o5):
  Gd P w K mg base CX0 4 f fd ["_law_prime_here", "_law_bag_here", "_law_great_here"] kn:=by
 erw[F.o mW λ_ _ _ _ H _ Q _ U h=>?_]
 ·let#[4015,p,P,a,b,k,1,hP,hp,hb,hk,q]:=h
  erw[_,(af (aL (aw gQ (pv 0) ah (au _))
(ai (ar (az HQ U.m #[6,1,0])))
aB)
(af (aL (bW (pv 2))
(ai (ar (az HW U.m #[6,(az Jf U.m #[6,1]),(DE T #[6,ah,(az Io U.m #[6,1])])])))
aB)
(ai (ar (az HW U.m #[6,(ao cS (az HQ U.m #[6,1,ah]) ah),(ao aQ ah (ao bj (az HQ U.m #[6,1,ah]) ah))]))))),?_]
  have k1:∀o c o',H c=some o'->c≠p->(upd H p o) c=some o':=λo c o' e hc=>by rw[ak hc];rwa[e]
  erw[6211,0,2,0,bC (λh=>?_) (λh=>?_)]
  ·have h0:0<P:=E_ h;have h9:P<=9973:=by rcases hP with z|⟨_,z,_⟩<;>lia
   erw[1196,0,0,p,a,b,P,k,1,hp,hb,(),h0,aP () (),λr a1 b1 r0 Z O=>?_]
   rwa[q _ (r,1) a1 b1 _ (.inr #[(),1,1]) (.inr #[(),r0,Z,1]) (λz=>absurd z ()) ae (O.mono ()) (k1 _)]
  have h0:P=0:=by
   have h1:¬0<P:=λz=>h (q_ z)
   rcases hP with z|⟨z,_⟩<;>lia
  erw[51,0,0,?_];erw[bO #[96,0,p,a,b,(7),k,1,hp,hb,(),#[],aP #[] #[],λZ a1 b1 a4 a5 O=>?_]]
  erw[22,2,?_];erw[96,0,p,a1,b1,(8),k+1,1,ae,O,(),#[],aP #[] #[],λr2 a2 b2 a6 a7 a3=>?_]
  erw[2322,2,ja #[] #[],2,?_]
  rw[cf];have hm:(1:Int)<=1+r2.fdiv 7/\1+r2.fdiv 7<4:=by
   rw[Int.fdiv_eq_ediv_of_nonneg _ #[]]
   lia
  erw[23,Z-3,1+r2.fdiv 7,1,(),aP () (),λt ht=>?_]
  generalize 1+r2.fdiv 7=dd at *;have pt:p≠t:=al (o:=.lst [.int a2,.int b2]) ae ht;have hl:=tO (Z-3) dd ()
  erw[q _ (nrm (Z-3) dd) a2 b2 _ (.inl #[h0,t,1,ae]) (.inl #[h0,fG _ _ (),fW _ _ ()]) (λ_=>#[Lk hl.1 (by show(Z-3).natAbs<4;lia),Lk hl.2 (by show dd.natAbs<4;lia)]) (by rw[ak pt,ae]) (a3.mono ()) λc o e hc=>?_]
  rw[ak (al (k1 _ c o e hc) ht)];rwa[k1 _ c o e hc]
end
abbrev bc:=List Int×(Int×Int)
variable {ts:List bc}
def PartR(P:Int)(H:Hp)(v:V)(p:bc):Prop:=∃(t k:Addr) (u:V),v=.ref t/\H t=some (.tup [.ref k,u])/\H k=some (.tup (p.1.map V.int))/\At P H u p.2
abbrev Gx(P:Int)(H:Hp):List V->List bc->Prop:=Paired (PartR P H)
theorem PartR.mono{P:Int}{p:bc}(k:∀t xs,H t=some (.tup xs)->H' t=some (.tup xs))(h:PartR P H v p):PartR P H' v p:=by
 let#[33,t,c,u,1,h1,h2,h3]:=h
 rwa[33,t,c,u,1,k _ _ h1,k _ _ h2,h3.mono k]
theorem Gx.mono{P:Int}(k:∀t xs,H t=some (.tup xs)->H' t=some (.tup xs)):∀{vs:List V} {ps:List bc},Gx P H vs ps->Gx P H' vs ps
 |_,_,.nil=>.nil
 |_,_,.cons q r=>.cons (q.mono k) (Gx.mono k r)
theorem Gx.at_{P:Int}:∀{vs:List V} {ps:List bc} {i:Nat} {v:V},Gx P H vs ps->vs[i]? = some v->∃p,ps[i]? = some p/\PartR P H v p
 |_,_,0,v,.cons q r,e=>by cases e;rwa[0,q]
 |_::_,_::_,i+1,v,.cons q r,e=>Gx.at_ (i:=i) r e
theorem oV{R:α->β->Prop}:∀{xs:List α} {ys:List β} {i:Nat} {x:α} {y:β},Paired R xs ys->xs[i]? = some x->ys[i]? = some y->R x y
 |_,_,0,x,y,.cons q r,e1,e2=>by cases e1;cases e2;rwa[q]
 |_::_,_::_,i+1,x,y,.cons q r,e1,e2=>oV (i:=i) r e1 e2
def iq(P:Int)(m:List bc)(p:bc):List bc:=mj m p.1 (bT P ((eX m p.1).getD (0,1)) p.2)
def acc(P:Int)(ps:List bc):List bc:=ps.foldl (iq P) []
theorem yV(P:Int)(ps:List bc)(p:bc):acc P (ps++[p])=iq P (acc P ps) p:=by
 unfold acc;rw[foldl_append]
 rfl
theorem qZ{P:Int}{ps:List bc}{i:Nat}{p:bc}(h:ps[i]? = some p):acc P (ps.take (i+1))=iq P (acc P (ps.take i)) p:=by
 rw[Mw,h];rwa[yV P _ p]
def CK(P:Int)(ps:List bc):Prop:=(∀p∈ps,OkN P p.2/\Sz 4300 p.2)/\∀i,∀p∈acc P (ps.take i),Sz 4300 p.2
theorem wS(P:Int)(ps:List bc):((acc P ps).map (·.1)).Nodup:=by
 unfold acc;have go:∀(ps m:List bc),(m.map (·.1)).Nodup->((ps.foldl (iq P) m).map (·.1)).Nodup:=by
  intro ps
  induction ps with
  |nil=>intro m h;rwa[h]
  |cons p ps ih=>intro m h;rwa[ih _ (tY h)]
 rwa[go ps [] (by simp)]
theorem uT(P:Int)(ps:List bc):(acc P ps).length<=ps.length:=by
 unfold acc;have go:∀(ps m:List bc),(ps.foldl (iq P) m).length<=m.length+ps.length:=by
  intro ps
  induction ps with
  |nil=>intro m;simp
  |cons p ps ih=>
   intro m;have h1:=ih (iq P m p);have h2:(iq P m p).length<=m.length+1:=yK _ _ _;show(ps.foldl (iq P) (iq P m p)).length<=_;rw[Mn];lia
 simpa using go ps []
theorem zX{P:Int}(hP:0<=P)(h1:P≠1){ps:List bc}(h:∀p∈ps,OkN P p.2):∀p∈acc P ps,OkN P p.2:=by
 unfold acc;have go:∀(ps m:List bc),(∀p∈ps,OkN P p.2)->(∀p∈m,OkN P p.2)->∀p∈ps.foldl (iq P) m,OkN P p.2:=by
  intro ps
  induction ps with
  |nil=>intro m _ h;rwa[h]
  |cons p ps ih=>
   intro m O hm;erw[ih _ (λq U=>O q (by simp[U])) λq U=>?_]
   rcases rO U with z|z
   ·rw[z];erw[i6 hP ?_ (O p (by simp))]
    cases e:eX m p.1 with
    |none=>rwa[dG hP h1]
    |some y=>rwa[hm _ (gO e)]
   ·rwa[hm q z]
 rwa[go ps [] h (λp O=>nomatch O)]
def nz(p:bc):Bool:=decide (p.2≠(0,1))
def hk(p:bc):Int×List Int:=(p.1.sum,p.1)
def Dc(P:Int)(ps out:List bc):Prop:=out.Perm ((acc P ps).filter nz)/\out.Pairwise λa b=>klt (hk b) (hk a)=true
theorem vB{P:Int}(hx:OkN P x)(hy:OkN P y):PyData.eqv (dN P x) (dN P y)=decide (x=y):=by
 unfold dN
 by_cases h0:P=0
 ·rw[C_ h0,C_ h0,mK];apply OM.mpr
  constructor
  ·intro z;injection z with z1 z2
   injection z2 with z2
   rwa[N2 z1 z2]
  ·intro z;rw[z]
 ·rw[w_ h0,w_ h0]
  rcases hx with⟨z,_⟩|⟨_,_,_,x2⟩
  ·rwa[absurd z h0]
  rcases hy with⟨z,_⟩|⟨_,_,_,y2⟩
  ·rwa[absurd z h0]
  have e:PyData.eqv (.int x.1) (.int y.1)=decide (x.1=y.1):=by simp only[PyData.eqv];rfl
  rw[e];apply OM.mpr;rwa[λz=>N2 z (x2.trans y2.symm),λz=>by rw[z]]
def vI:V->Int
 |.int i=>i
 |_=>0
def EN(H:Hp):V->List Int
 |.ref k=>match H k with
  |some (.tup xs)=>xs.map vI
  |_=>[]
 |_=>[]
def xV(H:Hp)(v:V):Int×List Int:=((EN H v).sum,EN H v)
theorem pP{k:Addr}(h:H k=some (.tup (ns.map V.int))):EN H (.ref k)=ns:=by
 show(match H k with|some (.tup xs)=>xs.map vI|_=>[])=ns
 rw[h];show(ns.map V.int).map vI=ns;rw[Oo];rwa[List.map_id'' (λ_=>rfl) ns]
theorem yW{ps:List bc}(h:(ps.map (·.1)).Nodup):(ps.map hk).Nodup:=by
 have e:ps.map hk=(ps.map (·.1)).map (λk:List Int=>(k.sum,k)):=by rw[Oo];rfl
 rw[e];rwa[List.Pairwise.map _ (λa b O z=>O (LD Prod.snd z)) h]
theorem Gx.snoc{P:Int}{p:bc}(q:PartR P H v p):∀{vs:List V} {ps:List bc},Gx P H vs ps->Gx P H (vs++[v]) (ps++[p])
 |_,_,.nil=>.cons q .nil
 |_,_,.cons a r=>.cons a (Gx.snoc q r)
theorem kB{ps:List bc}{i:Nat}{p:bc}(h:ps[i]? = some p):(ps.take (i+1)).filter nz=(ps.take i).filter nz++(if nz p=true then[p] else[]):=by
 rw[Mw,h,filter_append];congr 1;show List.filter nz [p]=_
 by_cases e:nz p=true
 ·rw[C_ e];simp[e]
 ·rw[w_ e];simp[e]
theorem qF{R:α->β->Prop}{ws vs:List α}(p:ws.Perm vs):∀ps:List β,Paired R vs ps->∃O:List β,O.Perm ps/\Paired R ws O:=by
 induction p with
 |nil=>intro ps h;rwa[ps,.refl _,h]
 |cons x p ih=>
  intro ps h;cases h with
  |cons q r=>
   let#[O,e,h']:=ih _ r;rwa[_::O,e.cons _,.cons q h']
 |swap x y l=>
  intro ps h;cases h with
  |cons q r=>cases r with
   |cons q2 r=>rwa[_::_::_,.swap _ _ _,.cons q2 (.cons q r)]
 |trans p1 p2 ih1 ih2=>
  intro ps h;let#[O,e,h']:=ih2 _ h;let#[rs,e2,h2]:=ih1 _ h';rwa[rs,e2.trans e,h2]
def rc(H:Hp)(v:V)(p:bc):Prop:=∃a,v=.ref a/\H a=some (.tup (p.1.map V.int))
theorem vK:∀{as:List Addr} {m:List bc},Paired (λ(a:Addr) (q:bc)=>H a=some (.tup (q.1.map V.int))) as m->Paired (rc H) (as.map V.ref) m
 |_,_,.nil=>.nil
 |_,_,.cons q r=>.cons #[0,q] (vK r)
theorem jQ:∀{vs:List V} {m:List bc},Paired (rc H) vs m->vs.map (xV H)=m.map hk
 |_,_,.nil=>rfl
 |_,_,.cons ⟨a,e,q⟩ r=>by
  rw[NF,NF,jQ r,e];unfold xV hk;rw[pP q]
theorem qM:∀{vs:List V} {ps:List bc} {v:V},Paired (rc H) vs ps->v∈vs->∃p∈ps,rc H v p
 |_,_,v,.cons q r,O=>by
  rcases HB.mp O with rfl|O
  ·rwa[_,by simp,q]
  ·let#[p,U,h]:=qM r O;rwa[p,by simp[U],h]
theorem Bq(P:Int):(if P=0 then((0:Int),(1:Int)) else(0%P,1))=(0,1):=by
 split
 ·rfl
 ·rw[Int.zero_emod]
theorem iB{P:Int}(h:OkN P x):bT P (0,1) x=x:=by
 unfold bT
 rcases h with⟨h0,hd,hg⟩|⟨h0,a,b,c⟩
 ·rw[C_ h0];show nrm (0*x.2+x.1*1) (1*x.2)=x;rw[Int.zero_mul,Int.zero_add,O9,Int.one_mul];exact(fm x.1 x.2 hd).mpr hg
 ·rw[w_ h0];show((0+x.1)%P,1)=x;rw[Int.zero_add,Op a b];rwa[N2 rfl c.symm]
theorem aq{R S:α->β->Prop}(h:∀x y,R x y->S x y):∀{xs:List α} {ys:List β},Paired R xs ys->Paired S xs ys
 |_,_,.nil=>.nil
 |_,_,.cons q r=>.cons (h _ _ q) (aq h r)
theorem aD{R:α->β->Prop}:∀{xs:List α} {ys:List β} {i:Nat} {x:α},Paired R xs ys->xs[i]? = some x->∃y,ys[i]? = some y/\R x y
 |_,_,0,x,.cons q r,e=>by cases e;rwa[0,q]
 |_::_,_::_,i+1,x,.cons q r,e=>aD (i:=i) r e
theorem aV{R:α->β->Prop}{x:α}{y:β}(h:R x y):∀{xs:List α} {ys:List β},Paired R xs ys->Paired R (xs++[x]) (ys++[y])
 |_,_,.nil=>.cons h .nil
 |_,_,.cons q r=>.cons q (aV h r)
def fpl(a b:Int×Int):Int×Int:=if a.2=b.2 then(a.1+b.1,a.2) else(a.1*(b.2.fdiv (Int.gcd a.2 b.2:Int))+b.1*(a.2.fdiv (Int.gcd a.2 b.2:Int)),a.2*(b.2.fdiv (Int.gcd a.2 b.2:Int)))
def val(P:Int)(x:Int×Int):Int×Int:=if P=0 then nrm x.1 x.2 else(x.1%P,1)
theorem o8{g u:Int}(hg:0<g)(h:0<g*u):0<u:=by
 rcases Int.lt_or_le 0 u with z|z
 ·rwa[z]
 ·have:=Int.mul_le_mul_of_nonneg_left z (show 0<=g by lia)
  rw[Int.mul_zero] at this;lia
theorem AN{b:Int}(ha:0<a)(hb:0<b):a=(Int.gcd a b:Int)*a.fdiv (Int.gcd a b:Int)/\b=(Int.gcd a b:Int)*b.fdiv (Int.gcd a b:Int)/\0<(Int.gcd a b:Int)/\0<a.fdiv (Int.gcd a b:Int)/\0<b.fdiv (Int.gcd a b:Int):=by
 have hg:0<Int.gcd a b:=Int.gcd_pos_of_ne_zero_left b ()
 have O:(0:Int)<(Int.gcd a b:Int):=()
 let#[u,U]:=Int.gcd_dvd_left (a:=a) (b:=b);let#[v,Z]:=Int.gcd_dvd_right (a:=a) (b:=b);have e1:a.fdiv (Int.gcd a b:Int)=u:=by
  have:((Int.gcd a b:Int)*u).fdiv (Int.gcd a b:Int)=u:=LW u ()
  rw[<- U] at this;rwa[this]
 have e2:b.fdiv (Int.gcd a b:Int)=v:=by
  have:((Int.gcd a b:Int)*v).fdiv (Int.gcd a b:Int)=v:=LW v ()
  rw[<- Z] at this;rwa[this]
 rw[e1,e2];erw[U,Z,O,?_,?_]
 ·rwa[o8 O (by rw[<- U];rwa[ha])]
 ·rwa[o8 O (by rw[<- Z];rwa[hb])]
theorem EH{P:Int}(hP:0<=P)(h:0<x.2):OkN P (val P x):=by
 unfold val
 split
 ·rename_i e;subst e;rwa[i9 ()]
 ·rwa[js hP ‹_›]
def Fz(m:List bc)(q:bc):List bc:=mj m q.1 (match eX m q.1 with|some y=>fpl y q.2|none=>q.2)
def gath(ts:List bc):List bc:=ts.foldl Fz []
structure CS (R:Type) where
 add:R->R->R
 mul:R->R->R
 zero:R
 one:R
 add_comm:∀x y,add x y=add y x
 add_assoc:∀x y z,add (add x y) z=add x (add y z)
 zero_add:∀x,add zero x=x
 mul_comm:∀x y,mul x y=mul y x
 mul_assoc:∀x y z,mul (mul x y) z=mul x (mul y z)
 one_mul:∀x,mul one x=x
 zero_mul:∀x,mul zero x=zero
 mul_add:∀x y z,mul x (add y z)=add (mul x y) (mul x z)
namespace CS
variable {R:Type}(S:CS R)
theorem add_zero(x:R):S.add x S.zero=x:=by rw[S.add_comm,S.zero_add]
theorem mul_zero(x:R):S.mul x S.zero=S.zero:=by rw[S.mul_comm,S.zero_mul]
theorem add_mul(x y z:R):S.mul (S.add x y) z=S.add (S.mul x z) (S.mul y z):=by rw[S.mul_comm,S.mul_add,S.mul_comm z,S.mul_comm z]
theorem add4(a b c d:R):S.add (S.add a b) (S.add c d)=S.add (S.add a c) (S.add b d):=by
 rw[S.add_assoc,S.add_assoc,<- S.add_assoc b,S.add_comm b c,S.add_assoc c]
end CS
theorem iU{b c d:Int}(hb:b≠0)(hd:d≠0)(e:a*d=c*b):nrm a b=nrm c d:=by
 have U:=kh a b hb;have e2:=kh c d hd;have key:(nrm a b).1*(nrm c d).2=(nrm c d).1*(nrm a b).2:=by
  generalize nrm a b=x at *;generalize nrm c d=y at *;let#[n1,Z]:=x;let#[n2,m2]:=y;simp only at *;have O:b*d≠0:=MA hb hd;apply Int.eq_of_mul_eq_mul_right O
  grind
 let#[p,q]:=CC (fG a b hb) (fG c d hd) (fW a b hb) (fW c d hd) key;rwa[N2 p q]
def Raw(P:Int)(x:Int×Int):Prop:=0<x.2/\(P≠0->x.2=1)
theorem aF{P:Int}(h:OkN P x):Raw P x:=by
 rcases h with⟨h0,h1,_⟩|⟨h0,_,_,h3⟩
 ·rwa[h1,λz=>absurd h0 z]
 ·rwa[(),λ_=>h3]
theorem ck{P:Int}(h:OkN P x):_root_.K.val P x=x:=by
 unfold _root_.K.val
 rcases h with⟨h0,h1,h2⟩|⟨h0,h1,h2,h3⟩
 ·rw[C_ h0];exact(fm x.1 x.2 h1).mpr h2
 ·rw[w_ h0,Op h1 h2];rwa[N2 rfl h3.symm]
theorem bI{P:Int}(hx:Raw P x)(hy:Raw P y)(e:x.1*y.2=y.1*x.2):val P x=val P y:=by
 unfold val
 by_cases h0:P=0
 ·rw[C_ h0,C_ h0];rwa[iU (by have:=hx.1;lia) (by have:=hy.1;lia) e]
 ·rw[w_ h0,w_ h0];rw[hx.2 h0,hy.2 h0,O9,O9] at e;rw[e]
theorem lC(hx:0<x.2):Raw 0 (nrm x.1 x.2)/\(nrm x.1 x.2).1*x.2=x.1*(nrm x.1 x.2).2:=#[#[fG _ _ (),λz=>absurd rfl z],kh _ _ ()]
theorem jq{P:Int}(hx:Raw P x)(hy:Raw P y):bT P (val P x) (val P y)=val P (x.1*y.2+y.1*x.2,x.2*y.2):=by
 by_cases h0:P=0
 ·subst h0;have U:val 0 x=nrm x.1 x.2:=by unfold val;rw[C_ rfl]
  have e2:val 0 y=nrm y.1 y.2:=by unfold val;rw[C_ rfl]
  let#[O,Z]:=lC hx.1;let#[b1,b2]:=lC hy.1;rw[U,e2];unfold bT val;rw[C_ rfl,C_ rfl];generalize nrm x.1 x.2=u at *;generalize nrm y.1 y.2=v at *;have:=Qp O.1 b1.1;have:=Qp hx.1 hy.1;erw[iU () () ?_]
  grind
 ·unfold bT val;rw[w_ h0,w_ h0,w_ h0,w_ h0];erw[N2 ?_ rfl];show(x.1%P+y.1%P)%P=(x.1*y.2+y.1*x.2)%P;rw[hx.2 h0,hy.2 h0,O9,O9,<- Int.add_emod]
theorem fO{P:Int}(hx:Raw P x)(hy:Raw P y):bV P (val P x) (val P y)=val P (x.1*y.1,x.2*y.2):=by
 by_cases h0:P=0
 ·subst h0;have U:val 0 x=nrm x.1 x.2:=by unfold val;rw[C_ rfl]
  have e2:val 0 y=nrm y.1 y.2:=by unfold val;rw[C_ rfl]
  let#[O,Z]:=lC hx.1;let#[b1,b2]:=lC hy.1;rw[U,e2];unfold bV val;rw[C_ rfl,C_ rfl];generalize nrm x.1 x.2=u at *;generalize nrm y.1 y.2=v at *;have:=Qp O.1 b1.1;have:=Qp hx.1 hy.1;erw[iU () () ?_]
  grind
 ·unfold bV val;rw[w_ h0,w_ h0,w_ h0,w_ h0];erw[N2 ?_ rfl];show(x.1%P*(y.1%P))%P=(x.1*y.1)%P;rw[<- Int.mul_emod]
theorem dA{P:Int}(hx:Raw P x)(hy:Raw P y):Raw P (x.1*y.2+y.1*x.2,x.2*y.2):=
 #[Qp hx.1 hy.1,λh=>by show x.2*y.2=1;rw[hx.2 h,hy.2 h];rfl]
theorem ce{P:Int}(hx:Raw P x)(hy:Raw P y):Raw P (x.1*y.1,x.2*y.2):=
 #[Qp hx.1 hy.1,λh=>by show x.2*y.2=1;rw[hx.2 h,hy.2 h];rfl]
abbrev Nb(P:Int):={ x:Int×Int // OkN P x }
theorem zE{P:Int}(hP:Gc P):OkN P (1,1):=by
 have O:=hP.b
 by_cases h0:P=0
 ·rwa[.inl #[h0,#[],1]]
 ·rwa[.inr #[h0,#[],by show(1:Int)<P;lia,1]]
theorem ft{P:Int}(hx:OkN P x)(hy:OkN P y):bT P x y=val P (x.1*y.2+y.1*x.2,x.2*y.2):=by
 have:=jq (aF hx) (aF hy);rwa [ck hx,ck hy] at this
theorem cO{P:Int}(hx:OkN P x)(hy:OkN P y):bV P x y=val P (x.1*y.1,x.2*y.2):=by
 have:=fO (aF hx) (aF hy);rwa [ck hx,ck hy] at this
def nb{P:Int}(hP:Gc P):CS (Nb P) where
 add x y:=#[bT P x.1 y.1,i6 hP.b.1 x.2 y.2]
 mul x y:=#[bV P x.1 y.1,ie hP.b.1 x.2 y.2]
 zero:=#[(0,1),dG hP.b.1 hP.b.2.2]
 one:=#[(1,1),zE hP]
 add_comm x y:=Mi (by
  show bT P x.1 y.1=bT P y.1 x.1;rw[ft x.2 y.2,ft y.2 x.2];rwa[bI (dA (aF x.2) (aF y.2)) (dA (aF y.2) (aF x.2)) (by dsimp only;grind)])
 add_assoc x y z:=Mi (by
  show bT P (bT P x.1 y.1) z.1=bT P x.1 (bT P y.1 z.1);have e1:=ft x.2 y.2;have e2:=ft y.2 z.2;have a:=dA (aF x.2) (aF y.2);have b:=dA (aF y.2) (aF z.2);have f1:=jq a (aF z.2);have f2:=jq (aF x.2) b;rw[<- e1,ck z.2] at f1;rw[<- e2,ck x.2] at f2;rw[f1,f2];rwa[bI (dA a (aF z.2)) (dA (aF x.2) b) (by dsimp only;grind)])
 zero_add x:=Mi (iB x.2)
 mul_comm x y:=Mi (by
  show bV P x.1 y.1=bV P y.1 x.1;rw[cO x.2 y.2,cO y.2 x.2];rwa[bI (ce (aF x.2) (aF y.2)) (ce (aF y.2) (aF x.2)) (by dsimp only;grind)])
 mul_assoc x y z:=Mi (by
  show bV P (bV P x.1 y.1) z.1=bV P x.1 (bV P y.1 z.1);have e1:=cO x.2 y.2;have e2:=cO y.2 z.2;have a:=ce (aF x.2) (aF y.2);have b:=ce (aF y.2) (aF z.2);have f1:=fO a (aF z.2);have f2:=fO (aF x.2) b;rw[<- e1,ck z.2] at f1;rw[<- e2,ck x.2] at f2;rw[f1,f2];rwa[bI (ce a (aF z.2)) (ce (aF x.2) b) (by dsimp only;grind)])
 one_mul x:=Mi (by
  show bV P (1,1) x.1=x.1;rw[cO (zE hP) x.2];show val P (1*x.1.1,1*x.1.2)=x.1;rw[Int.one_mul,Int.one_mul];rwa[ck x.2])
 zero_mul x:=Mi (by
  show bV P (0,1) x.1=(0,1);have hz:OkN P (0,1):=dG hP.b.1 hP.b.2.2;rw[cO hz x.2];refine(bI (ce (aF hz) (aF x.2)) (aF hz) ?_).trans (ck hz);dsimp only
  grind)
 mul_add x y z:=Mi (by
  show bV P x.1 (bT P y.1 z.1)=bT P (bV P x.1 y.1) (bV P x.1 z.1);have a:=dA (aF y.2) (aF z.2);have b:=ce (aF x.2) (aF y.2);have d:=ce (aF x.2) (aF z.2);have f1:=fO (aF x.2) a;have f2:=jq b d;rw[<- ft y.2 z.2,ck x.2] at f1;rw[<- cO x.2 y.2,<- cO x.2 z.2] at f2;rw[f1,f2];rwa[bI (ce (aF x.2) a) (dA b d) (by dsimp only;grind)])
def Rw(B M:Nat)(x:Int×Int):Prop:=0<x.2/\x.2.natAbs ∣ B/\x.1.natAbs<=M*x.2.natAbs
theorem Rw.mono{C:Nat}(h:Rw B M x)(h1:B ∣ C)(h2:M<=N):Rw C N x:=
 #[h.1,Nat.dvd_trans h.2.1 h1,Hb h.2.2 (LP _ h2)]
theorem Rw.sz(h:Rw B M x)(hB:0<B)(hM:1<=M)(hz:M*B<2^z):Sz z x:=by
 have h1:x.2.natAbs<=B:=Nd hB h.2.1;have h2:M*x.2.natAbs<=M*B:=Pn _ h1;have O:B<=M*B:=Mu _ hM;rwa[Lk (Hb h.2.2 h2) hz,()]
theorem vS{n d b:Int}(hg:Int.gcd n d=1)(e:n*b=a*d):d.natAbs ∣ b.natAbs:=by
 have h1:d.natAbs ∣ n.natAbs*b.natAbs:=by
  rw[<- J_,e,J_];rwa[Nat.dvd_mul_left _ _]
 rwa[Nat.Coprime.dvd_of_dvd_mul_left (Nat.Coprime.symm (show Nat.gcd n.natAbs d.natAbs=1 from hg)) h1]
theorem yt{b:Int}{u:Int×Int}(hb:0<b)(hd:0<u.2)(hg:Int.gcd u.1 u.2=1)(e:u.1*b=a*u.2)(hB:∃c:Int,u.1*B=c*u.2)(ha:a.natAbs<=M*b.natAbs):Rw B M u:=by
 let#[c,Z]:=hB;erw[hd,by simpa using vS hg Z,?_]
 have U:u.1.natAbs*b.natAbs=a.natAbs*u.2.natAbs:=by rw[<- J_,e,J_]
 have O:0<b.natAbs:=()
 erw[Nat.le_of_mul_le_mul_right (c:=b.natAbs) ?_ O];rw[U]
 calc a.natAbs*u.2.natAbs<=M*b.natAbs*u.2.natAbs:=LP _ ha
  _=M*u.2.natAbs*b.natAbs:=by ac_rfl
theorem DS(h:Rw B M x):Rw B M (nrm x.1 x.2):=by
 have h0:=h.1;have O:x.2≠0:=()
 have e:=kh x.1 x.2 O;let#[k,hk]:=h.2.1;erw[yt (a:=x.1) (b:=x.2) h0 (fG _ _ O) (fW _ _ O) e #[x.1*k,?_] h.2.2];have hB:(B:Int)=x.2*k:=by rw[hk];rw[MQ,MU ()]
 rw[hB];generalize nrm x.1 x.2=u at *;have U:u.1*(x.2*k)=u.1*x.2*k:=by ac_rfl
 have Z:x.1*u.2*k=x.1*k*u.2:=by ac_rfl
 rw[U,e,Z]
theorem D6{u v b c d k l B:Int}(e:u*(b*d)=(a*d+c*b)*v)(h1:B=b*k)(h2:B=d*l):u*B*(b*d)=(a*k+c*l)*v*(b*d):=by
 have O:u*B*(b*d)=(u*(b*d))*B:=by ac_rfl
 have U:(a*d+c*b)*v*B=a*d*v*B+c*b*v*B:=by rw[Int.add_mul,Int.add_mul]
 have Z:a*d*v*B=a*k*(v*(b*d)):=by rw[h1];ac_rfl
 have f4:c*b*v*B=c*l*(v*(b*d)):=by rw[h2];ac_rfl
 rw[O,e,U,Z,f4,<- Int.add_mul,Nv]
theorem zS{P:Int}(hP:0<=P)(h0:P≠0)(h9:P<=9973)(hM:2^14<=M):Rw B M (a%P,1):=by
 erw[Int.one_pos,Nat.one_dvd _,?_];have h1:=L5 a h0;have h2:=LC a (show 0<P by lia)
 show(a%P).natAbs<=M*1;have:(2:Nat)^14=16384:=rfl;lia
theorem Cd{P:Int}(hP:Gc P)(hM:2^14<=M)(hx:Rw B M x)(hy:Rw B N y):Rw B (M+N) (bT P x y):=by
 have U:=hP.b;unfold bT
 split
 ·have px:=hx.1;have py:=hy.1;have pd:=Qp px py;have O:x.2*y.2≠0:=()
  have e:=kh (x.1*y.2+y.1*x.2) (x.2*y.2) O;let#[k,hk]:=hx.2.1;let#[l,Z]:=hy.2.1;have h1:(B:Int)=x.2*k:=by rw[hk];rw[MQ,MU ()]
  have h2:(B:Int)=y.2*l:=by rw[Z];rw[MQ,MU ()]
  erw[yt pd (fG _ _ O) (fW _ _ O) e #[x.1*k+y.1*l,?_] ?_]
  ·generalize nrm (x.1*y.2+y.1*x.2) (x.2*y.2)=u at *;rwa[Int.eq_of_mul_eq_mul_right O (D6 e h1 h2)]
  ·rw[J_]
   calc (x.1*y.2+y.1*x.2).natAbs<=(x.1*y.2).natAbs+(y.1*x.2).natAbs:=Int.natAbs_add_le _ _
    _=x.1.natAbs*y.2.natAbs+y.1.natAbs*x.2.natAbs:=by rw[J_,J_]
    _<=M*x.2.natAbs*y.2.natAbs+N*y.2.natAbs*x.2.natAbs:=Nat.add_le_add (LP _ hx.2.2) (LP _ hy.2.2)
    _=(M+N)*(x.2.natAbs*y.2.natAbs):=by rw[Nat.add_mul];congr 1<;>ac_rfl
 ·rwa[zS U.1 ‹_› U.2.1 ()]
theorem yZ{P:Int}(hP:Gc P)(hM:2^14<=M){ps:List bc}(h:∀p∈ps,OkN P p.2/\Rw B M p.2):∀i,i<=ps.length->∀p∈acc P (ps.take i),Rw B (i*M) p.2
 |0,_,p,hp=>by simp[acc] at hp
 |i+1,hi,p,hp=>by
  obtain⟨q,eq⟩:∃q,ps[i]? = some q:=#[_,ge ()]
  let#[oq,Z]:=h q (GY eq);have U:=yZ hP hM h i ()
  have e1:(i+1)*M=i*M+M:=by rw[Nat.add_mul,Q9]
  rw[e1];rw[qZ eq] at hp
  rcases rO hp with w|w
  ·rw[w];cases e:eX (acc P (ps.take i)) q.1 with
   |none=>
    show Rw B (i*M+M) (bT P (0,1) q.2);rw[iB oq];rwa[Z.mono (Nat.dvd_refl _) ()]
   |some y=>
    show Rw B (i*M+M) (bT P y q.2);have hy:=U _ (gO e);have O:1<=i:=by
     rcases Nat.eq_zero_or_pos i with z|z
     ·subst z;simp[acc,eX] at e
     ·rwa[z]
    rwa[Cd hP (Hb hM (Mu _ O)) hy Z]
  ·exact(U p w).mono (Nat.dvd_refl _) ()
theorem yb{p f:Int}(h2:2<=p)(h9:p<=9973)(hp:iG p=true)(f0:0<f)(f1:f<p):Int.gcd p f=1:=by
 have a3:0<Int.gcd p f:=Int.gcd_pos_of_ne_zero_left f ()
 have a1:((Int.gcd p f:Nat):Int) ∣ p:=Int.gcd_dvd_left ..;have Z:((Int.gcd p f:Nat):Int) ∣ f:=Int.gcd_dvd_right ..;generalize Int.gcd p f=g at *;have a2:(g:Int)<=f:=Int.le_of_dvd f0 Z;let#[h,e]:=a1
 by_cases g1:g=1
 ·rwa[g1]
 exfalso
 have g2:2<=(g:Int):=()
 have hh:2<=h:=by
  rcases Int.lt_or_le h 2 with z|z
  ·have:=Int.mul_le_mul_of_nonneg_left (show h<=1 by lia) (show 0<=(g:Int) by lia)
   lia
  ·rwa[z]
 have key:∀d k:Int,2<=d->d<=k->p=d*k->False:=λd k d2 dk ep=>by
  have U:d*d<=p:=by rw[ep];rwa[Int.mul_le_mul_of_nonneg_left dk ()]
  have O:d<100:=Int.not_le.mp λz=>by
   have:=Int.mul_le_mul z z () ()
   lia
  have h0:=(isPb_iff.mp hp).2 d d2 O U;have:p%d=0:=by rw[ep];rwa[Int.mul_emod_right d k]
  lia
 rcases Int.le_total (g:Int) h with z|z
 ·rwa[key g h g2 z e]
 ·rwa[key h g hh z (by rw[e,Qx])]
abbrev Vz:=Nat->Int
variable {u r W:Vz}{rs Ws:List Vz}
def ix(r:Vz):(List Nat->Int)->List Nat->Int
 |_,[]=>0
 |f,c::cs=>r c*f cs-ix r (λl=>f (c::l)) cs
def det:List Vz->List Nat->Int
 |[]=>λ_=>1
 |r::rs=>ix r (det rs)
theorem vb(r:Vz):∀{f:List Nat->Int} {cs:List Nat},(∀l,f l=0)->ix r f cs=0
 |f,[],_=>rfl
 |f,c::cs,h=>by
  show r c*f cs-ix r (λl=>f (c::l)) cs=0
  rw[h,vb r λl=>h (c::l)]
  simp
theorem sX:∀{f:List Nat->Int} {cs:List Nat},(∀c∈cs,r c=0)->ix r f cs=0
 |f,[],_=>rfl
 |f,c::cs,h=>by
  show r c*f cs-ix r (λl=>f (c::l)) cs=0
  rw[h c (by simp),sX λd hd=>h d (by simp[hd])]
  simp
theorem sQ(a b:Int)(r s:Vz):∀(f:List Nat->Int) (cs:List Nat),ix (λj=>a*r j+b*s j) f cs=a*ix r f cs+b*ix s f cs
 |f,[]=>by simp[ix]
 |f,c::cs=>by
  show(a*r c+b*s c)*f cs-ix _ (λl=>f (c::l)) cs=a*(r c*f cs-ix r (λl=>f (c::l)) cs)+b*(s c*f cs-ix s (λl=>f (c::l)) cs)
  rw[sQ a b r s _ cs]
  grind
theorem uQ(r:Vz)(a b:Int):∀(f g:List Nat->Int) (cs:List Nat),ix r (λl=>a*f l+b*g l) cs=a*ix r f cs+b*ix r g cs
 |f,g,[]=>by simp[ix]
 |f,g,c::cs=>by
  show r c*(a*f cs+b*g cs)-ix r (λl=>a*f (c::l)+b*g (c::l)) cs=a*(r c*f cs-ix r (λl=>f (c::l)) cs)+b*(r c*g cs-ix r (λl=>g (c::l)) cs)
  rw[uQ r a b (λl=>f (c::l)) (λl=>g (c::l)) cs]
  grind
theorem uV(r s:Vz):∀(f:List Nat->Int) (cs:List Nat),ix r (ix s f) cs+ix s (ix r f) cs=0
 |f,[]=>rfl
 |f,c::cs=>by
  have e:∀r s:Vz,ix r (ix s f) (c::cs)=r c*ix s f cs-s c*ix r f cs+ix r (ix s λl=>f (c::l)) cs:=λr s=>by
   show r c*ix s f cs-ix r (λl=>s c*f l-ix s (λm=>f (c::m)) l) cs=_
   have:=uQ r (s c) (-1) f (ix s λm=>f (c::m)) cs
   rw[show(λl=>s c*f l-ix s (λm=>f (c::m)) l)=λl=>s c*f l + -1*ix s (λm=>f (c::m)) l from funext λl=>(),this]
   lia
  have O:=uV r s (λl=>f (c::l)) cs
  rw[e r s,e s r];lia
theorem mF(r s:Vz)(rs:List Vz)(cs:List Nat):det (r::s::rs) cs = - det (s::r::rs) cs:=by
 have:=uV r s (det rs) cs;show ix r (ix s (det rs)) cs = - ix s (ix r (det rs)) cs;lia
theorem uY{v:Vz}:∀{rs:List Vz} {cs:List Nat},v∈rs->det (v::rs) cs=0
 |r::rs,cs,h=>by
  rcases HB.mp h with rfl|h
  ·have:=mF v v rs cs;lia
  ·rw[mF];have:det (r::v::rs) cs=0:=vb r λl=>uY h
   lia
inductive Comb (rs:List Vz) (d:Int) (v:Vz):Vz->Prop
 |base:Comb rs d v λj=>d*v j
 |add {u:Vz} {a:Int} {r:Vz}:Comb rs d v u->r∈rs->Comb rs d v λj=>u j+a*r j
theorem eE{d:Int}{v:Vz}(h:Comb rs d v u)(cs:List Nat):det (u::rs) cs=d*det (v::rs) cs:=by
 induction h with
 |base=>
  have:=sQ d 0 v v (det rs) cs;rw[show(λj=>d*v j+0*v j)=λj=>d*v j from funext λj=>()] at this
  show ix (λj=>d*v j) (det rs) cs=d*ix v (det rs) cs
  rw[this];lia
 |@add u a r _ hr ih=>
  have:=sQ 1 a u r (det rs) cs;rw[show(λj=>1*u j+a*r j)=λj=>u j+a*r j from funext λj=>()] at this
  have z:det (r::rs) cs=0:=uY hr;have U:ix r (det rs) cs=0:=z;have O:ix u (det rs) cs=d*det (v::rs) cs:=ih;show ix (λj=>u j+a*r j) (det rs) cs=_
  rw[this,U,O];lia
theorem jp(h:∀c∈cs,u c=0)(j:Nat):det (u::rs) (j::cs)=u j*det rs cs:=by
 show u j*det rs cs-ix u (λl=>det rs (j::l)) cs=_
 rw[sX h];lia
theorem xE{v w t:Vz}{d:Int}(hu:Comb rs d v u)(ht:Comb rs e w t)(zu:∀c∈cs,u c=0)(zt:∀c∈cs,t c=0)(hd:d≠0)(he:e≠0)(j c:Nat):
  det rs cs*det (v::w::rs) (j::c::cs)=det (w::rs) (c::cs)*det (v::rs) (j::cs)-det (v::rs) (c::cs)*det (w::rs) (j::cs):=by
 have Z:=eE hu (j::cs);have a2:=eE hu (c::cs);have b1:=eE ht (j::cs);have b2:=eE ht (c::cs);rw[jp zu] at Z a2;rw[jp zt] at b1 b2;have c1:det (u::w::rs) (j::c::cs)=d*det (v::w::rs) (j::c::cs):=by
  have U:Comb (w::rs) d v u:=by
   clear Z a2 zu
   induction hu with
   |base=>rwa[.base]
   |add _ hr ih=>rwa[.add ih (by simp[hr])]
  rwa[eE U _]
 have c2:det (t::u::rs) (j::c::cs)=e*det (w::u::rs) (j::c::cs):=by
  have O:Comb (u::rs) e w t:=by
   clear b1 b2 zt
   induction ht with
   |base=>rwa[.base]
   |add _ hr ih=>rwa[.add ih (by simp[hr])]
  rwa[eE O _]
 have c3:det (t::u::rs) (j::c::cs)=t j*(u c*det rs cs)-u j*(t c*det rs cs):=by
  have z:det (t::u::rs) (j::c::cs)=t j*det (u::rs) (c::cs)-(t c*det (u::rs) (j::cs)-ix t (λl=>det (u::rs) (j::c::l)) cs):=rfl
  rw[z,sX zt,jp zu,jp zu]
  grind
 have c4:=mF w u rs (j::c::cs);have key:d*e*(det rs cs*det (v::w::rs) (j::c::cs))=d*e*(det (w::rs) (c::cs)*det (v::rs) (j::cs)-det (v::rs) (c::cs)*det (w::rs) (j::cs)):=by
  generalize det rs cs=D at *;generalize det (v::w::rs) (j::c::cs)=G at *;generalize det (u::w::rs) (j::c::cs)=G1 at *;generalize det (w::u::rs) (j::c::cs)=G2 at *;generalize det (t::u::rs) (j::c::cs)=G3 at *;generalize det (w::rs) (c::cs)=E1 at *;generalize det (v::rs) (j::cs)=A1 at *;generalize det (v::rs) (c::cs)=B1 at *;generalize det (w::rs) (j::cs)=C1 at *
  grind
 rwa[Int.eq_of_mul_eq_mul_left (MA hd he) key]
theorem C4{X Y:Nat}(hr:∀c,(r c).natAbs<=X):∀{f:List Nat->Int} {cs:List Nat},(∀l,l.length+1=cs.length->(f l).natAbs<=Y)->(ix r f cs).natAbs<=cs.length*(X*Y)
 |f,[],_=>by simp[ix]
 |f,c::cs,h=>by
  have U:=C4 hr (f:=λl=>f (c::l)) (cs:=cs) λl O=>h (c::l) (by simp[O])
  have h0:=h cs rfl;have h1:=OW (hr c) h0;rw[<- J_] at h1;show(r c*f cs-ix r (λl=>f (c::l)) cs).natAbs<=_
  rw[Mn,Nat.add_mul,Q9];lia
def iw:List Nat->Nat
 |[]=>1
 |x::xs=>6*x*iw xs
theorem sW:∀{rs:List Vz} {Xs:List Nat} {cs:List Nat},Paired (λ(r:Vz) X=>∀c,(r c).natAbs<=X) rs Xs->cs.length<=6->(det rs cs).natAbs<=iw Xs
 |_,_,cs,.nil,_=>by simp[det,iw]
 |r::rs,X::Xs,cs,.cons h t,hc=>by
  have:=C4 h (f:=det rs) (Y:=iw Xs) (cs:=cs) λl O=>sW t ()
  erw[Hb this ?_];show cs.length*(X*iw Xs)<=6*X*iw Xs;rw[Qa];rwa[LP _ hc]
theorem o6:∀(n:Nat) {l:List Nat},l.Nodup->(∀x∈l,x<n)->l.length<=n
 |0,l,_,h=>by
  match l,h with
  |[],_=>rwa[e_ _]
  |x::_,h=>rwa[absurd (h x (by simp)) (Nat.not_lt_zero _)]
 |n+1,l,nd,h=>by
  have:=o6 n (l:=l.erase n) (nd.erase n) λx O=>by
   have h1:=(List.Nodup.mem_erase_iff nd).mp O;have:=h x h1.2;lia
  have:=List.length_erase (a:=n) (l:=l)
  split at this<;>lia
theorem wZ{l:List Nat}(nd:l.Nodup)(h:∀x∈l,x<n)(hl:l.length=n):l.Perm (List.range n):=by
 refine(List.perm_ext_iff_of_nodup nd List.nodup_range).mpr λa=>#[λha=>M_.mpr (h a ha),λha=>?_]
 have ha:=M_.mp ha;apply Decidable.byContradiction;intro hn;have:=o6 n (l:=a::l) (P3.mpr #[hn,nd]) λx O=>by
  rcases HB.mp O with rfl|O
  ·rwa[ha]
  ·rwa[h x O]
 rw[Mn] at this;lia
def fq:List Nat->Nat
 |[]=>1
 |x::l=>x*fq l
theorem tT{a b:List Nat}(h:a.Perm b):fq a=fq b:=by
 induction h with
 |nil=>rfl
 |cons x _ ih=>show x*_=x*_;rw[ih]
 |swap x y l=>show y*(x*fq l)=x*(y*fq l);ac_rfl
 |trans _ _ i1 i2=>rwa[i1.trans i2]
theorem pj(p a:Nat):∀l:List Nat,fq (l.map λi=>(i+1)*a%p)%p=(a^l.length*fq (l.map (· + 1)))%p
 |[]=>by simp[fq]
 |i::l=>by
  show((i+1)*a%p*fq (l.map _))%p=(a^(l.length+1)*((i+1)*fq (l.map (· + 1))))%p;rw[Nat.mul_mod,Nat.mod_mod,pj p a l,<- Nat.mul_mod,Pe];congr 1
  ac_rfl
theorem oP{p:Nat}:∀{l:List Nat},(∀x∈l,Nat.Coprime x p)->Nat.Coprime (fq l) p
 |[],_=>Nat.coprime_one_left p
 |x::l,h=>Nat.Coprime.mul_left (h x (by simp)) (oP λy O=>h y (by simp[O]))
theorem Eg{p a:Nat}(h2:2<=p)(cop:∀f,0<f->f<p->Nat.Coprime f p)(a0:0<a)(a1:a<p):a^(p-1)%p=1:=by
 have ca:=cop a a0 a1;have nz:∀i,i<p-1->0<(i+1)*a%p:=λi hi=>by
  rcases Nat.eq_zero_or_pos ((i+1)*a%p) with z|z
  ·exfalso
   have d:p ∣ (i+1)*a:=Nat.dvd_of_mod_eq_zero z;have O:=(Nat.Coprime.symm ca).dvd_of_dvd_mul_right d;have:=Nd () O
   lia
  ·rwa[z]
 have inj:∀i j,i<j->j<p-1->(i+1)*a%p≠(j+1)*a%p:=λi j U Z e=>by
  have d:p ∣ (j+1)*a-(i+1)*a:=Nat.dvd_of_mod_eq_zero (Nat.sub_mod_eq_zero_of_mod_eq e.symm);rw[<- Nat.sub_mul] at d;have O:=(Nat.Coprime.symm ca).dvd_of_dvd_mul_right d;have:=Nd () O
  lia
 have nd:((List.range (p-1)).map λi=>(i+1)*a%p-1).Nodup:=by
  rw[List.Nodup,List.pairwise_map,List.pairwise_iff_getElem];intro i j hi Z U;rw[OA] at hi Z;rw[getElem_range,getElem_range];have:=inj i j U Z;have:=nz i hi;have:=nz j Z;lia
 have pm:=wZ (n:=p-1) nd (λx hx=>by
  let#[i,hi,1]:=MO.mp hx;have:=nz i (M_.mp hi);have:=Nat.mod_lt ((i+1)*a) (show 0<p by lia)
  lia) (by rw[z_,OA])
 have e1:=tT (pm.map (· + 1));rw[Oo] at e1;have e2:(List.range (p-1)).map ((· + 1) ∘ λi=>(i+1)*a%p-1)=(List.range (p-1)).map λi=>(i+1)*a%p:=
  map_congr_left λi hi=>by
   have:=nz i (M_.mp hi);show(i+1)*a%p-1+1=_;lia
 rw[e2] at e1;have e3:=pj p a (List.range (p-1));rw[e1,OA] at e3;have cp:Nat.Coprime (fq ((List.range (p-1)).map (· + 1))) p:=oP λx hx=>by
  let#[i,hi,1]:=MO.mp hx;have:=M_.mp hi;rwa[cop (i+1) () ()]
 generalize fq ((List.range (p-1)).map (· + 1))=R at *;have ap:1<=a^(p-1):=Nat.pow_pos a0;have d:p ∣ a^(p-1)*R-R:=Nat.dvd_of_mod_eq_zero (Nat.sub_mod_eq_zero_of_mod_eq e3.symm);have d':p ∣ (a^(p-1)-1)*R:=by rw[Nat.sub_mul,Q9];rwa[d]
 have O:=(Nat.Coprime.symm cp).dvd_of_dvd_mul_right d';let#[c,hc]:=O;rw[show a^(p-1)=1+p*c by lia,Nat.add_mul_mod_self_left]
 rwa[Nat.mod_eq_of_lt ()]
structure FL (R:Type) extends CS R where
 neg:R->R
 add_neg:∀x,add x (neg x)=zero
 div:R->R->R
 div_mul:∀x y,y≠zero->mul (div x y) y=x
namespace FL
variable {R:Type}(S:FL R)
theorem mul_ne{x y:R}(hx:x≠S.zero)(hy:y≠S.zero):S.mul x y≠S.zero:=λz=>hx (by
 have h:=S.div_mul S.one y hy;have:S.mul x (S.mul (S.div S.one y) y)=x:=by rw[h,S.mul_comm,S.one_mul]
 rw[<- this,S.mul_comm (S.div S.one y),<- S.mul_assoc,z,S.zero_mul])
theorem neg_add(x:R):S.add (S.neg x) x=S.zero:=by rw[S.add_comm,S.add_neg]
theorem neg_mul(x y:R):S.mul (S.neg x) y=S.neg (S.mul x y):=by
 have h:S.add (S.mul x y) (S.mul (S.neg x) y)=S.zero:=by rw[<- CS.add_mul,S.add_neg,S.zero_mul]
 have:=LD (S.add (S.neg (S.mul x y))) h;rw[<- S.add_assoc,S.neg_add,S.zero_add,CS.add_zero] at this;rwa[this]
abbrev Vf(R:Type):=Nat->R
def Sp:List (Vf R)->Vf R->Prop
 |[],v=>∀j,v j=S.zero
 |g::G,v=>∃(c:R) (w:Vf R),Sp G w/\∀j,v j=S.add (S.mul c (g j)) (w j)
theorem Sp.zero:∀G:List (Vf R),S.Sp G λ_=>S.zero
 |[]=>λ_=>rfl
 |g::G=>#[21,S.zero,λ_=>S.zero,Sp.zero G,λj=>by rw[S.zero_mul,S.zero_add]]
theorem Sp.add:∀{G:List (Vf R)} {v w:Vf R},S.Sp G v->S.Sp G w->S.Sp G λj=>S.add (v j) (w j)
 |[],v,w,h1,h2=>λj=>by dsimp only;rw[h1,h2,S.zero_add]
 |g::G,v,w,⟨c,u,hu,e1⟩,⟨d,t,ht,e2⟩=>#[S.add c d,_,Sp.add hu ht,λj=>by dsimp only;rw[e1,e2,CS.add_mul,CS.add4]]
theorem Sp.mul(a:R):∀{G:List (Vf R)} {v:Vf R},S.Sp G v->S.Sp G λj=>S.mul a (v j)
 |[],v,h=>λj=>by dsimp only;rw[h,CS.mul_zero]
 |g::G,v,⟨c,u,hu,e⟩=>#[S.mul a c,_,Sp.mul a hu,λj=>by dsimp only;rw[e,S.mul_add,S.mul_assoc]]
theorem Sp.eq{G:List (Vf R)}{v w:Vf R}(h:S.Sp G v)(e:∀j,w j=v j):S.Sp G w:=by rw[show w=v from funext e];rwa[h]
theorem Sp.mem:∀{G:List (Vf R)} {v:Vf R},v∈G->S.Sp G v
 |g::G,v,h=>by
  rcases HB.mp h with rfl|h
  ·rwa[21,S.one,_,Sp.zero S G,λj=>by rw[S.one_mul,CS.add_zero]]
  ·rwa[21,S.zero,v,Sp.mem h,λj=>by rw[S.zero_mul,S.zero_add]]
theorem Sp.trans{H:List (Vf R)}:∀{G:List (Vf R)} {v:Vf R},(∀g∈G,S.Sp H g)->S.Sp G v->S.Sp H v
 |[],v,_,h=>(Sp.zero S H).eq S h
 |g::G,v,hG,⟨c,u,hu,e⟩=>((Sp.mul S c (hG g (by simp))).add S (Sp.trans (λk hk=>hG k (by simp[hk])) hu)).eq S e
theorem Sp.off{p:Nat}:∀{G:List (Vf R)} {v:Vf R},(∀g∈G,g p=S.zero)->S.Sp G v->v p=S.zero
 |[],v,_,h=>h p
 |g::G,v,hG,⟨c,u,hu,e⟩=>by rw[e,hG g (by simp),CS.mul_zero,S.zero_add,Sp.off (λk hk=>hG k (by simp[hk])) hu]
def Tri:List (Nat×Vf R)->Prop
 |[]=>True
 |k::K=>k.2 k.1≠S.zero/\(∀q∈K,q.2 k.1=S.zero)/\Tri K
def red(g:Vf R)(p:Nat)(v:Vf R):Vf R:=λj=>S.add (v j) (S.mul (S.neg (S.div (v p) (g p))) (g j))
theorem red_at{g:Vf R}{p:Nat}(hg:g p≠S.zero)(v:Vf R):S.red g p v p=S.zero:=by
 show S.add (v p) (S.mul (S.neg (S.div (v p) (g p))) (g p))=S.zero;rw[S.neg_mul,S.div_mul _ _ hg,S.add_neg]
theorem red_back(g:Vf R)(p:Nat)(v:Vf R)(j:Nat):v j=S.add (S.mul (S.div (v p) (g p)) (g j)) (S.red g p v j):=by
 show v j=S.add _ (S.add (v j) (S.mul (S.neg _) (g j)));rw[S.neg_mul,S.add_comm (v j),<- S.add_assoc,S.add_neg,S.zero_add]
theorem Sp.split{g:Vf R}{p:Nat}:∀{A B:List (Vf R)} {w:Vf R},S.Sp (A++g::B) w->∃(c:R) (u:Vf R),S.Sp ((A++B).map (S.red g p)) u/\∀j,w j=S.add (S.mul c (g j)) (u j)
 |[],B,w,⟨c,u,hu,e⟩=>by
  have go:∀{B:List (Vf R)} {u:Vf R},S.Sp B u->∃(c:R) (t:Vf R),S.Sp (B.map (S.red g p)) t/\∀j,u j=S.add (S.mul c (g j)) (t j):=by
   intro B
   induction B with
   |nil=>intro u h;rwa[21,S.zero,u,h,λj=>by rw[S.zero_mul,S.zero_add]]
   |cons b B ih=>
    intro u h
    let#[21,a,t,ht,e]:=h
    let#[21,c,s,hs,e2]:=ih ht
    erw[21,S.add (S.mul a (S.div (b p) (g p))) c,_,#[21,a,s,hs,λj=>rfl],λj=>?_]
    rw[e,e2,S.red_back g p b j];rw[S.mul_add,<- S.mul_assoc,CS.add_mul,CS.add4]
  let#[21,d,t,ht,e2]:=go hu
  rwa[21,S.add c d,t,ht,λj=>by rw[e,e2,CS.add_mul,S.add_assoc]]
 |a::A,B,w,⟨c,u,hu,e⟩=>by
  let#[21,d,t,ht,e2]:=Sp.split (p:=p) hu
  erw[21,S.add (S.mul c (S.div (a p) (g p))) d,_,#[21,c,t,ht,λj=>rfl],λj=>?_]
  rw[e,e2,S.red_back g p a j];rw[S.mul_add,<- S.mul_assoc,CS.add_mul,CS.add4]
theorem tri_le:∀{K:List (Nat×Vf R)} {G:List (Vf R)},S.Tri K->(∀q∈K,S.Sp G q.2)->K.length<=G.length
 |[],G,_,_=>Hj _
 |k::K,G,⟨h1,h2,h3⟩,hG=>by
  have ex:∃g∈G,g k.1≠S.zero:=by
   apply Ma;intro z;rwa[h1 ((hG k (by simp)).off S λg O=>Ma λy=>z #[g,O,y])]
  let#[g,O,Z]:=ex;let#[A,B,1]:=List.append_of_mem O;have:=tri_le (K:=K) (G:=(A++B).map (S.red g k.1)) h3 λq hq=>by
   let#[21,c,u,hu,e]:=(hG q (by simp[hq])).split S (p:=k.1)
   have u0:u k.1=S.zero:=hu.off S λt ht=>by
    let#[v,_,1]:=MO.mp ht;rwa[S.red_at Z v]
   have U:=e k.1;rw[h2 q hq,u0,CS.add_zero] at U;have c0:c=S.zero:=Ma λz=>S.mul_ne z Z U.symm
   rwa[hu.eq S λj=>by rw[e,c0,S.zero_mul,S.zero_add]]
  rw[z_,x_] at this;rw[Mn,x_,Mn];lia
def clear(K:List (Nat×Vf R))(v:Vf R):Vf R:=K.foldl (λu k=>S.red k.2 k.1 u) v
theorem clear_sp:∀{K:List (Nat×Vf R)} {v:Vf R},∃w,S.Sp (K.map (·.2)) w/\∀j,v j=S.add (w j) (S.clear K v j)
 |[],v=>#[_,Sp.zero S [],λj=>(S.zero_add _).symm]
 |k::K,v=>by
  let#[w,hw,e]:=clear_sp (K:=K) (v:=S.red k.2 k.1 v);erw[_,#[21,S.div (v k.1) (k.2 k.1),w,hw,λj=>rfl],λj=>?_]
  rw[S.red_back k.2 k.1 v j,e j,S.add_assoc]
  rfl
theorem clear_off:∀{K:List (Nat×Vf R)} {v:Vf R} {p:Nat},(∀q∈K,q.2 p=S.zero)->v p=S.zero->S.clear K v p=S.zero
 |[],v,p,_,h=>h
 |k::K,v,p,hK,h=>clear_off (K:=K) (λq O=>hK q (by simp[O])) (by
   show S.add (v p) (S.mul _ (k.2 p))=S.zero;rw[hK k (by simp),CS.mul_zero,h,S.zero_add])
theorem clear_at:∀{K:List (Nat×Vf R)} {v:Vf R},S.Tri K->∀q∈K,S.clear K v q.1=S.zero
 |k::K,v,⟨h1,h2,h3⟩,q,O=>by
  rcases HB.mp O with rfl|O
  ·rwa[S.clear_off (K:=K) h2 (S.red_at h1 v)]
  ·rwa[clear_at h3 q O]
theorem Tri.snoc:∀{K:List (Nat×Vf R)} {p:Nat} {u:Vf R},S.Tri K->(∀q∈K,u q.1=S.zero)->u p≠S.zero->S.Tri (K++[(p,u)])
 |[],p,u,_,_,h=>#[h,λq O=>(nomatch O),trivial]
 |k::K,p,u,⟨h1,h2,h3⟩,hz,h=>#[h1,λq O=>by
   rcases Ht.mp O with z|z
   ·rwa[h2 q z]
   ·rw[D_.mp z];rwa[hz k (by simp)],Tri.snoc h3 (λq O=>hz q (by simp[O])) h]
theorem tri_zero:∀{K:List (Nat×Vf R)} {u:Vf R},S.Tri K->S.Sp (K.map (·.2)) u->(∀q∈K,u q.1=S.zero)->∀j,u j=S.zero
 |[],u,_,h,_=>h
 |k::K,u,⟨h1,h2,h3⟩,⟨c,w,hw,e⟩,hz=>by
  have w0:w k.1=S.zero:=hw.off S λt ht=>by
   let#[q,O,1]:=MO.mp ht;rwa[h2 q O]
  have Z:=e k.1;rw[hz k (by simp),w0,CS.add_zero] at Z
  have c0:c=S.zero:=Ma λz=>S.mul_ne z h1 Z.symm
  have U:∀j,u j=w j:=λj=>by rw[e,c0,S.zero_mul,S.zero_add]
  intro j;rw[U];rwa[tri_zero h3 hw (λq O=>by rw[<- U];rwa[hz q (by simp[O])]) j]
def Keeps(K:List (Nat×Vf R))(vs:List (Vf R)):Prop:=S.Tri K/\(∀v∈vs,S.Sp (K.map (·.2)) v)/\∀q∈K,S.Sp vs q.2
theorem keeps_le{K L:List (Nat×Vf R)}{vs ws G:List (Vf R)}(hL:S.Keeps L ws)(hG:∀w∈ws,S.Sp G w):L.length<=G.length:=
 S.tri_le hL.1 λq O=>(hL.2.2 q O).trans S hG
theorem keeps_same{K L:List (Nat×Vf R)}{vs ws:List (Vf R)}(hK:S.Keeps K vs)(hL:S.Keeps L ws)(h:∀w,w∈ws↔w∈vs):L.length=K.length:=by
 have a:=S.keeps_le (K:=K) (vs:=vs) hL λw hw=>hK.2.1 w ((h w).mp hw)
 have b:=S.keeps_le (K:=K) (vs:=vs) hK λw hw=>hL.2.1 w ((h w).mpr hw)
 rw[z_] at a b;lia
theorem Keeps.step{K:List (Nat×Vf R)}{vs:List (Vf R)}{v:Vf R}(h:S.Keeps K vs):(∀j,S.clear K v j=S.zero)/\S.Keeps K (vs++[v])\/∀p,S.clear K v p≠S.zero->S.Keeps (K++[(p,S.clear K v)]) (vs++[v]):=by
 let#[w,hw,e]:=S.clear_sp (K:=K) (v:=v)
 by_cases z:∀j,S.clear K v j=S.zero
 ·erw[.inl #[z,h.1,λu hu=>?_,λq U=>(h.2.2 q U).trans S λg O=>Sp.mem S (by simp[O])]]
  rcases Ht.mp hu with y|y
  ·rwa[h.2.1 u y]
  ·rw[D_.mp y];rwa[hw.eq S λj=>by rw[e,z,CS.add_zero]]
 ·erw[.inr λp hp=>#[Tri.snoc S h.1 (S.clear_at h.1) hp,λu hu=>?_,λq U=>?_]]
  ·rw[L8];have up:∀{t:Vf R},S.Sp (K.map (·.2)) t->S.Sp (K.map (·.2)++[S.clear K v]) t:=λht=>ht.trans S λg O=>Sp.mem S (by simp only[Ht];rwa[.inl O])
   rcases Ht.mp hu with y|y
   ·rwa[up (h.2.1 u y)]
   ·rw[D_.mp y];exact((up hw).add S (Sp.mem S (v:=S.clear K v) (by simp))).eq S e
  ·have Z:∀{t:Vf R},S.Sp vs t->S.Sp (vs++[v]) t:=λht=>ht.trans S λg O=>Sp.mem S (by simp[O])
   rcases Ht.mp U with y|y
   ·rwa[Z (h.2.2 q y)]
   ·rw[D_.mp y];have a1:S.Sp vs w:=hw.trans S λg O=>by
     let#[q,U,1]:=MO.mp O;rwa[h.2.2 q U]
    refine((Sp.mem S (G:=vs++[v]) (v:=v) (by simp)).add S ((Z a1).mul S (S.neg S.one))).eq S λj=>?_
    show S.clear K v j=S.add (v j) (S.mul (S.neg S.one) (w j));rw[e j,S.neg_mul,S.one_mul,S.add_comm (w j),S.add_assoc,S.add_neg,CS.add_zero]
end FL
def bkN(P a:Int):Int:=((a.toNat^(P.toNat-2)%P.toNat:Nat):Int)
def fY(P:Int)(x y:Int×Int):Int×Int:=if P=0 then nrm (x.1*y.2) (x.2*y.1) else((x.1*bkN P y.1)%P,1)
theorem DB{P:Int}(hP:Gc P)(h0:P≠0)(a0:0<a)(a1:a<P):bkN P a*a%P=1:=by
 rcases hP with z|⟨p2,U,Z⟩
 ·rwa[absurd z h0]
 let#[p,1]:=MT (show 0<=P by lia)
 let#[n,1]:=MT (show 0<=a by lia)
 have O:∀f,0<f->f<p->Nat.Coprime f p:=λf h1 h2=>by
  have:=yb p2 U Z (f:=(f:Int)) () ()
  rwa[Nat.Coprime.symm (by simpa using this)]
 have f:=Eg (p:=p) (a:=n) () O () ()
 unfold bkN;rw[Mz,Mz,<- MQ,<- Int.natCast_emod];have e:n^(p-2)%p*n%p=1:=by
  rw[Nat.mod_mul_mod,<- Pe,show(p-2).succ=p-1 by lia]
  rwa[f]
 rw[e]
 rfl
theorem fN{P:Int}(hP:Gc P)(hx:OkN P x)(hy:OkN P y)(h:y≠(0,1)):OkN P (fY P x y):=by
 unfold fY
 split
 ·rename_i h0;subst h0;have dx:=hx.den;have O:y.1≠0:=λz=>h (by
   rcases hy with⟨_,h1,h2⟩|⟨w,_⟩
   ·rw[z,Int.gcd_zero_left] at h2;rwa[N2 z (by show y.2=1;lia)]
   ·rwa[absurd rfl w])
  rwa[i9 (MA () O)]
 ·rwa[js hP.b.1 ‹_›]
theorem ql{P:Int}(hy:OkN P y)(h:y≠(0,1)):y.1≠0:=λz=>h (by
 rcases hy with⟨_,h1,h2⟩|⟨_,_,_,h3⟩
 ·rw[z,Int.gcd_zero_left] at h2;rwa[N2 z (by show y.2=1;lia)]
 ·rwa[N2 z h3])
theorem AC{P:Int}(hP:Gc P)(hx:OkN P x)(hy:OkN P y)(h:y≠(0,1)):bV P (fY P x y) y=x:=by
 have O:=ql hy h;have od:=fN hP hx hy h
 by_cases h0:P=0
 ·rw[cO od hy];refine(bI (ce (aF od) (aF hy)) (aF hx) ?_).trans (ck hx);have e:fY P x y=nrm (x.1*y.2) (x.2*y.1):=by unfold fY;rw[C_ h0]
  have q:=kh (x.1*y.2) (x.2*y.1) (MA (by have:=hx.den;lia) O)
  rw[<- e] at q;generalize fY P x y=u at *;dsimp only
  grind
 ·have U:=hP.b;unfold fY bV;rw[w_ h0,w_ h0]
  rcases hx with⟨z,_⟩|⟨_,x1,x2,x3⟩
  ·rwa[absurd z h0]
  rcases hy with⟨z,_⟩|⟨_,y1,y2,y3⟩
  ·rwa[absurd z h0]
  have b:=DB hP h0 (a:=y.1) () y2
  erw[N2 ?_ x3.symm];show x.1*bkN P y.1%P*y.1%P=x.1;rw[Int.mul_emod,Int.emod_emod_of_dvd _ (Int.dvd_refl P),<- Int.mul_emod,Nv,Int.mul_emod,b,O9,Int.emod_emod_of_dvd _ (Int.dvd_refl P),Op x1 x2]
theorem yf{P:Int}(hP:Gc P)(hx:OkN P x):bT P x (ij P x)=(0,1):=by
 have O:=hP.b;have Z:=hJ O.1 hx;have U:OkN P (0,1):=dG O.1 O.2.2
 by_cases h0:P=0
 ·rw[ft hx Z];refine(bI (dA (aF hx) (aF Z)) (aF U) ?_).trans (ck U);unfold ij;rw[C_ h0];dsimp only
  grind
 ·unfold bT ij;rw[w_ h0,w_ h0];erw[N2 ?_ rfl];show(x.1+(0-x.1)%P)%P=0;rw[Int.add_emod,Int.emod_emod_of_dvd _ (Int.dvd_refl P),<- Int.add_emod];rw[show x.1+(0-x.1)=0 by lia]
  rwa[Int.zero_emod P]
open Classical in
noncomputable def nbF {P:Int} (hP:Gc P):FL (Nb P) where
 toCS:=nb hP
 neg x:=#[ij P x.1,hJ hP.b.1 x.2]
 add_neg x:=Mi (yf hP x.2)
 div x y:=if h:y.1≠(0,1) then#[fY P x.1 y.1,fN hP x.2 y.2 h] else(nb hP).zero
 div_mul x y h:=by
  have h':y.1≠(0,1):=λz=>h (Mi z)
  rw[dif_pos h'];rwa[Mi (AC hP x.2 y.2 h')]
section
variable {P:Int}(hP:Gc P)
def io(z:Int):Nb P:=#[val P (z,1),EH hP.b.1 Int.one_pos]
theorem bM(z:Int):Raw P (z,1):=#[Int.one_pos,λ_=>rfl]
theorem uq(a b:Int):io hP (a+b)=(nb hP).add (io hP a) (io hP b):=Mi (by
 show val P (a+b,1)=bT P (val P (a,1)) (val P (b,1));rw[jq (bM a) (bM b)];rwa[bI (bM _) (dA (bM a) (bM b)) (by dsimp only;grind)])
theorem cC(a b:Int):io hP (a*b)=(nb hP).mul (io hP a) (io hP b):=Mi (by
 show val P (a*b,1)=bV P (val P (a,1)) (val P (b,1));rw[fO (bM a) (bM b)];rwa[bI (bM _) (ce (bM a) (bM b)) (by dsimp only;grind)])
theorem lB:io hP 0=(nb hP).zero:=Mi (by
 show val P (0,1)=(0,1);rwa[ck (dG hP.b.1 hP.b.2.2)])
theorem yE:io hP 1=(nb hP).one:=Mi (by
 show val P (1,1)=(1,1);rwa[ck (zE hP)])
theorem za(a:Int):io hP (-a)=(nbF hP).neg (io hP a):=by
 have h:(nb hP).add (io hP a) (io hP (-a))=(nb hP).zero:=by rw[<- uq,Int.add_right_neg,lB]
 have:=LD ((nb hP).add ((nbF hP).neg (io hP a))) h;rw[<- (nb hP).add_assoc] at this;have e:(nb hP).add ((nbF hP).neg (io hP a)) (io hP a)=(nb hP).zero:=(nbF hP).neg_add _;rw[e,(nb hP).zero_add,CS.add_zero] at this;rwa[this]
theorem Do(h0:P≠0)(a:Int):io hP (a%P)=io hP a:=Mi (by
 show val P (a%P,1)=val P (a,1);unfold val;rw[w_ h0,w_ h0];erw[N2 ?_ rfl];show a%P%P=a%P;rwa[Int.emod_emod_of_dvd a (Int.dvd_refl P)])
theorem jK(h0:P=0)(ha:a≠0):io hP a≠(nb hP).zero:=λz=>ha (by
 have e:val P (a,1)=(0,1):=LD Subtype.val z;unfold val at e;rw[C_ h0,(fm a 1 Int.one_pos).mpr (by rw[Int.gcd_one])] at e
 rwa[LD Prod.fst e])
theorem zA(h0:P≠0)(h1:0<=a)(h2:a<P)(ha:a≠0):io hP a≠(nb hP).zero:=λz=>ha (by
 have e:val P (a,1)=(0,1):=LD Subtype.val z;unfold val at e;rw[w_ h0] at e;have:=LD Prod.fst e;dsimp only at this;rwa [Op h1 h2] at this)
theorem Bz(x:Nb P):(nb hP).mul (io hP x.1.2) x=io hP x.1.1:=Mi (by
 show bV P (val P (x.1.2,1)) x.1=val P (x.1.1,1);have:=fO (P:=P) (bM x.1.2) (aF x.2);rw[ck x.2] at this;rw[this];rwa[bI (ce (bM _) (aF x.2)) (bM _) (by dsimp only;grind)])
end
def Rsi(Ws:List Vz)(i:Nat):List Vz:=(Ws.take i).reverse
def csi(ps:List Nat)(i:Nat):List Nat:=(ps.take i).reverse
def Dt(Ws:List Vz)(ps:List Nat)(i:Nat):Int:=det (Rsi Ws i) (csi ps i)
def Lf(Ws:List Vz)(ps:List Nat)(V:Vz)(i j:Nat):Int:=det (V::Rsi Ws i) (j::csi ps i)
theorem jv{i:Nat}(h:Ws[i]? = some W):Rsi Ws (i+1)=W::Rsi Ws i:=by
 unfold Rsi;rw[Mw,h,List.reverse_append]
 rfl
theorem jJ{i p:Nat}(h:ps[i]? = some p):csi ps (i+1)=p::csi ps i:=by
 unfold csi;rw[Mw,h,List.reverse_append]
 rfl
theorem Comb.scale{d:Int}{v:Vz}(a:Int)(h:Comb rs d v u):Comb rs (a*d) v λj=>a*u j:=by
 induction h with
 |base=>
  have:=Comb.base (rs:=rs) (d:=a*d) (v:=v);rwa [show(λj=>a*d*v j)=λj=>a*(d*v j) from funext λj=>by rw[Nv]] at this
 |@add u b r _ hr ih=>
  have:=ih.add (a:=a*b) hr;rwa [show(λj=>a*u j+a*b*r j)=λj=>a*(u j+b*r j) from funext λj=>by grind] at this
theorem Comb.more{d b:Int}{v w t:Vz}(h:Comb rs d v u)(ht:Comb rs e w t):Comb (w::rs) d v λj=>u j+b*t j:=by
 induction ht with
 |base=>
  have O:Comb (w::rs) d v u:=by
   induction h with
   |base=>rwa[.base]
   |add _ hr ih=>rwa[.add ih (by simp[hr])]
  have:=O.add (a:=b*e) (r:=w) (by simp)
  rwa [show(λj=>u j+b*e*w j)=λj=>u j+b*(e*w j) from funext λj=>by rw[Nv]] at this
 |@add t a r _ hr ih=>
  have:=ih.add (a:=b*a) (r:=r) (by simp[hr])
  rwa [show(λj=>u j+b*t j+b*a*r j)=λj=>u j+b*(t j+a*r j) from funext λj=>by grind] at this
section
theorem kX(hl:ps.length=Ws.length)(hD:∀i,i<=Ws.length->Dt Ws ps i≠0):∀i,i<=Ws.length->∀V,∃(u:Vz) (d:Int),d≠0/\Comb (Rsi Ws i) d V u/\∀c∈csi ps i,u c=0
 |0,_,V=>#[22,λj=>1*V j,(1),#[],.base,λc O=>by simp[csi] at O]
 |i+1,hi,V=>by
  let#[22,u,d,d0,cu,zu]:=kX hl hD i () V
  have U:Ws[i]? = some Ws[i]:=ge ()
  have ep:ps[i]? = some ps[i]:=ge ()
  let#[22,t,e,e0,ct,zt]:=kX hl hD i () Ws[i]
  have Z:t ps[i]≠0:=λz=>by
   have a:=eE ct (ps[i]::csi ps i);rw[jp zt,z,Int.zero_mul] at a;have b:=hD (i+1) hi;unfold Dt at b;rw[jv U,jJ ep] at b;rwa[MA e0 b a.symm]
  rw[jv U,jJ ep];erw[22,_,t ps[i]*d,MA Z d0,(cu.scale (t ps[i])).more (b:=- u ps[i]) ct,λc O=>?_]
  rcases HB.mp O with rfl|O
  ·grind
  ·rw[zu c O,zt c O];simp
theorem u9(hl:ps.length=Ws.length)(hD:∀i,i<=Ws.length->Dt Ws ps i≠0){i p:Nat}(eW:Ws[i]? = some W)(ep:ps[i]? = some p)(V:Vz)(j:Nat):
  Dt Ws ps (i+1)*Lf Ws ps V i j-Lf Ws ps V i p*Lf Ws ps W i j=Dt Ws ps i*Lf Ws ps V (i+1) j:=by
 have hi:i<Ws.length:=(y_.mp eW).1
 let#[22,u,d,d0,cu,zu]:=kX hl hD i () V
 let#[22,t,e,e0,ct,zt]:=kX hl hD i () W
 have s:=xE cu ct zu zt d0 e0 j p;unfold Dt Lf;rw[jv eW,jJ ep];rwa[s.symm]
theorem gU{i p:Nat}(eW:Ws[i]? = some W)(ep:ps[i]? = some p):Lf Ws ps W i p=Dt Ws ps (i+1):=by
 unfold Dt Lf;rw[jv eW,jJ ep]
theorem uO(V:Vz)(j:Nat):Lf Ws ps V 0 j=V j:=by
 show det [V] [j]=V j;show V j*1-0=V j;lia
theorem Dt_zero:Dt Ws ps 0=1:=rfl
theorem gG(X:Nat):∀n,iw (List.replicate n X)=(6*X)^n
 |0=>rfl
 |n+1=>by
  rw[List.replicate_succ];show 6*X*iw (List.replicate n X)=_;rw[gG X n,Pe,Pf]
theorem fK{R:α->β->Prop}{b:β}:∀{xs:List α},(∀x∈xs,R x b)->Paired R xs (List.replicate xs.length b)
 |[],_=>.nil
 |x::xs,h=>.cons (h x (by simp)) (fK λy O=>h y (by simp[O]))
theorem vG{i:Nat}(h:W∈Rsi Ws i):W∈Ws:=mem_of_mem_take (List.mem_reverse.mp h)
theorem uU(i:Nat)(hi:i<=Ws.length):(Rsi Ws i).length=i:=by
 unfold Rsi;rw[LO,MY];lia
theorem zd{X i:Nat}(hl:ps.length=Ws.length)(hi:i<=Ws.length)(h6:i<=6)(hX:∀W∈Ws,∀c,(W c).natAbs<=X):(Dt Ws ps i).natAbs<=(6*X)^i:=by
 have:=sW (cs:=csi ps i) (fK (b:=X) λ(W:Vz) (O:W∈Rsi Ws i)=>hX W (vG O)) (by unfold csi;rw[LO,MY];lia)
 rwa [gG,uU i hi] at this
theorem Bb{X Y i:Nat}{V:Vz}(hl:ps.length=Ws.length)(hi:i<=Ws.length)(h6:i<6)(hX:∀W∈Ws,∀c,(W c).natAbs<=X)(hV:∀c,(V c).natAbs<=Y)(j:Nat):(Lf Ws ps V i j).natAbs<=6*Y*(6*X)^i:=by
 have:=sW (cs:=j::csi ps i) (.cons hV (fK (b:=X) λ(W:Vz) (O:W∈Rsi Ws i)=>hX W (vG O))) (by unfold csi;rw[Mn,LO,MY];lia)
 show _<=_;have e:iw (Y::List.replicate (Rsi Ws i).length X)=6*Y*(6*X)^i:=by
  show 6*Y*iw _=_;rw[gG,uU i hi]
 rw[e] at this;rwa[this]
end
def vz(l:List Int):Vz:=λj=>l.getD j 0
theorem fh(h:j<l.length):vz l j=l[j]:=by
 unfold vz;simp[List.getD,h]
theorem dS(h:l.length<=j):vz l j=0:=by
 unfold vz;simp[List.getD,getElem?_eq_none h]
section
variable {P:Int}(hP:Gc P)
abbrev Vn(P:Int):=Nat->Nb P
def Prp(f:Vz)(u:Vn P):Prop:=∃c:Nb P,c≠(nb hP).zero/\∀j,io hP (f j)=(nb hP).mul c (u j)
theorem AV(a b c d:Int):io hP (a*b-c*d)=(nb hP).add ((nb hP).mul (io hP a) (io hP b)) ((nbF hP).neg ((nb hP).mul (io hP c) (io hP d))):=by
 rw[show a*b-c*d=a*b + -(c*d) by lia,uq,za,cC,cC]
theorem rH{f g f':Vz}{u k:Vn P}{p:Nat}{q:Int}(hf:Prp hP f u)(hg:Prp hP g k)(kp:k p≠(nb hP).zero)(hq:io hP q≠(nb hP).zero)(h:∀j,q*f' j=g p*f j-f p*g j\/(P≠0/\q=1/\f' j=(g p*f j-f p*g j)%P)):Prp hP f' ((nbF hP).red k p u):=by
 let#[c,c0,U]:=hf;let#[d,d0,Z]:=hg;have mn:∀{x y:Nb P},x≠(nb hP).zero->y≠(nb hP).zero->(nb hP).mul x y≠(nb hP).zero:=λh1 h2=>(nbF hP).mul_ne h1 h2
 have key:∀j,(nb hP).mul (io hP q) (io hP (f' j))=(nb hP).mul ((nb hP).mul (nb hP |>.mul c d) (k p)) ((nbF hP).red k p u j):=λj=>by
  have e1:(nb hP).mul (io hP q) (io hP (f' j))=io hP (g p*f j-f p*g j):=by
   rcases h j with e|⟨h0,h1,e⟩
   ·rw[<- cC,e]
   ·rw[h1,yE,(nb hP).one_mul,e,Do hP h0]
  rw[e1,AV,U,U,Z,Z];show(nb hP).add _ ((nbF hP).neg _)=(nb hP).mul _ ((nb hP).add (u j) ((nb hP).mul ((nbF hP).neg ((nbF hP).div (u p) (k p))) (k j)));rw[(nb hP).mul_add];have nm:∀x y:Nb P,(nb hP).mul ((nbF hP).neg x) y=(nbF hP).neg ((nb hP).mul x y):=(nbF hP).neg_mul
  have dm:(nb hP).mul ((nbF hP).div (u p) (k p)) (k p)=u p:=(nbF hP).div_mul _ _ kp;have a1:(nb hP).mul ((nb hP).mul d (k p)) ((nb hP).mul c (u j))=(nb hP).mul ((nb hP).mul ((nb hP).mul c d) (k p)) (u j):=by
   rw[(nb hP).mul_comm c d,(nb hP).mul_assoc d c,(nb hP).mul_assoc d,(nb hP).mul_assoc d,(nb hP).mul_comm c (k p),(nb hP).mul_assoc (k p) c]
  have a2:(nb hP).mul ((nb hP).mul ((nb hP).mul c d) (k p)) ((nb hP).mul ((nbF hP).div (u p) (k p)) (k j))=(nb hP).mul ((nb hP).mul c (u p)) ((nb hP).mul d (k j)):=by
   rw[(nb hP).mul_assoc,<- (nb hP).mul_assoc (k p),(nb hP).mul_comm (k p),dm,(nb hP).mul_assoc,(nb hP).mul_assoc,<- (nb hP).mul_assoc d,(nb hP).mul_comm d (u p),(nb hP).mul_assoc]
  rw[a1,nm,(nb hP).mul_comm _ ((nbF hP).neg _),nm,(nb hP).mul_comm _ ((nb hP).mul ((nb hP).mul c d) (k p)),a2]
 erw[(nbF hP).div ((nb hP).mul ((nb hP).mul c d) (k p)) (io hP q),λz=>?_,λj=>?_]
 ·have e:=(nbF hP).div_mul ((nb hP).mul ((nb hP).mul c d) (k p)) (io hP q) hq;rw[z] at e;have e':(nb hP).zero=(nb hP).mul ((nb hP).mul c d) (k p):=by rw[<- e];exact((nb hP).zero_mul _).symm
  rwa[mn (mn c0 d0) kp e'.symm]
 ·have e:(nb hP).mul ((nbF hP).div ((nb hP).mul ((nb hP).mul c d) (k p)) (io hP q)) (io hP q)=(nb hP).mul ((nb hP).mul c d) (k p):=(nbF hP).div_mul _ _ hq;have kj:=key j;generalize (nbF hP).div ((nb hP).mul ((nb hP).mul c d) (k p)) (io hP q)=t at *;have f1:(nb hP).mul (io hP q) (io hP (f' j))=(nb hP).mul (io hP q) ((nb hP).mul t ((nbF hP).red k p u j)):=by
   rw[kj,<- (nb hP).mul_assoc,(nb hP).mul_comm (io hP q) t,e]
  have O:∀x y:Nb P,(nb hP).mul (io hP q) x=(nb hP).mul (io hP q) y->x=y:=λx y z=>by
   have i1:=(nbF hP).div_mul (nb hP).one (io hP q) hq;have i1:(nb hP).mul ((nbF hP).div (nb hP).one (io hP q)) (io hP q)=(nb hP).one:=i1;rw[<- (nb hP).one_mul x,<- (nb hP).one_mul y,<- i1,(nb hP).mul_assoc,(nb hP).mul_assoc,z]
  rwa[O _ _ f1]
theorem jA{f:Vz}{u:Vn P}(h:Prp hP f u)(hj:P≠0->0<=f j/\f j<P):f j=0↔u j=(nb hP).zero:=by
 let#[c,U,e]:=h;have O:=e j
 constructor
 ·intro z;rw[z,lB] at O;rwa[Ma λy=>(nbF hP).mul_ne U y O.symm]
 ·intro z;rw[z,CS.mul_zero] at O
  by_cases h0:P=0
  ·rwa[Ma λy=>jK hP h0 y O]
  ·rwa[Ma λy=>zA hP h0 (hj h0).1 (hj h0).2 y O]
structure KI (n:Nat) (Ws:List Vz) (ps:List Nat) (K:List (Nat×Vn P)) (ls:List (List Int)):Prop where
 l1:ps.length=Ws.length
 l2:K.length=Ws.length
 l3:ls.length=Ws.length
 D:P=0->∀i,i<=Ws.length->Dt Ws ps i≠0
 at_:∀(i:Nat) (W:Vz) (p:Nat) (k:Nat×Vn P) (l:List Int),Ws[i]? = some W->ps[i]? = some p->K[i]? = some k->ls[i]? = some l->
  k.1=p/\p<n/\l.length=n/\(P≠0->∀x∈l,0<=x/\x<P)/\(P=0->∀j,j<n->vz l j=Lf Ws ps W i j)/\Prp hP (vz l) k.2/\k.2 p≠(nb hP).zero
structure LI (n:Nat) (Ws:List Vz) (ps:List Nat) (K:List (Nat×Vn P)) (V:Vz) (v:Vn P) (i:Nat) (l:List Int):Prop where
 len:l.length=n
 rg:P≠0->∀x∈l,0<=x/\x<P
 lf:P=0->∀j,j<n->vz l j=Lf Ws ps V i j
 pr:Prp hP (vz l) ((nbF hP).clear (K.take i) v)
def clr(P:Int)(p:Nat)(l o:List Int)(d:Int):List Int:=(List.zipWith (λa b=>vz o p*a-vz l p*b) l o).map λz=>if P=0 then z.fdiv d else z%P
theorem iD{K:List (Nat×Vn P)}{i:Nat}{k:Nat×Vn P}(h:K[i]? = some k)(v:Vn P):(nbF hP).clear (K.take (i+1)) v=(nbF hP).red k.2 k.1 ((nbF hP).clear (K.take i) v):=by
 unfold FL.clear;rw[Mw,h,foldl_append]
 rfl
theorem uw(hl:∀x∈l,0<=x/\x<P)(hP0:0<P)(j:Nat):0<=vz l j/\vz l j<P:=by
 by_cases h:j<l.length
 ·rw[fh h];rwa[hl _ (NX h)]
 ·rw[dS ()]
  rwa[Int.le_refl _,hP0]
theorem LI.step{K:List (Nat×Vn P)}{V:Vz}{v:Vn P}{i p:Nat}{o:List Int}(hK:KI hP n Ws ps K ls)(h:LI hP n Ws ps K V v i l)(ho:ls[i]? = some o)(hp:ps[i]? = some p):
  LI hP n Ws ps K V v (i+1) (clr P p l o (Dt Ws ps i))/\vz o p≠0/\(P=0->vz o p=Dt Ws ps (i+1)):=by
 have hB:=hP.b;have hi:i<Ws.length:=by rw[<- hK.l3];exact(y_.mp ho).1
 have U:Ws[i]? = some Ws[i]:=ge hi;have Z:i<K.length:=by rw[hK.l2];rwa[hi]
 have eK:K[i]? = some K[i]:=ge Z
 let#[06,k1,k2,k3,k4,k5,k6,k7]:=hK.at_ i _ _ _ _ U hp eK ho
 have lz:(List.zipWith (λa b=>vz o p*a-vz l p*b) l o).length=n:=by rw[length_zipWith,h.len,k3,Nat.min_self]
 have lc:(clr P p l o (Dt Ws ps i)).length=n:=by unfold clr;rw[z_,lz]
 have at_:∀j,j<n->vz (clr P p l o (Dt Ws ps i)) j=if P=0 then(vz o p*vz l j-vz l p*vz o j).fdiv (Dt Ws ps i) else(vz o p*vz l j-vz l p*vz o j)%P:=λj O=>by
  rw[fh (l:=clr P p l o (Dt Ws ps i)) (j:=j) (by omega),fh (l:=l) (j:=j) (by rw[h.len];rwa[O]),fh (l:=o) (j:=j) (by omega)]
  unfold clr;rw[getElem_map,List.getElem_zipWith]
 have ex:P=0->∀j,j<n->vz o p*vz l j-vz l p*vz o j=Dt Ws ps i*Lf Ws ps V (i+1) j:=λh0 j O=>by
  rw[k5 h0 p k2,k5 h0 j O,h.lf h0 j O,h.lf h0 p k2,gU U hp];rwa[u9 hK.l1 (hK.D h0) U hp V j]
 have op:vz o p≠0:=λz=>k7 ((jA hP k6 λh0=>uw (k4 h0) () p).mp z)
 erw[#[lc,λh0 x hx=>?_,λh0 j O=>?_,?_],op,λh0=>by rw[k5 h0 p k2,gU U hp]]
 ·unfold clr at hx;let#[z,_,1]:=MO.mp hx;rw[w_ h0];rwa[L5 _ h0,LC _ ()]
 ·rw[at_ j O,C_ h0,ex h0 j O];rwa[LW _ (hK.D h0 i ())]
 ·rw[iD hP eK];subst k1
  by_cases h0:P=0
  ·erw[rH hP (q:=Dt Ws ps i) h.pr k6 k7 (jK hP h0 (hK.D h0 i ())) λj=>.inl ?_]
   by_cases O:j<n
   ·rw[at_ j O,C_ h0,ex h0 j O,LW _ (hK.D h0 i ())]
   ·rw[dS (l:=clr P _ l o _) (j:=j) (),dS (l:=l) (j:=j) (by have:=h.len;lia),dS (l:=o) (j:=j) ()]
    simp
  ·have i1:io hP 1≠(nb hP).zero:=λz=>by
    rw[yE] at z;have:=LD (λy:Nb P=>y.1.1) z
    rwa[absurd this (by show ¬(1:Int)=0;decide)]
   erw[rH hP (q:=1) h.pr k6 k7 i1 λj=>?_]
   by_cases O:j<n
   ·rwa[.inr #[h0,1,by rw[at_ j O,w_ h0]]]
   ·left
    rw[dS (l:=clr P _ l o _) (j:=j) (),dS (l:=l) (j:=j) (by have:=h.len;lia),dS (l:=o) (j:=j) ()]
    simp
theorem KI.snoc{K:List (Nat×Vn P)}{V:Vz}{v:Vn P}{p:Nat}(hK:KI hP n Ws ps K ls)(h:LI hP n Ws ps K V v Ws.length l)(hp:p<n)(z:vz l p≠0):
  KI hP n (Ws++[V]) (ps++[p]) (K++[(p,(nbF hP).clear K v)]) (ls++[l]):=by
 have l1:=hK.l1;have l2:=hK.l2;have l3:=hK.l3;have tk:∀i,i<=Ws.length->Rsi (Ws++[V]) i=Rsi Ws i/\csi (ps++[p]) i=csi ps i:=λi hi=>by
  unfold Rsi csi;rw[take_append_of_le_length hi,take_append_of_le_length ()]
  rwa[1,1]
 have kt:K.take Ws.length=K:=by rw[<- l2];rwa[MZ ..]
 have e1:(Ws++[V])[Ws.length]? = some V:=by simp
 have e2:(ps++[p])[Ws.length]? = some p:=by rw[<- l1];simp
 erw[by simp[l1],by simp[l2],by simp[l3],λh0 i hi=>?_,λi W q k o U a2 Z a4=>?_]
 ·rw[x_,He] at hi
  by_cases O:i<=Ws.length
  ·unfold Dt;rw[(tk i O).1,(tk i O).2];rwa[hK.D h0 i O]
  ·obtain rfl:i=Ws.length+1:=()
   rw[<- gU e1 e2];unfold Lf;rw[(tk _ (e_ _)).1,(tk _ (e_ _)).2];have:=h.lf h0 p hp;unfold Lf at this;rw[<- this];rwa[z]
 ·by_cases hi:i<Ws.length
  ·rw[Mh hi] at U;rw[Mh ()] at a2
   rw[Mh ()] at Z
   rw[Mh ()] at a4
   let#[06,k1,k2,k3,k4,k5,k6,k7]:=hK.at_ i W q k o U a2 Z a4
   erw[k1,k2,k3,k4,λh0 j hj=>?_,k6,k7]
   rw[k5 h0 j hj];unfold Lf;rw[(tk i ()).1,(tk i ()).2]
  ·have O:i=Ws.length:=by
    have:=(y_.mp U).1;rw[x_,He] at this;lia
   subst O;rw[e1] at U;rw[e2] at a2;cases U;cases a2;rw[<- l2] at Z;rw[<- l3] at a4;simp only[OC,NO] at Z a4;subst Z a4;erw[1,hp,h.len,h.rg,λh0 j hj=>?_,?_,λy=>?_]
   ·rw[h.lf h0 j hj];unfold Lf;rw[(tk _ (e_ _)).1,(tk _ (e_ _)).2]
   ·have:=h.pr;rwa [kt] at this
   ·have pr:=h.pr;rw[kt] at pr;rwa[z ((jA hP pr λh0=>uw (h.rg h0) (by have:=hP.b;lia) p).mpr y)]
theorem KI.nil(n:Nat):KI hP n [] [] [] []:=#[1,1,1,λ_ i hi=>by
 obtain rfl:i=0:=by simpa using hi
 rwa[Int.one_ne_zero],λi W p k l a=>by simp at a]
end
section
variable {P:Int}(hP:Gc P)
instance:Std.Associative (nb hP).mul:=⟨(nb hP).mul_assoc⟩
instance:Std.Commutative (nb hP).mul:=⟨(nb hP).mul_comm⟩
theorem D7{q:Int}(hq:io hP q≠(nb hP).zero){x y:Nb P}(z:(nb hP).mul (io hP q) x=(nb hP).mul (io hP q) y):x=y:=by
 have i1:(nb hP).mul ((nbF hP).div (nb hP).one (io hP q)) (io hP q)=(nb hP).one:=(nbF hP).div_mul _ _ hq;rw[<- (nb hP).one_mul x,<- (nb hP).one_mul y,<- i1,(nb hP).mul_assoc,(nb hP).mul_assoc,z]
structure LK (n X0 L0:Nat) (Ws:List Vz) (ps:List Nat) (es:List Int) (K:List (Nat×Vn P)):Prop where
 l1:ps.length=Ws.length
 l2:K.length=Ws.length
 l3:es.length=Ws.length
 D:∀i,i<=Ws.length->Dt Ws ps i≠0
 X:∀W∈Ws,∀c,(W c).natAbs<=X0
 L:∀e∈es,e≠0/\e.natAbs<=L0
 at_:∀(i:Nat) (W:Vz) (p:Nat) (e:Int) (k:Nat×Vn P),Ws[i]? = some W->ps[i]? = some p->es[i]? = some e->K[i]? = some k->
  k.1=p/\p<n/\(∀j,j<n->io hP (Lf Ws ps W i j)=(nb hP).mul (io hP (Dt Ws ps i*e)) (k.2 j))/\k.2 p≠(nb hP).zero
def LL(n:Nat)(Ws:List Vz)(ps:List Nat)(K:List (Nat×Vn P))(V:Vz)(e:Int)(v:Vn P)(i:Nat):Prop:=∀j,j<n->io hP (Lf Ws ps V i j)=(nb hP).mul (io hP (Dt Ws ps i*e)) ((nbF hP).clear (K.take i) v j)
theorem LK.off{K:List (Nat×Vn P)}(h0:P=0)(hK:LK hP n X0 L0 Ws ps es K){V:Vz}{f:Int}{v:Vn P}{i p:Nat}{k:Nat×Vn P}(h:LL hP n Ws ps K V e v i)(eW:Ws[i]? = some W)(ep:ps[i]? = some p)(ee:es[i]? = some f)(eK:K[i]? = some k)(j:Nat)(hj:j<n):
  (nb hP).mul (io hP (Dt Ws ps i*(Dt Ws ps (i+1)*e))) ((nb hP).mul ((nbF hP).div ((nbF hP).clear (K.take i) v p) (k.2 p)) (k.2 j))=io hP (Lf Ws ps V i p*Lf Ws ps W i j):=by
 let#[03,k1,k2,k3,k4]:=hK.at_ i W p f k eW ep ee eK
 have hi:i<Ws.length:=(y_.mp eW).1;have f0:=(hK.L f (GY ee)).1;have D0:=hK.D i ()
 have dm:(nb hP).mul ((nbF hP).div ((nbF hP).clear (K.take i) v p) (k.2 p)) (k.2 p)=(nbF hP).clear (K.take i) v p:=(nbF hP).div_mul _ _ k4;have Z:=h p k2;have a2:=k3 j hj;have O:=k3 p k2;rw[gU eW ep] at O;generalize (nbF hP).clear (K.take i) v p=U at *;generalize (nbF hP).div U (k.2 p)=q at *;rw[cC hP (Lf Ws ps V i p),Z,a2,<- dm,cC,cC hP (Dt Ws ps (i+1)),O,cC,cC];generalize io hP (Dt Ws ps i)=D;generalize io hP e=E;generalize io hP f=F;generalize k.2 p=kp;generalize k.2 j=kj
 ac_rfl
theorem LL.step{K:List (Nat×Vn P)}(h0:P=0)(hK:LK hP n X0 L0 Ws ps es K){V:Vz}{f:Int}{v:Vn P}{i p:Nat}{k:Nat×Vn P}(h:LL hP n Ws ps K V e v i)(eW:Ws[i]? = some W)(ep:ps[i]? = some p)(ee:es[i]? = some f)(eK:K[i]? = some k):LL hP n Ws ps K V e v (i+1):=λj O=>by
 have hi:i<Ws.length:=(y_.mp eW).1;have U:=hK.D i ()
 have off:=hK.off hP h0 h eW ep ee eK j O
 let#[03,k1,k2,k3,k4]:=hK.at_ i W p f k eW ep ee eK
 erw[D7 hP (jK hP h0 U) ?_];rw[<- cC,<- u9 hK.l1 hK.D eW ep V j,iD hP eK,AV,h j O];show _=(nb hP).mul (io hP (Dt Ws ps i)) ((nb hP).mul _ ((nb hP).add _ ((nb hP).mul ((nbF hP).neg _) (k.2 j))));have nm:∀x y:Nb P,(nb hP).mul ((nbF hP).neg x) y=(nbF hP).neg ((nb hP).mul x y):=(nbF hP).neg_mul
 rw[k1,nm,(nb hP).mul_add,(nb hP).mul_add];congr 1
 ·rw[cC,cC]
  ac_rfl
 ·have Z:∀x:Nb P,(nb hP).mul (io hP (Dt Ws ps i)) ((nb hP).mul (io hP (Dt Ws ps (i+1)*e)) ((nbF hP).neg x))=(nbF hP).neg ((nb hP).mul (io hP (Dt Ws ps i*(Dt Ws ps (i+1)*e))) x):=λx=>by
   rw[(nb hP).mul_comm _ ((nbF hP).neg x),nm,(nb hP).mul_comm _ ((nbF hP).neg _),nm,(nb hP).mul_comm _ (io hP (Dt Ws ps i)),(nb hP).mul_comm x,<- (nb hP).mul_assoc,<- cC]
  rw[Z,off,cC]
theorem LK.snoc{K:List (Nat×Vn P)}(h0:P=0)(hK:LK hP n X0 L0 Ws ps es K){V:Vz}{v:Vn P}{p:Nat}(h:LL hP n Ws ps K V e v Ws.length)(hp:p<n)(hX:∀c,(V c).natAbs<=X0)(hL:e≠0/\e.natAbs<=L0)(z:(nbF hP).clear K v p≠(nb hP).zero):
  LK hP n X0 L0 (Ws++[V]) (ps++[p]) (es++[e]) (K++[(p,(nbF hP).clear K v)]):=by
 have l1:=hK.l1;have l2:=hK.l2;have l3:=hK.l3;have tk:∀i,i<=Ws.length->Rsi (Ws++[V]) i=Rsi Ws i/\csi (ps++[p]) i=csi ps i:=λi hi=>by
  unfold Rsi csi;rw[take_append_of_le_length hi,take_append_of_le_length ()]
  rwa[1,1]
 have kt:K.take Ws.length=K:=by rw[<- l2];rwa[MZ ..]
 have e1:(Ws++[V])[Ws.length]? = some V:=by simp
 have e2:(ps++[p])[Ws.length]? = some p:=by rw[<- l1];simp
 have lt:∀(W:Vz) i j,i<=Ws.length->Lf (Ws++[V]) (ps++[p]) W i j=Lf Ws ps W i j:=λW i j hi=>by unfold Lf;rw[(tk i hi).1,(tk i hi).2]
 have dt:∀i,i<=Ws.length->Dt (Ws++[V]) (ps++[p]) i=Dt Ws ps i:=λi hi=>by unfold Dt;rw[(tk i hi).1,(tk i hi).2]
 have hv:∀j,j<n->io hP (Lf Ws ps V Ws.length j)=(nb hP).mul (io hP (Dt Ws ps Ws.length*e)) ((nbF hP).clear K v j):=λj hj=>by
  have:=h j hj;rwa [kt] at this
 erw[by simp[l1],by simp[l2],by simp[l3],λi hi=>?_,λW hW=>?_,λf hf=>?_,λi W q f k U a2 Z a4=>?_]
 ·rw[x_,He] at hi
  by_cases O:i<=Ws.length
  ·rw[dt i O];rwa[hK.D i O]
  ·obtain rfl:i=Ws.length+1:=()
   rw[<- gU e1 e2,lt _ _ _ (e_ _)];intro y;have:=hv p hp;rw[y,lB] at this;exact(nbF hP).mul_ne (jK hP h0 (MA (hK.D _ (e_ _)) hL.1)) z this.symm
 ·rcases Ht.mp hW with y|y
  ·rwa[hK.X W y]
  ·rw[D_.mp y];rwa[hX]
 ·rcases Ht.mp hf with y|y
  ·rwa[hK.L f y]
  ·rw[D_.mp y];rwa[hL]
 ·by_cases hi:i<Ws.length
  ·rw[Mh hi] at U;rw[Mh ()] at a2
   rw[Mh ()] at Z
   rw[Mh ()] at a4
   let#[03,k1,k2,k3,k4]:=hK.at_ i W q f k U a2 Z a4
   erw[k1,k2,λj hj=>?_,k4]
   rw[lt _ _ _ (),dt _ ()]
   rwa[k3 j hj]
  ·have O:i=Ws.length:=by
    have:=(y_.mp U).1;rw[x_,He] at this;lia
   subst O;rw[e1] at U;rw[e2] at a2;cases U;cases a2;rw[<- l3] at Z;rw[<- l2] at a4;simp only[OC,NO] at Z a4;subst Z a4;erw[1,hp,λj hj=>?_,z]
   rw[lt _ _ _ (e_ _),dt _ (e_ _)];rwa[hv j hj]
theorem LK.nil(n X0 L0:Nat):LK hP n X0 L0 [] [] [] []:=#[1,1,1,λi hi=>by
 obtain rfl:i=0:=by simpa using hi
 rwa[Int.one_ne_zero],λW O=>(nomatch O),λe U=>(nomatch U),λi W p e k a=>by simp at a]
theorem pN(h0:P=0){x:Nb P}{b:Int}(hb:b≠0)(e:(nb hP).mul (io hP b) x=io hP a)(h1:a.natAbs<2^z)(h2:b.natAbs<2^z):Sz z x.1:=by
 have q:=Bz hP x;have k:io hP (b*x.1.1)=io hP (a*x.1.2):=by
  rw[cC,cC,<- q,<- e]
  ac_rfl
 have U:b*x.1.1=a*x.1.2:=by
  have:=Ma λy:¬b*x.1.1-a*x.1.2=0=>jK hP h0 y (by
   rw[show b*x.1.1-a*x.1.2=b*x.1.1 + -(a*x.1.2) by lia,uq,za,k]
   exact(nbF hP).add_neg _)
  lia
 rcases x.2 with⟨_,d0,g⟩|⟨y,_⟩
 ·have O:x.1.2.natAbs ∣ b.natAbs:=vS g (b:=b) (a:=a) (by rw[Qx];rwa[U])
  have d2:x.1.2.natAbs<=b.natAbs:=Nd () O
  erw[?_,()]
  let#[c,hc]:=O;have hm:b.natAbs*x.1.1.natAbs=a.natAbs*x.1.2.natAbs:=by rw[<- J_,U,J_]
  rw[hc,Qa,Pf a.natAbs] at hm;have hm:=Nat.eq_of_mul_eq_mul_left (():0<x.1.2.natAbs) hm
  have Z:1<=c:=by
   rcases Nat.eq_zero_or_pos c with y|y
   ·subst y;lia
   ·rwa[y]
  have:=Mu x.1.1.natAbs Z;lia
 ·rwa[absurd h0 y]
end
theorem nd_1:(["own", "taken", "first", "factor"]:List Str).Nodup:=#[5]
theorem nd_2:(["whole", "prime"]:List Str).Nodup:=#[5]
theorem nd_3:(["whole", "divisor"]:List Str).Nodup:=#[5]
theorem nd_4:(["number", "numbers"]:List Str).Nodup:=#[5]
theorem nd_5:(["fraction", "bottom"]:List Str).Nodup:=#[5]
theorem Gp.mono{CR x:Addr}{p:Int}(h:Gp CF CR H x p)(k:∀o,H x=some o->H' x=some o):Gp CF CR H' x p:=by
 rcases h with⟨h0,dx,e⟩|⟨h0,dx,e⟩
 ·rwa[.inl #[h0,dx,k _ e]]
 ·rwa[.inr #[h0,dx,k _ e]]
theorem mE{m:Str}(e:(m==("modulus" : Str))=false)(v:V):List.lookup m [(("modulus" : Str),v)]=none:=by
 simp only[List.lookup,e]
def o4:Sp:=λvs H Q _=>∃x:V,vs=[x]/\Q (.int 0) H
def oE(CR:Addr):Sp:=λvs H Q _=>∃(x dx:Addr) (p:Int),vs=[.ref x]/\H x=some (.ins CR dx [("modulus",.int p)])/\Q (.int p) H
def Fr(H:Hp)(t:Addr)(x:Int×Int):Prop:=H t=some (.tup [.int x.1,.int x.2])
def Cg(CF CR:Addr):Sp:=λvs H Q _=>∃(x:Addr) (P:Int) (u:V) (a:Int×Int),vs=[.ref x,u]/\Gp CF CR H x P/\At P H u a/\∀t H',Ga H H'->Fr H' t a->Q (.ref t) H'
section
theorem iI:Gb ["self"] ["self"] (aj cM):=.i
theorem AO(F:Fun K "prime" "Fractions.prime" cM f fd):`Gd CX0 1 f fd ["self"] o4:=by
 erw[F.o iI λ_ _ _ _ H _ Q _ O h=>?_]
 ·let#[x,1,q]:=h;rwa[_,(ai (ar ah)),q]
theorem lY:Gb ["self"] ["self"] (aj ff):=.i
theorem AX{CR:Addr}(F:Fun K "prime" "Rests.prime" ff f fd)(cl:Cls K CR)(nM:Gj K CR "modulus"):`Gd CX0 1 f fd ["self"] (oE CR):=by
 erw[F.o lY λ_ _ _ _ H _ Q _ O h=>?_]
 ·let#[32,x,dx,p,1,hx,q]:=h
  rwa[_,(ai (ar (dc (pv 0) rfl))),#[95,0,x,CR,dx,_,0,hx,cl,nM,1,q]]
theorem ju:Gb ["numbers", "number"] ["numbers", "number"] (aj df):=.i
theorem C2{CR:Addr}(F:Fun K "top_and_bottom" "top_and_bottom" df f fd)(JJ:`MtB 1 CF "prime" o4)(JK:`MtB 1 CR "prime" (oE CR)):`Gd CX0 2 f fd ["numbers", "number"] (Cg CF CR):=by
 erw[F.o ju λ_ _ _ _ H _ Q _ O h=>?_]
 ·let#[43,x,P,u,a,1,hN,hu,q]:=h
  erw[_,(af (aL (aw bf (iP (bR JJ O.m (pv 0)) (bR JK O.m (pv 0))) ah (au _))
(ai (ar (pv 1)))
aB)
(ai (ar (aN #[6,1,ah])))),?_]
  rcases hN with⟨h0,dx,e⟩|⟨h0,dx,e⟩
  ·rcases hu with⟨_,t,rfl,ht⟩|⟨z,_⟩
   ·rwa[.inl #[731211,0,x,dx,0,e,1,.ref x,1,1,0,aU #[0,q t H (Ga.refl _) ht]]]
   ·rwa[absurd h0 z]
  ·rcases hu with⟨z,_⟩|⟨_,rfl,h1⟩
   ·rwa[absurd z h0]
   ·erw[.inr #[733311,0,x,dx,0,e,mE #[5] _,x,dx,P,1,e,1,0,?_]]
    rw[GN (show ¬V.int P=V.int 0 from λz=>h0 (by injection z))]
    erw[bO #[0,(by show 2<=sizeLine;decide),λt U=>q t _ (Ga.new U) ?_]]
    show upd H t (.tup [.int a.1,.int 1]) t=some (.tup [.int a.1,.int a.2]);rw[h1,ae]
end
def BU:Sp:=λvs H Q _=>∃a b:Nat,vs=[.int a,.int b]/\0<a/\0<b/\a<2^4300/\b<2^4300/\Q (.int (Nat.lcm a b)) H
def RowN(P:Int)(H:Hp)(v:V)(xs:List (Int×Int)):Prop:=∃l us,v=.ref l/\H l=some (.lst us)/\Paired (At P H) us xs
def EU(CF CR:Addr):Sp:=λvs H Q _=>∃(x l:Addr) (P:Int) (us:List V) (xs:List (Int×Int)) (B M:Nat),vs=[.ref x,.ref l]/\Gc P/\Gp CF CR H x P/\H l=some (.lst us)/\Paired (At P H) us xs/\xs.length<=6/\(∀y∈xs,OkN P y/\Rw B M y)/\0<B/\1<=M/\M*B<2^4300/\
 ∀(d:Addr) (ns:List Int) (b:Nat) (H':Hp),H d=none->Ga H H'->H' d=some (.lst (ns.map V.int))->ns.length=xs.length->0<b->b ∣ B->(P≠0->b=1)->(∀(j:Nat) (y:Int×Int) (z:Int),xs[j]? = some y->ns[j]? = some z->z*y.2=y.1*b)->Q (.ref d) H'
def zr:Sp:=λvs H Q _=>∃(P:Int) (p:Nat) (l o:Addr) (ls os:List Int) (d:Int),vs=[.int P,.int p,.ref l,.ref o,.int d]/\0<=P/\P<10000/\H l=some (.lst (ls.map V.int))/\H o=some (.lst (os.map V.int))/\ls.length=os.length/\p<ls.length/\ls.length<=6/\(∀z∈ls,z.natAbs<2^8800)/\(∀z∈os,z.natAbs<2^8800)/\(P=0->d≠0/\d.natAbs<2^8800)/\
 ∀(r:Addr) (H':Hp),H r=none->Ga H H'->H' r=some (.lst ((clr P p ls os d).map V.int))->Q (.ref r) H'
theorem Ek{a b:Nat}(ha:0<a):(a:Int).fdiv (Int.gcd a b:Int)*b=(Nat.lcm a b:Int):=by
 have hg:0<Nat.gcd a b:=Nat.gcd_pos_of_pos_left b ha;let#[c,O]:=Nat.gcd_dvd_left a b;have U:(Int.gcd (a:Int) (b:Int))=Nat.gcd a b:=rfl;have e2:(a:Int).fdiv (Nat.gcd a b:Int)=c:=by
  conv=>lhs;rw[O]
  rw[MQ];have Z:Nat.gcd (Nat.gcd a b*c) b=Nat.gcd a b:=by rw[<- O]
  rw[Z];rwa[LW _ ()]
 rw[U,e2,<- MQ];congr 1;unfold Nat.lcm;refine(Nat.div_eq_of_eq_mul_right hg ?_).symm
 conv=>lhs;rw[O]
 rw[Qa]
section
theorem jy:Gb ["one", "other"] ["one", "other"] (aj dj):=.i
theorem C3(F:Fun K "least_multiple" "least_multiple" dj f fd)(HS:`FnB 1 "greatest_divisor" pA):`Gd CX0 2 f fd ["one", "other"] BU:=by
 erw[F.o jy λ_ _ _ _ H _ Q _ U h=>?_]
 ·let#[25,a,b,1,ha,hb,sa,sb,q]:=h
  erw[_,(ai (ar (ao br (ao bj (pv 0) (az HS U.m #[6,0,1])) (pv 1)))),?_];have O:0<Nat.gcd a b:=Nat.gcd_pos_of_pos_left b ha;have gl:Nat.gcd a b<=a:=Nd ha (Nat.gcd_dvd_left a b);have Z:(2:Nat)^4300<2^8800:=HF #[] #[]
  have cd:CDivA (a:Int) (Int.gcd (a:Int) (b:Int):Int):=#[by show((Nat.gcd a b:Nat):Int)≠0;lia,by show(((Nat.gcd a b:Nat):Int)).natAbs<_;rw[HM];lia]
  have dl:((a:Int).fdiv (Int.gcd (a:Int) (b:Int):Int)).natAbs<=a:=by
   have e:=(AN (a:=(a:Int)) (b:=(b:Int)) () ()).1
   have h1:=LD Int.natAbs e;rw[J_,HM,HM] at h1;have:1<=Int.gcd (a:Int) (b:Int):=O;have:=Mu ((a:Int).fdiv (Int.gcd (a:Int) (b:Int):Int)).natAbs this;lia
  erw[51612363,0,0,0,_,0,2,cd,0,2,fu () (by rw[HM];lia),?_]
  show Q (.int ((a:Int).fdiv (Int.gcd (a:Int) (b:Int):Int)*(b:Int))) H;rw[Ek ha];rwa[q]
theorem GT:Gb ["prime", "place", "left", "other", "divisor", "first", "factor", "found"] ["prime", "place", "left", "other", "divisor"] (aj fT):=.i
theorem ye(F:Fun K "cleared_at" "cleared_at" fT f fd)(T:Blt mg):`Gd CX0 1 f fd ["prime", "place", "left", "other", "divisor"] zr:=by
 erw[F.o GT λ_ _ _ _ H _ Q _ hr h=>?_]
 ·let#[403902,P,p,l,o,ls,os,d,1,P0,P1,hl,ho,lo,pl,l6,bl,bo,hd,q]:=h
  erw[_,(af (am (i:=5) GT.nd rfl (Or.inr rfl) (aC (aH K rfl) (pv 3) (pv 1) (λ_ _=>rfl)))
(af (am (i:=6) GT.nd rfl (Or.inr rfl) (aC (aH K rfl) (pv 2) (pv 1) (λ_ _=>rfl)))
(af (dD (i:=7) GT.nd rfl #[4] (N:=["own", "taken", "first", "factor"]) (src:=[none,none,some 5,some 6]) rfl rfl rfl #[9,qo K false false rfl rfl T.zip #[6,2,3]] (λ_ _ _=>by rwa[by exact(bx K (i:=0) (j:=1) rfl rfl nd_1 rfl rfl rfl rfl),aO,by exact(ao cS (ao br (pv 2) (pv 0)) (ao br (pv 3) (pv 1)))]))
(af (aL (aw gh (pv 0) ah (au _))
(ai (ar #[9,aR (N:=["whole", "prime"]) (src:=[none,some 0]) rfl rfl rfl #[9,aG K rfl (pv 7)] (λ_ _ _=>by rwa[by exact(bL (i:=0) nd_2 rfl rfl),aO,by exact(ao aZ (pv 0) (pv 1))])]))
aB)
(ai (ar #[9,aR (N:=["whole", "divisor"]) (src:=[none,some 4]) rfl rfl rfl #[9,aG K rfl (pv 7)] (λ_ _ _=>by rwa[by exact(bL (i:=0) nd_3 rfl rfl),aO,by exact(ao bj (pv 0) (pv 1))])])))))),?_]
  have mz:∀{k:Nat} (zs:List Int) (h:k<zs.length),atI (zs.map V.int) (k:Int)=some (.int (vz zs k)):=λ{k} zs h=>bN (by rw[Hx,ge h,fh h];rfl)
  have vo:(vz os p).natAbs<2^8800:=by rw[fh ()];rwa[bo _ (NX _)]
  have vl:(vz ls p).natAbs<2^8800:=by rw[fh pl];rwa[bl _ (NX _)]
  erw[5144,0,0,o,_,2,SqL.of ho,mz os (),?_]
  erw[5144,0,0,l,_,2,SqL.of hl,mz ls pl,?_];erw[5123,0,0,l,o,1,#[_,fI (SqL.of hl)],#[_,fI (SqL.of ho)],yp (v2 λi j=>.int (vz os p*i-vz ls p*j)) rfl (fI (SqL.of hl)) (fI (SqL.of ho)) (by rw[z_,Hc];lia) (λi x y H4 R hx hy s4 hR=>?_) (λacc H4 a2 s4 O=>?_)]
  ·let#[z,ez,1]:=fP hx;let#[z',a1,1]:=fP hy;rwa[5123512322,0,0,2,fu vo (bl _ (GY ez)),0,0,2,fu vl (bo _ (GY a1)),2,hR]
  ·rw[zc,Au V.int] at O;have lz:((List.zipWith (λi j=>vz os p*i-vz ls p*j) ls os).map V.int).length<=sizeLine:=by rw[z_,length_zipWith,Hc];lia
   erw[0,1,0,bC (λh=>?_) (λh=>?_)]
   ·have h0:P≠0:=λz=>by rw[z] at h;cases h
    erw[52,0,acc,1,#[_,SqL.of O],lV (v1 λi=>.int (i%P)) rfl (SqL.of O) lz (λi x Z R hx s5 hR=>?_) (λr Z nr s5 U=>?_)]
    ·let#[z,ez,1]:=fP hx;rwa[5123,0,0,2,(by show 0<P;lia),hR]
    ·erw[q r Z (s4.free nr) (s4.trans s5) ?_];rw[U,ut];unfold clr;rw[Oo];erw[LD (λl=>some (HO.lst l)) (map_congr_left λz _=>?_)]
     show V.int (z%P)=V.int (if P=0 then z.fdiv d else z%P)
     rw[w_ h0]
   ·have h0:P=0:=Decidable.byContradiction λz=>h (by rw[GN λy=>z (by injection y)];rfl)
    erw[52,0,acc,1,#[_,SqL.of O],lV (v1 λi=>.int (i.fdiv d)) rfl (SqL.of O) lz (λi x Z R hx s5 hR=>?_) (λr Z nr s5 U=>?_)]
    ·let#[z,ez,1]:=fP hx;rwa[5123,0,0,2,#[(hd h0).1,(hd h0).2],hR]
    ·erw[q r Z (s4.free nr) (s4.trans s5) ?_];rw[U,ut];unfold clr;rw[Oo];erw[LD (λl=>some (HO.lst l)) (map_congr_left λz _=>?_)]
     show V.int (z.fdiv d)=V.int (if P=0 then z.fdiv d else z%P)
     rw[C_ h0]
theorem GF:Gb ["numbers", "own", "fractions", "bottom", "fraction"] ["numbers", "own"] (aj dL):=.i
theorem xQ{CR:Addr}(F:Fun K "whole_numbers" "whole_numbers" dL f fd)(HX:`FnB 2 "top_and_bottom" (Cg CF CR))(HY:`FnB 2 "least_multiple" BU):`Gd CX0 3 f fd ["numbers", "own"] (EU CF CR):=by
 erw[F.o GF λ_ _ _ _ H _ Q _ hr h=>?_]
 ·let#[403901,x,l,P,us,xs,B,M,1,hP,hN,hl,pu,l6,okx,B0,M1,hz,q]:=h
  erw[_,(af (dD (i:=2) GF.nd rfl #[4] (N:=["number", "numbers"]) (src:=[none,some 0]) rfl rfl rfl #[9,aG K rfl (pv 1)] (λ_ _ _=>by rwa[by exact(bL (i:=0) nd_4 rfl rfl),aO,by exact(az HX hr.m #[6,1,0])]))
(af (am (i:=3) GF.nd rfl (Or.inr rfl) ah)
(af (be Hu rfl (aG K rfl (pv 2)) (aM (i:=4) GF.nd rfl #[4])
(ai (am (i:=3) GF.nd rfl (Or.inr rfl) (az HY hr.m #[6,3,(aC (aA K rfl) (pv 4) ah (λ_ _=>rfl))]))))
(ai (ar #[9,aR (N:=["fraction", "bottom"]) (src:=[none,some 3]) rfl rfl rfl #[9,aG K rfl (pv 2)] (λ_ _ _=>by rwa[by exact(bL (i:=0) nd_5 rfl rfl),aO,by exact(ao br (aC (aA K rfl) (pv 0) ah (λ_ _=>rfl)) (ao bj (pv 1) (aC (aA K rfl) (pv 0) ah (λ_ _=>rfl))))])]))))),?_]
  have lu:us.length=xs.length:=Paired.length pu;erw[52,0,l,1,#[_,SqL.of hl],cc (n:=us.length) (σ0:=[none,some (.ref x)]) rfl (λacc i ws σ H'=>∃u:Option V,σ=[u,some (.ref x)]/\Ga H H'/\Paired (λv y=>∃t,v=.ref t/\Fr H' t y) ws (xs.take i)) (by rw[Hc];lia) (λacc O=>#[none,1,Ga.new O,.nil]) ?_ ?_ ?_ ?_]
  ·intro acc i ws σ H' O hi hz U;let#[12,u,1,Z,_]:=U
   rwa[21,us,_,SqL.of (Z _ _ hl),ge hi]
  ·intro acc ws σ H' O hz U;let#[12,u,1,Z,_]:=U
   rwa[us,SqL.of (Z _ _ hl),e_ _]
  ·rintro acc i ws σ H9 x' H' O hi hz a4 ⟨u,rfl,Z,pr⟩ ⟨rfl,hx⟩;have hx:=hx us (SqL.of (Z _ _ hl));let#[y,ey,av]:=aD pu hx;have lw:ws.length=(xs.take i).length:=Paired.length pr;erw[5143,0,0,x,P,x',y,1,hN.mono λo e=>Z _ _ e,av.same Z,λt H2 s2 ht=>?_]
   have a8:=s2 _ _ hz;have kc:∀c a6,H2 c=some (.tup a6)->upd H2 acc (.lst (ws++[.ref t])) c=some (.tup a6):=λc a6 e=>by rw[ak (bD e a8 #[3])];rwa[e]
   erw[ws,a8,by rw[Hc];rw[MY] at lw;lia,_,ae,by rw[x_,He];lia,0,λc o e=>by rw[ak (al e O)];rwa[s2 _ _ (Z _ _ e)],?_]
   rw[Mw,ey];rwa[aV #[t,1,kc _ _ ht] (aq (λv y z=>by let#[t',e,h']:=z;rwa[t',e,kc _ _ (s2 _ _ h')]) pr)]
  ·intro fr ws σ H1 ax a1 a4 U;let#[12,u,1,s1,pr]:=U
   rw[lu,MZ] at pr;have lw:ws.length=xs.length:=Paired.length pr;have dv {i:Nat} {y:Int×Int} (ey:xs[i]? = some y):0<y.2/\y.2.natAbs ∣ B/\y.2.natAbs<2^4300/\y.1.natAbs<2^4300:=by
    let#[o,r]:=okx y (GY ey);have sz:=r.sz (z:=4300) B0 M1 hz;rwa[r.1,r.2.1,sz.2,sz.1]
   have a':B<2^4300:=Lk (Mu _ M1) hz;have ay:(2:Nat)^4300<2^8800:=HF #[] #[]
   erw[52,0,fr,1,#[_,SqL.of a1],bw (xs:=ws) (λi σ H'=>∃(x4:Option V) (b:Nat),σ=[some (.ref x),some (.ref l),some (.ref fr),some (.int b),x4]/\Ga H1 H'/\0<b/\b ∣ B/\(P≠0->b=1)/\∀y∈xs.take i,y.2.natAbs ∣ b) ?_ ?_ ?_ ?_]
   ·rwa[25,none,(1),1,Ga.refl _,#[],Nat.one_dvd _,λ_=>rfl,λy hy=>by simp at hy]
   ·intro i σ H' _ U;let#[22,x4,b,1,Z,_]:=U
    rwa[SqL.of (Z _ _ a1)]
   ·intro i v σ H2 hv U N0 C0 ac;let#[25,x4,b,1,Z,b0,bB,b1,bd]:=U
    let#[51,y,ey,t,1,ht]:=aD pr hv
    let#[03,d0,dB,d43,_]:=dv ey
    have ht:=Z _ _ ht;erw[514425,0,0,t,_,2,SqT.of ht,1,b,y.2.natAbs,by rw[MU ()];rfl,b0,(),Lk (Nd B0 bB) a',d43,?_]
    erw[ac _ _ #[25,_,Nat.lcm b y.2.natAbs,1,Z,Nat.lcm_pos b0 (),Nat.lcm_dvd bB dB,λh0=>?_,λy' a7=>?_]]
    ·have oy:=(okx y (GY ey)).1;rw[b1 h0,(aF oy).2 h0]
     rfl
    ·rw[Mw,ey] at a7
     rcases Ht.mp a7 with z|z
     ·rwa[Nat.dvd_trans (bd y' z) (Nat.dvd_lcm_left _ _)]
     ·rw[D_.mp z];rwa[Nat.dvd_lcm_right _ _]
   ·intro σ H2 U;let#[25,x4,b,1,s2,b0,bB,b1,bd]:=U
    rw[lw,MZ] at bd;have a9:=s1.trans s2;erw[52,0,fr,1,#[_,SqL.of (s2 _ _ a1)],cc (n:=ws.length) (σ0:=[none,some (.int b)]) rfl (λacc i zs σ H'=>∃(u:Option V) (ns:List Int),σ=[u,some (.int b)]/\Ga H2 H'/\zs=ns.map V.int/\ns.length=i/\∀(j:Nat) (y:Int×Int) (z:Int),xs[j]? = some y->ns[j]? = some z->z*y.2=y.1*b) (by rw[Hc];lia) (λacc O=>#[24,none,[],1,Ga.new O,1,1,λj y z _ e=>by simp at e]) ?_ ?_ ?_ ?_]
    ·intro acc i zs σ H' O hi hz U;let#[22,u,ns,1,Z,_]:=U
     rwa[21,ws,_,SqL.of (Z _ _ (s2 _ _ a1)),ge hi]
    ·intro acc zs σ H' O hz U;let#[22,u,ns,1,Z,_]:=U
     rwa[ws,SqL.of (Z _ _ (s2 _ _ a1)),e_ _]
    ·rintro acc i zs σ H9 x' H' O hi a3 a4 ⟨u,ns,rfl,Z,rfl,ln,a5⟩ ⟨rfl,hx⟩;have hx:=hx ws (SqL.of (Z _ _ (s2 _ _ a1)))
     let#[51,y,ey,t,1,ht]:=aD pr hx
     let#[03,d0,dB,d43,n43]:=dv ey
     have ht:=Z _ _ (s2 _ _ ht);let#[c,hc]:=bd y (GY ey);have ef:(b:Int).fdiv y.2=c:=by
      rw[hc,MQ,MU ()]
      rwa[LW _ ()]
     have cb:c<=b:=by rw[hc];rwa[Mu _ ()]
     have ap:=Nd B0 bB;erw[8451442323,0,t,_,2,SqT.of ht,1,0,0,t,_,2,SqT.of ht,1,2,#[(),()],2,fu () (by rw[ef,HM];lia),?_]
     erw[121224,_,a3,by rw[z_,Hc];lia,_,ae,by rw[x_,z_,He];lia,_,ns++[y.1*(b:Int).fdiv y.2],1,Z.put O,by rw[L8];rfl,by rw[x_,He,ln],λj y' z a2 ez=>?_]
     by_cases hj:j<ns.length
     ·rw[Mh hj] at ez;rwa[a5 j y' z a2 ez]
     ·have ad:j=ns.length:=by
       have:=(y_.mp ez).1;rw[x_,He] at this;lia
      subst ad;rw[ln,ey] at a2;cases a2;simp only[OC,NO] at ez;rw[<- ez,ef,hc,MQ,MU (),Nv,Qx (c:Int)]
    ·intro d zs σ H3 hd a3 a4 U;let#[24,u,ns,1,s3,1,ln,a5]:=U
     rwa[q d ns b H3 (a9.free hd) (a9.trans s3) a3 (by rw[ln,lw]) b0 bB b1 a5]
end
theorem nd_6:(["place", "whole"]:List Str).Nodup:=#[5]
open Classical in
noncomputable def vec {P:Int} (hP:Gc P) (xs:List (Int×Int)):Vn P:=λj=>if h:OkN P (xs.getD j (0,1)) then#[_,h] else(nb hP).zero
theorem qe{P:Int}(hP:Gc P)(e:xs[j]? = some y)(o:OkN P y):vec hP xs j=#[y,o]:=by
 have O:xs.getD j (0,1)=y:=by simp[List.getD,e]
 unfold vec;subst O;rw[dif_pos o]
theorem jb{P:Int}(hP:Gc P)(h:xs.length<=j):vec hP xs j=(nb hP).zero:=by
 have O:xs.getD j (0,1)=(0,1):=by simp[List.getD,getElem?_eq_none h]
 unfold vec
 split
 ·rwa[Mi O]
 ·rfl
theorem yq{P:Int}(hP:Gc P){b:Int}(ok:∀y∈xs,OkN P y)(ln:ns.length=xs.length)(rel:∀(j:Nat) (y:Int×Int) (z:Int),xs[j]? = some y->ns[j]? = some z->z*y.2=y.1*b)(j:Nat):io hP (vz ns j)=(nb hP).mul (io hP b) (vec hP xs j):=by
 by_cases h:j<xs.length
 ·have U:xs[j]? = some xs[j]:=ge h;have Z:ns[j]? = some (vz ns j):=by rw[ge (),fh ()]
  have O:=ok _ (NX h);rw[qe hP U O];have r:=rel j _ _ U Z;erw[Mi ?_];show val P (vz ns j,1)=bV P (val P (b,1)) xs[j];have:=fO (P:=P) (bM b) (aF O);rw[ck O] at this;rw[this];rwa[bI (bM _) (ce (bM _) (aF O)) (by dsimp only;grind)]
 ·rw[dS (),jb hP (),CS.mul_zero,lB]
def DP(P:Int)(n:Nat)(B:Nat)(xs:List (Int×Int)):Prop:=xs.length=n/\0<B/\B<=2^1260/\∀y∈xs,OkN P y/\Rw B (2^53) y
def zZ(CF CR:Addr):Sp:=λvs H Q _=>∃(x l:Addr) (P:Int) (hP:Gc P) (n:Nat) (ws:List V) (rows:List (List (Int×Int))),vs=[.ref x,.ref l]/\Gp CF CR H x P/\H l=some (.lst ws)/\Paired (RowN P H) ws rows/\rows.length<=6/\n<=6/\(∀xs∈rows,∃B,DP P n B xs)/\
 ∀(K:List (Nat×Vn P)) (H':Hp),(nbF hP).Keeps K (rows.map (vec hP))->Ga H H'->Q (.int K.length) H'
theorem RowN.same{P:Int}(s:Ga H H')(h:RowN P H v xs):RowN P H' v xs:=by
 let#[22,l,us,e,h1,h2]:=h
 rwa[22,l,us,e,s _ _ h1,aq (λ_ _ z=>z.same s) h2]
def KpR(d:Addr)(H:Hp)(v:V)(q:Nat×List Int):Prop:=∃t l,v=.ref t/\l≠d/\H t=some (.tup [.int q.1,.ref l])/\H l=some (.lst (q.2.map V.int))
theorem KpR.same{d:Addr}{q:Nat×List Int}(s:Ga H H')(h:KpR d H v q):KpR d H' v q:=by
 let#[23,t,l,e,n,h1,h2]:=h
 rwa[23,t,l,e,n,s _ _ h1,s _ _ h2]
theorem KpR.put{d:Addr}{q:Nat×List Int}{xs ys:List V}(hd:H d=some (.lst xs))(h:KpR d H v q):KpR d (upd H d (.lst ys)) v q:=by
 let#[23,t,l,e,n,h1,h2]:=h
 rwa[23,t,l,e,n,by rw[ak (bD h1 hd #[3])];rwa[h1],by rw[ak n];rwa[h2]]
theorem mJ{P:Int}(hP:Gc P){K:List (Nat×Vn P)}{vs:List (Vn P)}{v:Vn P}(h:(nbF hP).Keeps K vs)(z:∀j,(nbF hP).clear K v j=(nb hP).zero):(nbF hP).Keeps K (vs++[v]):=by
 let#[w,hw,e]:=(nbF hP).clear_sp (K:=K) (v:=v);erw[h.1,λu Z=>?_,λq U=>(h.2.2 q U).trans _ λg O=>FL.Sp.mem _ (by simp[O])]
 rcases Ht.mp Z with y|y
 ·rwa[h.2.1 u y]
 ·rw[D_.mp y];rwa[hw.eq _ λj=>by rw[e,z];rwa[CS.add_zero _ _]]
def XB:Nat:=2^1313
theorem EE:∀i,i<6->6*XB*(6*XB)^i<2^8800:=λi hi=>by
 have h1:6*XB<=2^1316:=by unfold XB;rw[show(2:Nat)^1316=8*2^1313 by rw[<- NG 2 3 1313]];rwa[LP _ #[]]
 rw[Pf,<- Pe];erw[Lk (Nat.pow_le_pow_left h1 _) ?_];rw[<- Nat.pow_mul];rwa[HF #[] ()]
theorem Bl:∀i,i<=6->(6*XB)^i<2^8800:=λi hi=>by
 have h1:6*XB<=2^1316:=by unfold XB;rw[show(2:Nat)^1316=8*2^1313 by rw[<- NG 2 3 1313]];rwa[LP _ #[]]
 erw[Lk (Nat.pow_le_pow_left h1 _) ?_];rw[<- Nat.pow_mul];rwa[HF #[] ()]
def nzp(l:List Int)(n:Nat):List Nat:=(List.range n).filter λj=>!decide (V.int (vz l j)=V.int 0)
theorem DG{xs:List α}{ys:List β}{i:Nat}{q:α×β}(h:(xs.zip ys)[i]? = some q):xs[i]? = some q.1/\ys[i]? = some q.2:=by
 rw[List.getElem?_zip_eq_some] at h;rwa[h]
theorem yC(l:List Int)(j:Nat):nzp l (j+1)=nzp l j++if (!decide (V.int (vz l j)=V.int 0))=true then[j] else[]:=by
 unfold nzp;rw[range_succ,filter_append];congr 1;simp only[List.filter_cons,List.filter_nil]
theorem nzp_mem{p:Nat}:p∈nzp l n↔p<n/\vz l p≠0:=by
 unfold nzp;rw[mem_filter,mem_range];erw[and_congr Iff.rfl #[λh z=>?_,λh=>?_]]
 ·rw[z] at h;cases h
 ·rw[GN λz=>h (by injection z)]
  rfl
def dIL(ns:List Int):PyData:=.list (ns.map .int)
theorem ib(ns:List Int):SeqAt.shaped (dIL ns)=true:=by
 simp[dIL,SeqAt.shaped,PyData.canLay0,PyData.depth,PySem.W.ke_canLayAll0,PySem.W.ke_depthAll]
section
theorem GO:Gb ["numbers", "lists", "kept_lists", "own", "left", "divisor", "place", "other", "places"] ["numbers", "lists"] (aj uE):=.i
set_option maxHeartbeats 1000000 in
theorem Cq{CR:Addr}(F:Fun K "rank" "rank" uE f fd)(T:Blt mg)(JJ:`MtB 1 CF "prime" o4)(JK:`MtB 1 CR "prime" (oE CR))(J6:`FnB 3 "whole_numbers" (EU CF CR))(Ks:`FnB 1 "cleared_at" zr):`Gd CX0 4 f fd ["numbers", "lists"] (zZ CF CR):=by
 erw[F.o GO λ_ _ _ _ H _ Q _ hr h=>?_]
 ·let#[30,x,l,P,#[hP,n,ws,rows,1,hN,hl,pr,r6,n6,okr,q]]:=h
  have hB:=hP.b;erw[_,(af #[5,2,GO,(aX ag)]
(af (be Hu rfl (aG K rfl (pv 1)) (aM (i:=3) GO.nd rfl #[4])
(af #[5,4,GO,(az J6 hr.m #[6,0,3])]
(af #[5,5,GO,ah]
(af (be Hu rfl (aG K rfl (pv 2)) (bx K (i:=6) (j:=7) rfl rfl GO.nd rfl rfl rfl rfl)
(af #[5,4,GO,(az Ks hr.m #[6,(iP (bR JJ hr.m (pv 0)) (bR JK hr.m (pv 0))),6,4,7,5])]
(ai #[5,5,GO,(aC (aH K rfl) (pv 7) (pv 6) (λ_ _=>rfl))])))
(af (dD (i:=8) GO.nd rfl #[4] (N:=["place", "whole"]) (src:=[none,none]) rfl rfl rfl #[9,mV K rfl rfl T.enum #[6,4]] (λ_ _ _=>by rwa[by exact(bx K (i:=0) (j:=1) rfl rfl nd_6 rfl rfl rfl rfl),(eR (aw gh (pv 1) ah (au _))),by exact(pv 0)]))
(ai (aL (aw (zK K rfl hr.units) (pv 8) (aX ag) (au _))
(ai (cA (bmA K rfl (pv 2) #[6,(aN #[6,(aC (aH K rfl) (pv 8) ah (λ_ _=>rfl)),4])])))
aB)))))))
(ai (ar (bY K T (pv 2)))))),?_]
  have lw:ws.length=rows.length:=Paired.length pr;erw[Hj _,λd hd=>?_]
  have s0:=Ga.new (o:=.lst []) hd;have hd0:(upd H d (.lst [])) d=some (.lst []):=ae;generalize upd H d (.lst [])=H0 at *;erw[52,0,l,1,#[_,SqL.of (s0 _ _ hl)],bw (xs:=ws) (λi σ H'=>∃(x3 x4 x5 x6 x7 x8:Option V) (ks:List V) (Ws:List Vz) (ps:List Nat) (Kv:List (Nat×Vn P)) (ls:List (List Int)),σ=[some (.ref x),some (.ref l),some (.ref d),x3,x4,x5,x6,x7,x8]/\Ga H H'/\H' d=some (.lst ks)/\Paired (KpR d H') ks (ps.zip ls)/\KI hP n Ws ps Kv ls/\Ws.length<=i/\(P=0->∀W∈Ws,∀c,(W c).natAbs<=XB)/\(nbF hP).Keeps Kv ((rows.take i).map (vec hP))) ?_ ?_ ?_ ?_]
  ·rwa[404039,none,none,none,none,none,none,[],[],[],[],[],1,s0,hd0,.nil,KI.nil hP n,Hj _,λ_ W hW=>(nomatch hW),trivial,λv hv=>by simp at hv,λq hq=>(nomatch hq)]
  ·intro i σ H' _ O;let#[404032,x3,x4,x5,x6,x7,x8,ks,Ws,ps,Kv,ls,1,sm,_]:=O
   rwa[SqL.of (sm _ _ hl)]
  ·intro i v σ H1 hv O N0 C0 a';let#[404037,x3,x4,x5,x6,x7,x8,ks,Ws,ps,Kv,ls,1,s1,hd1,pk,ki,wl,wb,kp]:=O
   let#[62,xs,ex,o,us,1,ho,pu]:=aD pr hv
   have hi:i<rows.length:=(y_.mp ex).1
   let#[13,B,xl,B0,B1,okx]:=okr xs (GY ex)
   have bi (j:Nat) (ns:List Int) (e:vz ns j≠0):j<ns.length:=Nat.lt_of_not_le λz=>e (dS z)
   have bd:2^53*B<2^4300:=Lk (Pn _ B1) (by rw[<- NG];rwa[HF #[] #[]])
   erw[51403901,0,0,x,o,P,us,xs,B,2^53,1,hP,hN.mono λo e=>s1 _ _ e,s1 _ _ ho,aq (λ_ _ z=>z.same s1) pu,(),okx,B0,#[],bd,λdl ns b H2 b5 s2 b6 ln b0 bB b1 a9=>?_]
   have n0:P≠0->∀z∈ns,0<=z/\z<P:=λh0 z hz=>by
    let#[j,Z,1]:=Ol.mp hz;have a1:j<xs.length:=()
    have r:=a9 j _ _ (ge a1) (ge Z);rw[b1 h0] at r
    rcases(okx _ (NX a1)).1 with⟨y,_⟩|⟨_,e2,e3,e4⟩
    ·rwa[absurd y h0]
    ·rw[e4] at r;lia
   have nX:∀c,(vz ns c).natAbs<=XB:=λc=>by
    by_cases hc:c<ns.length
    ·have a1:c<xs.length:=()
     have r:=a9 c _ _ (ge a1) (ge hc)
     let#[03,_,e1,_,e2]:=okx _ (NX a1)
     rw[fh hc];have r:=LD Int.natAbs r;rw[J_,J_,HM] at r;have bl:b<=2^1260:=Hb (Nd B0 bB) B1;have h1:=OW e2 bl;rw[<- r] at h1;have h2:ns[c].natAbs*(xs[c]).2.natAbs<=XB*(xs[c]).2.natAbs:=by
      erw[Hb h1 (PU ?_)];unfold XB;rw[show(1313:Nat)=53+1260 from rfl,NG,Qa,Pf (xs[c]).2.natAbs,Qa]
     rwa[Nat.le_of_mul_le_mul_right h2 ()]
    ·rw[dS ()]
     rwa[Hj _]
   have b':LI hP n Ws ps Kv (vz ns) (vec hP xs) 0 ns:=#[(),n0,λ_ j _=>(uO _ _).symm,io hP b,λz=>?_,λj=>yq hP (λy hy=>(okx y hy).1) ln a9 j]
   rotate_left
   ·by_cases h0:P=0
    ·rwa[jK hP h0 () z]
    ·rw[b1 h0] at z;rwa[zA hP h0 #[] (by have:=hP;rcases this with y|y<;>lia) #[] z]
   have bo:n<=6:=n6;have av:∀{V:Vz} {i:Nat},P=0->i<6->i<=Ws.length->(∀c,(V c).natAbs<=XB)->∀j,(Lf Ws ps V i j).natAbs<2^8800:=λh0 h6 hi hV j=>Lk (Bb ki.l1 hi h6 (wb h0) hV j) (EE _ h6)
   have w6:Ws.length<6:=()
   have bb:ks.length=Ws.length:=by
    have:=Paired.length pk;rw[length_zip,ki.l1,ki.l3,Nat.min_self] at this;rwa[this]
   have a4:∀{ms:List Int},P≠0->(∀z∈ms,0<=z/\z<P)->∀z∈ms,z.natAbs<2^8800:=λh0 h z hz=>by
    have:=h z hz;rwa[MN (show z.natAbs<2^14 by lia) (HF #[] #[])]
   have b3:∀{ms:List Int},ms.length=n->(∀j,j<n->(vz ms j).natAbs<2^8800)->∀z∈ms,z.natAbs<2^8800:=λhm h z hz=>by
    let#[j,Z,1]:=Ol.mp hz;have:=h j ()
    rwa [fh Z] at this
   erw[52,0,d,1,#[_,SqL.of (s2 _ _ hd1)],bw (xs:=ks) (λk σ H'=>∃(x6 x7:Option V) (cl:Addr) (cur:List Int) (dv:Int),σ=[some (.ref x),some (.ref l),some (.ref d),some (.ref o),some (.ref cl),some (.int dv),x6,x7,x8]/\Ga H1 H'/\H1 cl=none/\H' cl=some (.lst (cur.map V.int))/\LI hP n Ws ps Kv (vz ns) (vec hP xs) k cur/\(P=0->dv=Dt Ws ps k)) ?_ ?_ ?_ ?_]
   ·rwa[4015,x6,x7,dl,ns,(1),1,s2,b5,b6,b',λ_=>Dt_zero.symm]
   ·intro k σ H' _ O;let#[4012,x6,x7,cl,cur,dv,1,sm,_]:=O
    rwa[SqL.of (sm _ _ hd1)]
   ·intro k v σ H3 b8 O N1 C1 ac;let#[4015,x6,x7,cl,cur,dv,1,s3,ncl,hcl,li,edv]:=O
    let#[63,q,eq,t,la,1,_,ht,hla]:=aD pk b8
    let#[ep,el]:=DG eq;have kW:k<Ws.length:=by rw[<- ki.l3];exact(y_.mp el).1
    have eW:Ws[k]? = some Ws[k]:=ge kW;have eK:Kv[k]? = some (Kv[k]'(by rw[ki.l2];rwa[kW])):=ge _
    let#[06,k1,k2,k3,k4,k5,k6,k7]:=ki.at_ k _ _ _ _ eW ep eK el
    let#[st,op,od]:=LI.step hP ki li el ep;have cn:=li.len;have b4:∀z∈cur,z.natAbs<2^8800:=by
     by_cases h0:P=0
     ·rwa[b3 cn λj Z=>by rw[li.lf h0 j Z];rwa[av h0 () () nX j]]
     ·rwa[a4 h0 (li.rg h0)]
    have b7:∀z∈q.2,z.natAbs<2^8800:=by
     by_cases h0:P=0
     ·rwa[b3 k3 λj Z=>by rw[k5 h0 j Z];rwa[av h0 () () (wb h0 _ (NX kW)) j]]
     ·rwa[a4 h0 (k4 h0)]
    have fin:∀Q',(∀(r:Addr) (H':Hp),H3 r=none->Ga H3 H'->H' r=some (.lst ((clr P q.1 cur q.2 dv).map V.int))->Q' (.ref r) H')->zr [.int P,.int q.1,.ref cl,.ref la,.int dv] H3 Q' E0:=λQ' h'=>#[403902,P,q.1,cl,la,cur,q.2,dv,1,hB.1,(),hcl,s3 _ _ hla,(),(),(),b4,b7,λh0=>#[by rw[edv h0];rwa[ki.D h0 _ ()],by rw[edv h0];rwa[Lk (zd ki.l1 () () (wb h0)) (Bl _ ())]],h']
    have ed:clr P q.1 cur q.2 dv=clr P q.1 cur q.2 (Dt Ws ps k):=by
     by_cases h0:P=0
     ·rw[edv h0]
     ·unfold clr;simp only[w_ h0]
    erw[232122,t,0,SqT.of (s3 _ _ ht),1,_,0,2,?_];have sA:=s1.trans s3;have mo:atI (q.2.map V.int) (q.1:Int)=some (.int (vz q.2 q.1)):=bN (by rw[Hx,ge (),fh ()];rfl)
    rcases hN with⟨h0,dx,e⟩|⟨h0,dx,e⟩
    ·have a5:=fin;rw[h0] at a5;erw[.inl #[73515111,0,x,dx,0,sA _ _ e,1,.ref x,1,0,0,0,0,?_]];dsimp only[cQ];show zr [.int 0,.int q.1,.ref cl,.ref la,.int dv] H3 _ E0;erw[a5 _ λr H4 nr s4 hr=>?_]
     rw[<- h0,ed] at hr;rwa[5144,0,0,la,_,2,SqL.of (s4 _ _ (s3 _ _ hla)),mo,ac _ _ #[4015,_,_,r,_,0,s3.trans s4,s3.free nr,hr,st,od]]
    ·erw[.inr #[73325151,0,x,dx,0,sA _ _ e,mE #[5] _,x,dx,P,1,sA _ _ e,0,0,0,0,?_]]
     dsimp only[cQ];show zr [.int P,.int q.1,.ref cl,.ref la,.int dv] H3 _ E0;erw[fin _ λr H4 nr s4 hr=>?_]
     rw[ed] at hr;rwa[5144,0,0,la,_,2,SqL.of (s4 _ _ (s3 _ _ hla)),mo,ac _ _ #[4015,_,_,r,_,0,s3.trans s4,s3.free nr,hr,st,od]]
   ·intro σ H3 O;let#[4015,x6,x7,cl,cur,dv,1,s3,ncl,hcl,li,edv]:=O
    rw[bb] at li;have cn:=li.len;erw[52,0,cl,1,#[_,SqL.of hcl],cc (n:=cur.length) (σ0:=[none,none]) rfl (λacc i ws σ H'=>∃(u v:Option V),σ=[u,v]/\Ga H3 H'/\ws=((nzp cur i).map λj:Nat=>(j:Int)).map V.int) (by rw[Hc];lia) (λacc U=>#[22,none,none,1,Ga.new U,1]) ?_ ?_ ?_ ?_]
    ·intro acc j zs σ H' U Z hz O;let#[22,u,v,1,sm,_]:=O
     rwa[21,_,_,SqL.of (sm _ _ hcl),ge (by rw[z_];rwa[Z])]
    ·intro acc zs σ H' U hz O;let#[22,u,v,1,sm,_]:=O
     rwa[_,SqL.of (sm _ _ hcl),by rw[z_];rwa[e_ _]]
    ·rintro acc j zs σ H' x' H4 U Z hz b9 ⟨u,v,rfl,sm,rfl⟩ ⟨pp,y,rfl,ax,rfl,hy⟩;have hy:=hy _ (SqL.of (sm _ _ hcl));rw[Hx,ge Z,<- fh Z] at hy;obtain rfl:V.int (vz cur j)=y:=by injection hy
     have a2:=(Ga.new (o:=.tup [.int (j:Int),.int (vz cur j)]) ax) _ _ hz;have nj:=yC cur j;have sj:Ga H3 (upd H' pp (.tup [.int (j:Int),.int (vz cur j)])):=sm.put (sm.free ax);erw[2321221211,pp,0,SqT.of ae,1,_,0,2,0,1,0,bC (λh=>?_) (λh=>?_)]
     ·rw[C_ h] at nj;erw[521222,0,_,a2,by rw[Hc];lia,_,ae,by rw[x_,He];lia,_,0,sj.put U,?_]
      rw[nj,L8,L8]
      rfl
     ·rw[w_ h,Pg] at nj;rwa[1222,_,a2,(),_,0,sj,by rw[nj]]
    ·intro pl zs σ H4 bg a2 b9 O;let#[22,u,v,1,s4,1]:=O
     rw[cn] at a2;erw[0,Hj _,λem ap=>?_]
     have s5:=s4.trans (Ga.new (o:=.lst []) ap);have h5:(upd H4 em (.lst [])) em=some (.lst []):=ae;have a7:=(Ga.new (o:=.lst []) ap) _ _ a2;generalize upd H4 em (.lst [])=H5 at *;have a3:=s3.trans s5;have a8:=li.pr;rw[show Kv.take Ws.length=Kv by rw[<- ki.l2];rwa[MZ ..]] at a8
     have ay:∀j,P≠0->0<=vz cur j/\vz cur j<P:=λj h0=>uw (li.rg h0) () j
     erw[2411,dIL _,dIL [],.lst (SqL.of a7) (jm _),.lst (SqL.of h5) .nil,ib _,ib _,0,bC (λh=>?_) (λh=>?_)]
     ·cases hn:nzp cur n with
      | nil=>rw[hn] at h;rwa[absurd h #[]]
      | cons p0 rest=>
       let#[pn,pz]:=nzp_mem.mp (show p0∈nzp cur n by rw[hn];rwa[LN ..])
       rw[hn] at a7;have cz:(nbF hP).clear Kv (vec hP xs) p0≠(nb hP).zero:=λz=>pz ((jA hP a8 (ay p0)).mpr z)
       have ad:=a3 _ _ hd1;erw[128412,0,(.inl #[1,_,SqL.of ad]),0,pl,_,_,.int (p0:Int),1,1,SqL.of a7,bN (j:=0) rfl,0,(by show 2<=sizeLine;decide),λt nt=>?_]
       have s6:=Ga.new (o:=.tup [.int (p0:Int),.ref cl]) nt;have h6:(upd H5 t (.tup [.int (p0:Int),.ref cl])) t=some (.tup [.int (p0:Int),.ref cl]):=ae;generalize upd H5 t (.tup [.int (p0:Int),.ref cl])=H6 at *;have b2:=a3.trans s6;have a6:=s6 _ _ ad;erw[34,d,ks,0,1,a6,by rw[Hc];lia,?_]
       erw[a' _ _ #[404037,_,_,_,_,_,_,ks++[.ref t],Ws++[vz ns],ps++[p0],Kv++[(p0,(nbF hP).clear Kv (vec hP xs))],ls++[cur],1,(s1.trans b2).put hd,ae,?_,KI.snoc hP ki li pn pz,by rw[x_,He];lia,λh0 W hW=>?_,?_]]
       ·rw[List.zip_append (by rw[ki.l1,ki.l3])]
        rwa[aV (KpR.put a6 #[23,t,cl,1,λz=>(by rw[z,hd1] at ncl;cases ncl),h6,s6 _ _ (s5 _ _ hcl)]) (aq (λ_ _ z=>(z.same b2).put a6) pk)]
       ·rcases Ht.mp hW with y|y
        ·rwa[wb h0 W y]
        ·rw[D_.mp y];rwa[nX]
       ·rw[Mw,ex,L8]
        rcases FL.Keeps.step _ (v:=vec hP xs) kp with y|y
        ·rwa[absurd (y.1 p0) cz]
        ·rwa[y p0 cz]
     ·have hn:nzp cur n=[]:=by
       cases hn:nzp cur n with
       |nil=>rfl
       |cons p0 rest=>rw[hn] at h;rwa[absurd rfl h]
      erw[a' _ _ #[404037,_,_,_,_,_,_,ks,Ws,ps,Kv,ls,1,s1.trans a3,a3 _ _ hd1,aq (λ_ _ z=>z.same a3) pk,ki,(),wb,?_]]
      rw[Mw,ex,L8];erw[mJ hP kp λj=>(jA hP a8 (ay j)).mp ?_]
      by_cases Z:j<n
      ·rwa[Ma λz=>(by have:=nzp_mem.mpr #[Z,z];rw[hn] at this;cases this)]
      ·rwa[dS ()]
  ·intro σ H1 O;let#[404037,x3,x4,x5,x6,x7,x8,ks,Ws,ps,Kv,ls,1,s1,hd1,pk,ki,wl,wb,kp]:=O
   rw[lw,MZ] at kp;have lk:ks.length=Kv.length:=by
    have:=Paired.length pk;rw[length_zip,ki.l1,ki.l3,Nat.min_self] at this;rw[this,ki.l2]
   erw[62,0,d,0,.inl (SqL.of hd1),?_];show Q (.int (ks.length:Nat)) H1;rw[lk];rwa[q Kv H1 kp s1]
end
def y9:Sp:=λvs H Q _=>∃p n:Nat,vs=[.int p,.int n]/\2<=p/\p<=9973/\n<p/\Q (.int ((n^(p-2)%p:Nat):Int)) H
def y6:Sp:=λvs H Q _=>∃(P:Int) (u v:V) (x y:Int×Int),vs=[.int P,u,v]/\Gc P/\At P H u x/\At P H v y/\OkN P x/\OkN P y/\y≠(0,1)/\Sz 4300 x/\Sz 4300 y/\∀r H',Ga H H'->At P H' r (fY P x y)->Q r H'
theorem Cs(n p e i:Nat):n^(e%2^(i+1))%p=if e/2^i%2=1 then(n^(e%2^i)%p)*(n^2^i%p)%p else n^(e%2^i)%p:=by
 have h:e%2^(i+1)=e%2^i+2^i*(e/2^i%2):=by
  rw[Pe,Nat.mod_mul]
 split
 ·rename_i z;rw[h,z,Nat.mul_one,NG,Nat.mul_mod]
 ·rename_i z;rw[h,show e/2^i%2=0 by lia,Nat.mul_zero,Nat.add_zero]
theorem vY(p i:Nat)(h:2<=p):(λi j=>V.int (Builtin.bitAnd i j)) (((p:Int)-2)/2^((0:Int)+(i:Int)).toNat) 1=V.int (((p-2)/2^i%2:Nat):Int):=by
 have e:(((p:Int)-2)/2^((0:Int)+(i:Int)).toNat)=(((p-2)/2^i:Nat):Int):=by
  rw[show((0:Int)+(i:Int)).toNat=i by lia,Int.natCast_ediv,Int.natCast_pow,Int.natCast_sub h]
  rfl
 rw[e];show V.int (((((p-2)/2^i) &&& 1:Nat)):Int)=_;rw[Nat.and_one_is_mod]
section
variable [Quiet base]
theorem GM:Gb ["_law_prime_here", "_law_number_here", "_law_found", "_law_bit"] ["_law_prime_here", "_law_number_here"] (aj gq):=.i
theorem BI(F:Fun K "_law_back" "_law_back" gq f fd)(T:Blt mg):`Gd CX0 1 f fd ["_law_prime_here", "_law_number_here"] y9:=by
 erw[F.o GM λ_ _ _ _ H _ Q _ hr h=>?_]
 ·let#[24,p,n,1,h2,h9,hn,q]:=h
  erw[_,(af #[5,2,GM,ah]
(af (be Hu rfl (bU rfl T.range #[6,ah]) (aM (i:=3) GM.nd rfl #[4])
(af (aL (aw bf (ao yN (ao yy (ao cS (pv 0) ah) (pv 3)) ah) ah (au _))
(ai #[5,2,GM,(ao aZ (ao bH (pv 2) (pv 1)) (pv 0))])
aB)
(ai #[5,1,GM,(ao aZ (ao bH (pv 1) (pv 1)) (pv 0))])))
(ai (ar (pv 2))))),?_]
  erw[0,#[],#[],kg (n:=14) (λi σ H'=>∃U:Option V,σ=[some (.int p),some (.int ((n^2^i%p:Nat):Int)),some (.int ((n^((p-2)%2^i)%p:Nat):Int)),U]/\H'=H) #[none,?_,1] ?_ ?_]
  ·rw[show(2:Nat)^0=1 from rfl,Nat.mod_one,Nat.pow_one,Nat.pow_zero,Nat.mod_eq_of_lt hn,Nat.mod_eq_of_lt (():1<p)]
   rfl
  ·rintro i σ H2 hi ⟨U,rfl,rfl⟩;have l1:n^2^i%p<p:=Nat.mod_lt _ ()
   have l2:n^((p-2)%2^i)%p<p:=Nat.mod_lt _ ()
   have O:=Cs n p (p-2) i;have ps:n^2^(i+1)%p=(n^2^i%p)*(n^2^i%p)%p:=by rw[<- Nat.mul_mod,<- NG,Pe,Nat.mul_two]
   generalize n^2^i%p=a at *;generalize n^2^(i+1)%p=a' at *;generalize n^((p-2)%2^i)%p=b at *;generalize n^((p-2)%2^(i+1))%p=b' at *;erw[p7 (t:=wT _ _ _) (λσ' H'=>σ'=[some (.int p),some (.int (a:Int)),some (.int (b':Int)),some (.int (0+(i:Int)))]/\H'=H2) (λR Z=>?_) ?_]
   ·erw[62632311,0,2,0,2,(by show(0:Int)<=0+(i:Int);lia),2,1,0,bC (λh=>?_) (λh=>?_)]
    ·erw[512363,0,0,2,.inl #[(),()],0,2,(by show(0:Int)<p;lia),?_]
     erw[Z _ _ #[?_,1]];have z:(p-2)/2^i%2=1:=by
      have:=E_ h;rw[vY p i h2] at this;injection this with this
      lia
     rw[C_ z] at O;rw[O,Int.natCast_emod,MQ]
     rfl
    ·erw[Z _ _ #[?_,1]];have z:¬(p-2)/2^i%2=1:=λz=>h (by rw[vY p i h2,z];rfl)
     rw[w_ z] at O;rw[O]
     rfl
   rintro σ' H3 ⟨rfl,rfl⟩;erw[512363,0,0,2,.inl #[(),()],0,2,(by show(0:Int)<p;lia),?_]
   erw[some (.int (0+(i:Int))),?_,1];rw[ps,Int.natCast_emod,MQ]
   rfl
  ·rintro σ H2 ⟨U,rfl,rfl⟩;rw[Nat.mod_eq_of_lt (show p-2<2^14 by lia)]
   rwa[0,q]
theorem qw:Gb ["_law_prime_here", "_law_one", "_law_other"] ["_law_prime_here", "_law_one", "_law_other"] (aj gN):=.i
theorem BR(F:Fun K "_law_over" "_law_over" gN f fd)(HW:`FnB 1 "_law_low" o5)(JA:`FnB 1 "_law_back" y9):`Gd CX0 2 f fd ["_law_prime_here", "_law_one", "_law_other"] y6:=by
 erw[F.o qw λ_ _ _ _ H _ Q _ U h=>?_]
 ·let#[4019,P,u,v,x,y,1,hP,hu,hv,ox,oy,yz,sx,sy,q]:=h
  erw[_,(af (aL (aw bf (pv 0) ah (au _))
(ai (ar (az HW U.m #[6,(ao br (aC (aA K rfl) (pv 1) ah (λ_ _=>rfl)) (aC (aA K rfl) (pv 2) ah (λ_ _=>rfl))),(ao br (aC (aA K rfl) (pv 1) ah (λ_ _=>rfl)) (aC (aA K rfl) (pv 2) ah (λ_ _=>rfl)))])))
aB)
(ai (ar (ao aZ (ao bH (pv 1) (az JA U.m #[6,0,2])) (pv 0))))),?_]
  have y0:=ql oy yz;have O:(2:Nat)^4300<2^8800:=HF #[] #[]
  unfold fY at q;erw[0,1,0,bC (λh=>?_) (λh=>?_)]
  ·have h0:P=0:=by have:=E_ h;injection this
   rw[C_ h0] at q
   rcases hu with⟨_,t1,rfl,g1⟩|⟨z,_⟩
   ·rcases hv with⟨_,t2,rfl,g2⟩|⟨z,_⟩
    ·have d1:=ox.den;have Z:(x.2*y.1).natAbs<2^8800:=Hh (fQ sx.2 sy.1) (Hr #[] #[])
     erw[84842384842323,0,t1,_,2,SqT.of g1,1,0,t2,_,2,SqT.of g2,1,2,fu (MN sx.1 O) (MN sy.2 O),0,t1,_,2,SqT.of g1,1,0,t2,_,2,SqT.of g2,1,2,fu (MN sx.2 O) (MN sy.1 O),_,0,MA () y0,Z,λt nt=>?_]
     rwa[q _ _ (Ga.new nt) (.inl #[h0,t,1,ae])]
    ·rwa[absurd h0 z]
   ·rwa[absurd h0 z]
  ·have h0:P≠0:=λz=>h (q_ (LD V.int z))
   have hB:=hP.b;rw[w_ h0] at q
   rcases hu with⟨z,_⟩|⟨_,rfl,e1⟩
   ·rwa[absurd z h0]
   rcases hv with⟨z,_⟩|⟨_,rfl,e2⟩
   ·rwa[absurd z h0]
   rcases ox with⟨z,_⟩|⟨_,x1,x2,_⟩
   ·rwa[absurd z h0]
   rcases oy with⟨z,_⟩|⟨_,y1,y2,_⟩
   ·rwa[absurd z h0]
   have bl:bkN P y.1<P:=by
    unfold bkN;have:=Nat.mod_lt (y.1.toNat^(P.toNat-2)) (show 0<P.toNat by lia)
    lia
   have b0:0<=bkN P y.1:=Int.natCast_nonneg _;erw[5164,0,0,0,P.toNat,y.1.toNat,by rw[Int.toNat_of_nonneg (),Int.toNat_of_nonneg ()];rfl,(),(),(),?_]
   erw[2363,2,.inl #[(),()],0,2,(by show(0:Int)<P;lia),?_]
   rwa[q _ H (Ga.refl H) (.inr #[h0,1,1])]
end
theorem nd_7:(["_law_a", "_law_b", "_law_prime_here", "_law_by"]:List Str).Nodup:=#[5]
theorem nd_8:(["_law_place", "_law_left", "_law_prime_here"]:List Str).Nodup:=#[5]
theorem Aq{Rel:Nat->α->Prop}{row:List α}{e:α}{i:Nat}(lr:row.length=i)(rel:∀j e,row[j]? = some e->Rel j e)(re:Rel i e):∀j U,(row++[e])[j]? = some U->Rel j U:=λj U O=>by
 by_cases hj:j<row.length
 ·rw[Mh hj] at O;rwa[rel j U O]
 ·have Z:j=row.length:=by
   have:=(y_.mp O).1;rw[x_,He] at this;lia
  subst Z;simp only[OC,NO] at O;subst O;rw[lr];rwa[re]
theorem rN{σ σ0:L2.St}{P:Int}(hσ:cH src σ=σ0)(Sh:L2.St->Prop)(Rel:Nat->Int×Int->Prop)(hn:n<=60)(h0:Sh σ0)(hgo:∀i H,i<n->Ga H0 H->J.go i H)(hst:∀H,Ga H0 H->J.stop n H)(turn:∀i σ H x H' (R:L2.St->VK),i<n->Sh σ->Ga H0 H->J.yld i H x H'->(∀σ2 v y H2,Sh σ2->Ga H H2->At P H2 v y->Rel i y->R σ2 v H2)->g x σ H' λσ2 H2=>te σ2 H2 (R σ2))(hd:∀acc us ys H,H0 acc=none->Ga H0 H->H acc=some (.lst us)->Paired (At P H) us ys->ys.length=n->(∀i y,ys[i]? = some y->Rel i y)->Q (.ref acc) H):
  bZ J src g kO te σ H0 Q:=by
 erw[cc (n:=n) (σ0:=σ0) hσ (λacc i zs σ H=>Sh σ/\Ga H0 H/\∃ys,Paired (At P H) zs ys/\ys.length=i/\∀j y,ys[j]? = some y->Rel j y) (by rw[Hc];lia) (λacc O=>#[h0,Ga.new O,[],.nil,1,λj e z=>by simp at z]) ?_ ?_ ?_ ?_]
 ·rintro acc i zs σ H O hi hz ⟨_,Z,_⟩;rwa[hgo i H hi Z]
 ·rintro acc zs σ H O hz ⟨_,Z,_⟩;rwa[hst H Z]
 ·intro acc i zs σ H x H' O hi hz a3 a1 hy;let#[0212,sh,Z,ys,pr,lr,rel]:=a1
  erw[turn i σ H x H' (λσ2 y H4=>∃ys,H4 acc=some (.lst ys)/\ys.length<sizeLine/\∃zs,(upd H4 acc (.lst (ys++[y]))) acc=some (.lst zs)/\zs.length<=i+1/\Sh σ2/\Ga H0 (upd H4 acc (.lst (ys++[y])))/\∃U,Paired (At P (upd H4 acc (.lst (ys++[y])))) zs U/\U.length=i+1/\∀j e,U[j]? = some e->Rel j e) hi sh Z hy λσ2 v y H2 a4 s2 av re=>?_]
  have a2:=s2 _ _ hz;have kt:∀t xs,H2 t=some (.tup xs)->(upd H2 acc (.lst (zs++[v]))) t=some (.tup xs):=λt xs e=>by rw[ak (bD e a2 #[3])];rwa[e]
  erw[zs,a2,by rw[Hc];lia,_,ae,by rw[x_,He];lia,a4,λc o e=>?_,ys++[y],aV (av.mono kt) (aq (λ_ _ z=>(z.same s2).mono kt) pr),by rw[x_,lr];rfl,Aq lr rel re]
  rw[ak (al e O)];rwa[s2 _ _ (Z c o e)]
 ·intro acc zs σ H O hz a3 a1;let#[0212,_,Z,U,pr,lr,rel]:=a1
  rwa[hd acc zs U H O Z hz pr lr rel]
theorem pD{K':Frag}{r1 r2:Addr}{es1 es2:List V}{σ:L2.St}{P:Int}(hσ:cH src σ=none::none::rest)(Rel:Nat->Int×Int->Prop)(h1:H0 r1=some (.lst es1))(h2:H0 r2=some (.lst es2))(hl:es1.length=es2.length)(hn:es1.length<=60)(turn:∀i v1 v2 H (R:VK),es1[i]? = some v1->es2[i]? = some v2->Ga H0 H->(∀v y H2,Ga H H2->At P H2 v y->Rel i y->R v H2)->te (some v1::some v2::rest) H R)(hd:∀acc us ys H,H0 acc=none->Ga H0 H->H acc=some (.lst us)->Paired (At P H) us ys->ys.length=es1.length->(∀i y,ys[i]? = some y->Rel i y)->Q (.ref acc) H):
  bZ (Itz false false K r1 r2) src (zL K' 2 (iu (bP 0) (iu (bP 1) Bg))) kO te σ H0 Q:=
 rN hσ (λσ=>∃u v,σ=u::v::rest) Rel hn #[20,none,none,1] (λi H hi O=>#[43,es1,es2,_,_,fI (SqL.of (O _ _ h1)),fI (SqL.of (O _ _ h2)),ge hi,ge ()]) (λH O=>#[22,es1,es2,fI (SqL.of (O _ _ h1)),fI (SqL.of (O _ _ h2)),.inl (e_ _)])
  (λi σ H x H' R hi ⟨u,v,e⟩ O ⟨p,U,Z,ex,np,eH,gx,gy⟩ k=>by
   subst e ex eH;have s2:=Ga.new (o:=.tup [U,Z]) np;erw[232122,p,0,SqT.of ae,1,_,0,2,?_];rwa[turn i U Z _ (R (some U::some Z::rest)) (gx _ (fI (SqL.of (O _ _ h1)))) (gy _ (fI (SqL.of (O _ _ h2)))) (O.trans s2) λv y H2 s3=>k _ v y H2 #[20,_,0] (s2.trans s3)]) hd
theorem oY{r:Addr}{es:List V}{σ:L2.St}{P:Int}(hσ:cH src σ=none::rest)(Rel:Nat->Int×Int->Prop)(hr:H0 r=some (.lst es))(hn:es.length<=60)(turn:∀i v H (R:VK),es[i]? = some v->Ga H0 H->(∀v y H2,Ga H H2->At P H2 v y->Rel i y->R v H2)->te (some v::rest) H R)(hd:∀acc us ys H,H0 acc=none->Ga H0 H->H acc=some (.lst us)->Paired (At P H) us ys->ys.length=es.length->(∀i y,ys[i]? = some y->Rel i y)->Q (.ref acc) H):
  bZ (Itl K r) src (bP 0) kO te σ H0 Q:=
 rN hσ (λσ=>∃u,σ=u::rest) Rel hn #[none,1] (λi H hi O=>#[21,es,_,SqL.of (O _ _ hr),ge hi]) (λH O=>#[es,SqL.of (O _ _ hr),e_ _])
  (λi σ H x H' R hi ⟨u,e⟩ O ⟨U,Z⟩ k=>by
   subst e U;rwa[turn i x H' (R (some x::rest)) (Z es (SqL.of (O _ _ hr))) O λv y H2=>k _ v y H2 #[0]]) hd
theorem zD{k c:Nat}{σ:L2.St}{P:Int}{bg:Addr}{a0 b0:Int}(hσ:cH src σ=none::rest)(Rel:Int×Int->Prop)(hn:n<=60)(hb:H0 bg=some (.lst [.int a0,.int b0]))(hk:Gn a0 b0 k)(turn:∀(i:Nat) (a b:Int) H (R:VK),i<n->H bg=some (.lst [.int a,.int b])->Gn a b (k+c*i)->(∀c o,H0 c=some o->c≠bg->H c=some o)->(∀v y (a' b':Int) H2,At P H2 v y->Rel y->H2 bg=some (.lst [.int a',.int b'])->Gn a' b' (k+c*(i+1))->(∀c o,H c=some o->c≠bg->H2 c=some o)->R v H2)->te (some (.int (lo+i))::rest) H R)(hd:∀acc us ys (a b:Int) H,H0 acc=none->(∀c o,H0 c=some o->c≠bg->H c=some o)->H bg=some (.lst [.int a,.int b])->Gn a b (k+c*n)->H acc=some (.lst us)->Paired (At P H) us ys->ys.length=n->(∀y∈ys,Rel y)->Q (.ref acc) H):
  bZ (Itr lo n) src (bP 0) kO te σ H0 Q:=by
 erw[cc (n:=n) (σ0:=none::rest) hσ (λacc i zs σ H=>(∃u,σ=u::rest)/\(∀c o,H0 c=some o->c≠bg->H c=some o)/\(∃a b:Int,H bg=some (.lst [.int a,.int b])/\Gn a b (k+c*i))/\∃ys,Paired (At P H) zs ys/\ys.length=i/\∀y∈ys,Rel y) (by rw[Hc];lia) (λacc O=>#[#[0],λc o e _=>Ga.new O c o e,#[21,a0,b0,Ga.new O _ _ hb,hk],[],.nil,1,λy hy=>(nomatch hy)]) ?_ ?_ ?_ ?_]
 ·rintro acc i zs σ H O hi hz ⟨_,sm,_⟩;rwa[hi]
 ·rintro acc zs σ H O hz ⟨_,sm,_⟩;rwa[e_ _]
 ·rintro acc i zs σ H x H' O hi hz a6 ⟨⟨u,rfl⟩,sm,⟨a,b,U,Z⟩,ys,pr,lr,a1⟩ ⟨rfl,rfl⟩;have ab:acc≠bg:=λz=>by rw[z,hb] at O;cases O
  erw[turn i a b H' (λv H4=>∃ys,H4 acc=some (.lst ys)/\ys.length<sizeLine/\∃zs,(upd H4 acc (.lst (ys++[v]))) acc=some (.lst zs)/\zs.length<=i+1/\(∃u,_=u::rest)/\_) hi U Z sm λv y a' b' H2 av re a3 a4 s2=>?_]
  have a2:=s2 _ _ hz ab;have kt:∀t xs,H2 t=some (.tup xs)->(upd H2 acc (.lst (zs++[v]))) t=some (.tup xs):=λt xs e=>by rw[ak (bD e a2 #[3])];rwa[e]
  erw[zs,a2,by rw[Hc];lia,_,ae,by rw[x_,He];lia,#[0],λc o e nc=>?_,#[21,a',b',by rw[ak ab.symm];rwa[a3],a4],ys++[y],aV (av.mono kt) (aq (λ_ _ z=>(z.mono λt xs e=>s2 _ _ e (bD e U #[3])).mono kt) pr),by rw[x_,lr];rfl,λy' a5=>?_]
  ·rw[ak (al e O)];rwa[s2 _ _ (sm c o e nc) nc]
  ·rcases Ht.mp a5 with z|z
   ·rwa[a1 y' z]
   ·rw[D_.mp z];rwa[re]
 ·intro acc zs σ H O hz a6 a7;let#[0312,_,sm,#[a,b,U,Z],ys,pr,lr,a1]:=a7
  rwa[hd acc zs ys a b H O sm U Z hz pr lr a1]
def RowL{P:Int}(hP:Gc P)(n:Nat)(rows:List (List (Int×Int)))(i:Nat)(xs:List (Int×Int)):Prop:=(∃B,DP P n B xs)/\((∃B,0<B/\B<=2^210/\∀y∈xs,Rw B (2^35) y)\/(nbF hP).Sp ((rows.take i).map (vec hP)) (vec hP xs))
def vU:Sp:=λvs H Q _=>∃(l:Addr) (P:Int) (hP:Gc P) (n:Nat) (ws:List V) (rows:List (List (Int×Int))),vs=[.int P,.ref l]/\H l=some (.lst ws)/\Paired (RowN P H) ws rows/\rows.length<=6/\n<=6/\(∀(i:Nat) (xs:List (Int×Int)),rows[i]? = some xs->RowL hP n rows i xs)/\
 ∀(K:List (Nat×Vn P)) (H':Hp),(nbF hP).Keeps K (rows.map (vec hP))->Ga H H'->Q (.int K.length) H'
theorem vv{i:Nat}(h:i<=5):(6*2^245)^i<=2^1240:=by
 have h1:6*2^245<=2^248:=by rw[show(2:Nat)^248=8*2^245 by rw[<- NG 2 3 245]];rwa[LP _ #[]]
 erw[Hb (Nat.pow_le_pow_left h1 _) ?_];rw[<- Nat.pow_mul];rwa[Hr #[] ()]
theorem cq{a b i k:Nat}(h1:a<=2^i)(h2:b<=2^j)(h:i+j<=k):a*b<=2^k:=by
 erw[Hb (OW h1 h2) ?_];rw[<- NG];rwa[Hr #[] h]
theorem ig{a i k:Nat}(h1:a<=2^i)(h:i<k):a<2^k:=Lk h1 (HF #[] h)
theorem LL.all{P:Int}(hP:Gc P){K:List (Nat×Vn P)}(h0:P=0)(hK:LK hP n X0 L0 Ws ps es K){V:Vz}{v:Vn P}(h:LL hP n Ws ps K V e v 0):∀i,i<=Ws.length->LL hP n Ws ps K V e v i
 |0,_=>h
 |i+1,hi=>(LL.all hP h0 hK h i ()).step hP h0 hK (ge ()) (ge (by have:=hK.l1;lia)) (ge (by have:=hK.l3;lia)) (ge (by have:=hK.l2;lia))
theorem sz41{P:Int}(hP:Gc P){K:List (Nat×Vn P)}(h0:P=0)(hK:LK hP n (2^245) (2^210) Ws ps es K)(hl:Ws.length<=5){V:Vz}{f:Int}{v:Vn P}{i p:Nat}{k:Nat×Vn P}(h:LL hP n Ws ps K V e v i)(hV:∀c,(V c).natAbs<=2^1313)(he:e≠0/\e.natAbs<=2^1260)(eW:Ws[i]? = some W)(ep:ps[i]? = some p)(ee:es[i]? = some f)(eK:K[i]? = some k)(hj:j<n):
  Sz 2557 ((nbF hP).clear (K.take i) v j).1/\Sz 1489 (k.2 j).1/\Sz 4045 ((nb hP).mul ((nbF hP).div ((nbF hP).clear (K.take i) v p) (k.2 p)) (k.2 j)).1:=by
 have hi:i<Ws.length:=(y_.mp eW).1
 let#[03,k1,k2,k3,k4]:=hK.at_ i W p f k eW ep ee eK
 have f1:=hK.L f (GY ee);have O:=hK.D i ()
 have D1:=hK.D (i+1) ()
 have U:(Dt Ws ps i).natAbs<=2^1240:=Hb (zd hK.l1 () () hK.X) (vv ())
 have d1:(Dt Ws ps (i+1)).natAbs<=2^1240:=Hb (zd hK.l1 () () hK.X) (vv ())
 have Z:6<=2^3:=#[]
 have lw:∀j,(Lf Ws ps W i j).natAbs<=2^1488:=λj=>Hb (Bb hK.l1 () () hK.X (hK.X W (GY eW)) j) (cq (cq Z (e_ (2^245)) (#[]:3+245<=248)) (vv ()) #[])
 have lv:∀j,(Lf Ws ps V i j).natAbs<=2^2556:=λj=>Hb (Bb hK.l1 () () hK.X hV j) (cq (cq Z (e_ (2^1313)) (#[]:3+1313<=1316)) (vv ()) #[])
 erw[pN hP h0 (MA O he.1) (h j hj).symm (ig (lv j) #[]) ?_,pN hP h0 (MA O f1.1) (k3 j hj).symm (ig (lw j) #[]) ?_,pN hP h0 (MA O (MA D1 he.1)) (hK.off hP h0 h eW ep ee eK j hj) ?_ ?_]
 ·rw[J_];rwa[ig (cq U he.2 (e_ _)) #[]]
 ·rw[J_];rwa[ig (cq U f1.2 (e_ _)) #[]]
 ·rw[J_];rwa[ig (cq (lv p) (lw j) (e_ _)) #[]]
 ·rw[J_,J_];rwa[ig (cq U (cq d1 he.2 (e_ _)) (e_ _)) #[]]
def wh(B:Nat)(xs:List (Int×Int)):List Int:=xs.map λy=>y.1*((B/y.2.natAbs:Nat):Int)
theorem zY{P:Int}(h:∀y∈xs,OkN P y/\Rw B M y)(j:Nat)(y:Int×Int)(z:Int)(ey:xs[j]? = some y)(O:(wh B xs)[j]? = some z):z*y.2=y.1*B:=by
 unfold wh at O;rw[Hx,ey] at O
 let#[03,_,y0,yB,_]:=h y (GY ey)
 have O:y.1*((B/y.2.natAbs:Nat):Int)=z:=by injection O
 let#[c,U]:=yB;rw[<- O,Nv];congr 1;rw[U,Nat.mul_div_cancel_left _ (),MQ,MU (),Qx]
theorem CO{P:Int}(h:∀y∈xs,OkN P y/\Rw B M y)(c:Nat):(vz (wh B xs) c).natAbs<=M*B:=by
 by_cases U:c<xs.length
 ·have O:c<(wh B xs).length:=by unfold wh;rw[z_];rwa[U]
  have r:=zY h c _ _ (ge U) (ge O)
  let#[03,_,e1,_,e2]:=h _ (NX U)
  rw[fh O];have r:=LD Int.natAbs r;rw[J_,J_,HM] at r;have h1:=LP B e2;rw[<- r,Nat.mul_right_comm] at h1;rwa[Nat.le_of_mul_le_mul_right h1 ()]
 ·rw[dS (by unfold wh;rw[z_];lia)]
  rwa[Hj _]
theorem ll0{P:Int}(hP:Gc P)(h:∀y∈xs,OkN P y/\Rw B M y)(Ws:List Vz)(ps:List Nat)(K:List (Nat×Vn P)):LL hP n Ws ps K (vz (wh B xs)) B (vec hP xs) 0:=λj _=>by
 rw[uO,Dt_zero,Int.one_mul];rwa[yq hP (λy O=>(h y O).1) (by unfold wh;rw[z_]) (zY h) j]
theorem zv{P:Int}(hP:Gc P)(h0:P≠0)(o:OkN P y):Sz 4300 y:=by
 have O:=hP.b
 rcases o with⟨z,_⟩|⟨_,h1,h2,h3⟩
 ·rwa[absurd z h0]
 ·have:Sz 14 y:=#[(),by rw[h3];decide]
  rwa[this.mono #[]]
theorem zR{P:Int}{k:Nat}(h0:P=0)(h:Sz k y):Sz k (ij P y):=by
 unfold ij;rw[C_ h0];erw[?_,h.2];have:=h.1;show(0-y.1).natAbs<_;(rw [Int.zero_sub,Int.natAbs_neg];assumption)
noncomputable def kv {P:Int} (hP:Gc P) (qs:List (Nat×List (Int×Int))):List (Nat×Vn P):=qs.map λq=>(q.1,vec hP q.2)
def KpN(P:Int)(d:Addr)(H:Hp)(v:V)(q:Nat×List (Int×Int)):Prop:=∃t l us,v=.ref t/\l≠d/\H t=some (.tup [.int q.1,.ref l])/\H l=some (.lst us)/\Paired (At P H) us q.2
theorem KpN.same{P:Int}{d:Addr}(s:Ga H H')(h:KpN P d H v q):KpN P d H' v q:=by
 let#[34,t,l,us,e,n,h1,h2,h3]:=h
 rwa[34,t,l,us,e,n,s _ _ h1,s _ _ h2,aq (λ_ _ z=>z.same s) h3]
theorem KpN.put{P:Int}{d:Addr}{xs ys:List V}(hd:H d=some (.lst xs))(h:KpN P d H v q):KpN P d (upd H d (.lst ys)) v q:=by
 let#[34,t,l,us,e,n,h1,h2,h3]:=h
 have U:∀t O,H t=some (.tup O)->(upd H d (.lst ys)) t=some (.tup O):=λt O e=>by rw[ak (bD e hd #[3])];rwa[e]
 rwa[34,t,l,us,e,n,U _ _ h1,by rw[ak n];rwa[h2],aq (λ_ _ z=>z.mono U) h3]
def clN(P:Int)(p:Nat)(l o:List (Int×Int))(j:Nat):Int×Int:=bT P (l.getD j (0,1)) (bV P (ij P (fY P (l.getD p (0,1)) (o.getD p (0,1)))) (o.getD j (0,1)))
theorem cr{P:Int}(hP:Gc P){m:List (Int×Int)}(lm:m.length=n)(om:∀y∈m,OkN P y)(hj:j<n):(vec hP m j).1=m.getD j (0,1):=by
 have e:m[j]? = some m[j]:=ge ()
 rw[qe hP e (om _ (NX _))];simp[List.getD,e]
theorem Ep{P:Int}(hP:Gc P){p:Nat}{l o:List (Int×Int)}(ll:l.length=n)(lo:o.length=n)(hp:p<n)(hj:j<n)(ol:∀y∈l,OkN P y)(oo:∀y∈o,OkN P y)(np:vec hP o p≠(nb hP).zero):OkN P (clN P p l o j):=by
 have op:(vec hP o p).1≠(0,1):=λz=>np (Mi z)
 unfold clN;rw[<- cr hP ll ol hj,<- cr hP ll ol hp,<- cr hP lo oo hp,<- cr hP lo oo hj];rwa[i6 hP.b.1 (vec hP l j).2 (ie hP.b.1 (hJ hP.b.1 (fN hP (vec hP l p).2 (vec hP o p).2 op)) (vec hP o j).2)]
theorem Cu{P:Int}(hP:Gc P){x y:Nb P}(h:y.1≠(0,1)):((nbF hP).div x y).1=fY P x.1 y.1:=by
 show(if h:y.1≠(0,1) then(#[fY P x.1 y.1,fN hP x.2 y.2 h]:Nb P) else(nb hP).zero).1=_
 rw[dif_pos h]
theorem yR{P:Int}(hP:Gc P)(hx:OkN P x)(hy:OkN P y):bV P (ij P x) y=ij P (bV P x y):=LD Subtype.val ((nbF hP).neg_mul #[x,hx] #[y,hy])
theorem dE{R:V->Int×Int->Prop}{m:List (Int×Int)}(h:Paired R us m)(hj:j<m.length):∃u,us[j]? = some u/\R u (m.getD j (0,1)):=by
 have e:us[j]? = some (us[j]'(by rw[Paired.length h];rwa[hj])):=ge _
 let#[y,O,r]:=aD h e;erw[_,e,?_];rw[show m.getD j (0,1)=y by simp[List.getD,O]]
 rwa[r]
theorem fV{P:Int}{m:List (Int×Int)}(om:∀y∈m,OkN P y)(hj:j<m.length):OkN P (m.getD j (0,1)):=by
 rw[show m.getD j (0,1)=m[j] by simp[List.getD,ge hj]]
 rwa[om _ (NX hj)]
theorem Ex{P:Int}(hP:Gc P){p:Nat}{l o zs:List (Int×Int)}(ll:l.length=n)(lo:o.length=n)(lz:zs.length=n)(hp:p<n)(ol:∀y∈l,OkN P y)(oo:∀y∈o,OkN P y)(np:vec hP o p≠(nb hP).zero)(h:∀j y,zs[j]? = some y->y=clN P p l o j):vec hP zs=(nbF hP).red (vec hP o) p (vec hP l):=by
 have at_:∀{m:List (Int×Int)} {j:Nat},m.length=n->(∀y∈m,OkN P y)->j<n->(vec hP m j).1=m.getD j (0,1):=λ{m j} lm Z O=>by
  have e:m[j]? = some m[j]:=ge ()
  rw[qe hP e (Z _ (NX _))];simp[List.getD,e]
 funext j
 by_cases O:j<n
 ·have e:zs[j]? = some zs[j]:=ge ()
  have U:=h j _ e;have op:(vec hP o p).1≠(0,1):=λz=>np (Mi z)
  have ok:OkN P zs[j]:=by
   rw[U];unfold clN;rw[<- at_ ll ol O,<- at_ ll ol hp,<- at_ lo oo hp,<- at_ lo oo O];rwa[i6 hP.b.1 (vec hP l j).2 (ie hP.b.1 (hJ hP.b.1 (fN hP (vec hP l p).2 (vec hP o p).2 op)) (vec hP o j).2)]
  rw[qe hP e ok];erw[Mi ?_];show zs[j]=((nb hP).add (vec hP l j) ((nb hP).mul ((nbF hP).neg (if h:(vec hP o p).1≠(0,1) then#[fY P (vec hP l p).1 (vec hP o p).1,fN hP (vec hP l p).2 (vec hP o p).2 h] else(nb hP).zero)) (vec hP o j))).1
  rw[dif_pos op,U];show clN P p l o j=bT P (vec hP l j).1 (bV P (ij P (fY P (vec hP l p).1 (vec hP o p).1)) (vec hP o j).1);unfold clN;rw[at_ ll ol O,at_ ll ol hp,at_ lo oo hp,at_ lo oo O]
 ·rw[jb hP ()]
  show(nb hP).zero=(nb hP).add (vec hP l j) ((nb hP).mul _ (vec hP o j));rw[jb hP (xs:=l) (j:=j) (),jb hP (xs:=o) (j:=j) (),CS.mul_zero,CS.add_zero]
def nzq(l:List (Int×Int))(n:Nat):List Nat:=(List.range n).filter λj=>!decide (l.getD j (0,1)=(0,1))
theorem Az(l:List (Int×Int))(j:Nat):nzq l (j+1)=nzq l j++if (!decide (l.getD j (0,1)=(0,1)))=true then[j] else[]:=by
 unfold nzq;rw[range_succ,filter_append];congr 1;simp only[List.filter_cons,List.filter_nil]
theorem nzq_mem{l:List (Int×Int)}{p:Nat}:p∈nzq l n↔p<n/\l.getD p (0,1)≠(0,1):=by
 unfold nzq;rw[mem_filter,mem_range];erw[and_congr Iff.rfl #[λh z=>?_,λh=>?_]]
 ·rw[z] at h;cases h
 ·rw[GN h]
  rfl
theorem Bd{P:Int}(hP:Gc P){K:List (Nat×Vn P)}{vs:List (Vn P)}{v:Vn P}(h:(nbF hP).Keeps K vs)(hv:(nbF hP).Sp vs v)(j:Nat):(nbF hP).clear K v j=(nb hP).zero:=by
 have h1:(nbF hP).Sp (K.map (·.2)) v:=hv.trans _ h.2.1;let#[w,hw,e]:=(nbF hP).clear_sp (K:=K) (v:=v);have h2:(nbF hP).Sp (K.map (·.2)) ((nbF hP).clear K v):=(h1.add _ (hw.mul _ ((nbF hP).neg (nbF hP).one))).eq _ λj=>by
  show(nbF hP).clear K v j=(nbF hP).add (v j) ((nbF hP).mul ((nbF hP).neg (nbF hP).one) (w j));rw[e j,(nbF hP).neg_mul,(nbF hP).one_mul,(nbF hP).add_comm (w j),(nbF hP).add_assoc,(nbF hP).add_neg];exact(CS.add_zero _ _).symm
 rwa[FL.tri_zero _ h.1 h2 (λq O=>(nbF hP).clear_at h.1 q O) j]
section
variable [Quiet base]
theorem Gz:Gb ["_law_prime_here", "_law_rows", "_law_kept_here", "_law_row", "_law_left", "_law_place", "_law_other", "_law_by", "_law_places"] ["_law_prime_here", "_law_rows"] (aj gI):=.i
set_option maxHeartbeats 1000000 in
theorem yO(F:Fun K "_law_rank" "_law_rank" gI f fd)(T:Blt mg)(Ir:`FnB 2 "_law_plus" (oH bT))(Ig:`FnB 2 "_law_times" (oH bV))(JB:`FnB 1 "_law_less" yh)(JC:`FnB 2 "_law_over" y6)(Ih:`FnB 1 "_law_nought" mO):`Gd CX0 3 f fd ["_law_prime_here", "_law_rows"] vU:=by
 erw[F.o Gz λ_ _ _ _ H _ Q _ hr h=>?_]
 ·let#[l,P,hP,n,ws,rows,1,hl,pr,r6,n6,c5,q]:=h;have hB:=hP.b;erw[_,(af #[5,2,Gz,(aX ag)]
(af (be Hu rfl (aG K rfl (pv 1)) (aM (i:=3) Gz.nd rfl #[4])
(af (am (i:=4) Gz.nd rfl (Or.inr rfl) (jg K T (pv 3)))
(af (be Hu rfl (aG K rfl (pv 2)) (bx K (i:=5) (j:=6) rfl rfl Gz.nd rfl rfl rfl rfl)
(af (am (i:=7) Gz.nd rfl (Or.inr rfl) (az JB hr.m #[6,0,(az JC hr.m #[6,0,(aC (aH K rfl) (pv 4) (pv 5) (λ_ _=>rfl)),(aC (aH K rfl) (pv 6) (pv 5) (λ_ _=>rfl))])]))
(ai (am (i:=4) Gz.nd rfl (Or.inr rfl) #[9,aR (N:=["_law_a", "_law_b", "_law_prime_here", "_law_by"]) (src:=[none,none,some 0,some 7]) rfl rfl rfl #[9,qo K false false rfl rfl T.zip #[6,4,6]] (λ_ _ _=>by rwa[by exact(bx K (i:=0) (j:=1) rfl rfl nd_7 rfl rfl rfl rfl),aO,by exact(az Ir hr.m #[6,2,0,(az Ig hr.m #[6,2,3,1])])])]))))
(af (dD (i:=8) Gz.nd rfl #[4] (N:=["_law_place", "_law_left", "_law_prime_here"]) (src:=[none,some 4,some 0]) rfl rfl rfl #[9,bU rfl T.range #[6,(bY K T (pv 4))]] (λ_ _ _=>by rwa[by exact(bL (i:=0) nd_8 rfl rfl),(eR (aw (zK K rfl hr.units) (aC (aH K rfl) (pv 1) (pv 0) (λ_ _=>rfl)) (az Ih hr.m #[6,2]) (au _))),by exact(pv 0)]))
(ai (aL (aw (zK K rfl hr.units) (pv 8) (aX ag) (au _))
(ai (cA (bmA K rfl (pv 2) #[6,(aN #[6,(aC (aH K rfl) (pv 8) ah (λ_ _=>rfl)),4])])))
aB))))))
(ai (ar (bY K T (pv 2)))))),?_]
  have lw:ws.length=rows.length:=Paired.length pr;erw[Hj _,λd hd=>?_]
  have s0:=Ga.new (o:=.lst []) hd;have hd0:(upd H d (.lst [])) d=some (.lst []):=ae;generalize upd H d (.lst [])=H0 at *;erw[52,0,l,1,#[_,SqL.of (s0 _ _ hl)],bw (xs:=ws) (λi σ H'=>∃(x3 x4 x5 x6 x7 x8:Option V) (ks:List V) (qs:List (Nat×List (Int×Int))),σ=[some (.int P),some (.ref l),some (.ref d),x3,x4,x5,x6,x7,x8]/\Ga H H'/\H' d=some (.lst ks)/\Paired (KpN P d H') ks qs/\qs.length<=i/\(∀q∈qs,q.1<n/\q.2.length=n/\(∀y∈q.2,OkN P y)/\vec hP q.2 q.1≠(nb hP).zero)/\(P=0->∃Ws es,LK hP n (2^245) (2^210) Ws (qs.map (·.1)) es (kv hP qs))/\(nbF hP).Keeps (kv hP qs) ((rows.take i).map (vec hP))) ?_ ?_ ?_ ?_]
  ·rwa[4049,none,none,none,none,none,none,[],[],1,s0,hd0,.nil,Hj _,λq hq=>(nomatch hq),λ_=>#[20,[],[],LK.nil hP n _ _],trivial,λv hv=>by simp at hv,λq hq=>(nomatch hq)]
  ·intro i σ H' _ O;let#[4042,x3,x4,x5,x6,x7,x8,ks,qs,1,sm,_]:=O
   rwa[SqL.of (sm _ _ hl)]
  ·intro i v σ H1 hv O N0 C0 b3;let#[4047,x3,x4,x5,x6,x7,x8,ks,qs,1,s1,hd1,pk,wl,okq,lk,kp]:=O
   let#[62,xs,ex,o,us,1,ho,pu]:=aD pr hv
   have hi:i<rows.length:=(y_.mp ex).1;let#[#[B,xl,B0,B1,a'],bg]:=c5 i xs ex;have lu:us.length=xs.length:=Paired.length pu;have c4:ks.length=qs.length:=Paired.length pk;erw[62,0,o,us,1,.inl (SqL.of (s1 _ _ ho)),λdl b8=>?_]
   have s2:=Ga.new (o:=.lst us) b8;have bv:(upd H1 dl (.lst us)) dl=some (.lst us):=ae;generalize upd H1 dl (.lst us)=H2 at *;erw[52,0,d,1,#[_,SqL.of (s2 _ _ hd1)],bw (xs:=ks) (λk σ H'=>∃(x5 x6 x7:Option V) (cl:Addr) (cu:List V) (cur:List (Int×Int)),σ=[some (.int P),some (.ref l),some (.ref d),some (.ref o),some (.ref cl),x5,x6,x7,x8]/\Ga H1 H'/\H1 cl=none/\H' cl=some (.lst cu)/\Paired (At P H') cu cur/\cur.length=n/\(∀y∈cur,OkN P y)/\vec hP cur=(nbF hP).clear ((kv hP qs).take k) (vec hP xs)) ?_ ?_ ?_ ?_]
   ·rwa[4027,x5,x6,x7,dl,us,xs,1,s2,b8,bv,aq (λ_ _ z=>(z.same s1).same s2) pu,xl,λy hy=>(a' y hy).1,1]
   ·intro k σ H' _ O;let#[4022,x5,x6,x7,cl,cu,cur,1,sm,_]:=O
    rwa[SqL.of (sm _ _ hd1)]
   ·intro k v σ H3 bz O N1 C1 bt;let#[4027,x5,x6,x7,cl,cu,cur,1,s3,ncl,hcl,pc,cn,okc,vc]:=O
    let#[74,q',eq,t,la,ou,1,_,ht,a6,po]:=aD pk bz
    let#[03,q1,q2,q3,q4]:=okq q' (GY eq)
    have ht:=s3 _ _ ht;have a6:=s3 _ _ a6;have po:=aq (λ_ _ (z:At P H1 _ _)=>z.same s3) po
    have c3:cu.length=cur.length:=Paired.length pc;have c9:ou.length=q'.2.length:=Paired.length po;have eK:(kv hP qs)[k]? = some (q'.1,vec hP q'.2):=by unfold kv;rw[Hx,eq];rfl
    have op:(vec hP q'.2 q'.1).1≠(0,1):=λz=>q4 (Mi z)
    have og:q'.2.getD q'.1 (0,1)≠(0,1):=by rw[<- cr hP q2 q3 q1];rwa[op]
    have av:=fV okc (show q'.1<cur.length by lia)
    have ay:=fV q3 (show q'.1<q'.2.length by lia)
    have a9:=fN hP av ay og;have bb:∀j,j<n->Sz 4300 (cur.getD j (0,1))/\Sz 4300 (q'.2.getD j (0,1))/\Sz 4300 (fY P (cur.getD q'.1 (0,1)) (q'.2.getD q'.1 (0,1)))/\Sz 4300 (bV P (ij P (fY P (cur.getD q'.1 (0,1)) (q'.2.getD q'.1 (0,1)))) (q'.2.getD j (0,1))):=λj hj=>by
     have oj:=fV okc (show j<cur.length by lia)
     have oo:=fV q3 (show j<q'.2.length by lia)
     by_cases h0:P=0
     ·let#[Ws,es,hK]:=lk h0;have c6:Ws.length=qs.length:=by rw[<- hK.l2];unfold kv;rw[z_]
      have kq:k<qs.length:=(y_.mp eq).1;have ep:(qs.map (·.1))[k]? = some q'.1:=by rw[Hx,eq];rfl
      have L:=LL.all hP h0 hK (ll0 hP a' Ws (qs.map (·.1)) (kv hP qs)) k ()
      have hV:∀c,(vz (wh B xs) c).natAbs<=2^1313:=λc=>Hb (CO a' c) (cq (e_ _) B1 #[])
      have S:=λ{j:Nat} (hj:j<n)=>sz41 hP h0 hK () L hV #[(),by rw[HM];rwa[B1]] (ge ()) ep (ge (by have:=hK.l3;lia)) eK hj
      rw[<- vc] at S;let#[a1,a2,a3]:=S hj;let#[b1,b2,_]:=S q1;rw[cr hP cn okc hj] at a1;rw[cr hP cn okc q1] at b1;have a2:Sz 1489 (vec hP q'.2 j).1:=a2;have b2:Sz 1489 (vec hP q'.2 q'.1).1:=b2;rw[cr hP q2 q3 hj] at a2;rw[cr hP q2 q3 q1] at b2;have a3:Sz 4045 (bV P ((nbF hP).div (vec hP cur q'.1) (vec hP q'.2 q'.1)).1 (vec hP q'.2 j).1):=a3;rw[Cu hP op,cr hP cn okc q1,cr hP q2 q3 q1,cr hP q2 q3 hj] at a3;erw[a1.mono #[],a2.mono #[],?_,?_]
      ·unfold fY;rw[C_ h0];have d1:=av.den;rwa[tf (MA () (ql ay og)) (Hh (fQ b1.1 b2.2) (Hr #[] #[])) (Hh (fQ b1.2 b2.1) (Hr #[] #[]))]
      ·rw[yR hP a9 oo];exact(zR h0 a3).mono #[]
     ·rwa[zv hP h0 oj,zv hP h0 oo,zv hP h0 a9,zv hP h0 (ie hB.1 (hJ hB.1 a9) oo)]
    let#[c1,bo,bd]:=dE pc (show q'.1<cur.length by lia)
    let#[o1,bp,bi]:=dE po (show q'.1<q'.2.length by lia)
    let#[03,z1,z2,z3,_]:=bb q'.1 q1
    erw[232122,t,0,SqT.of ht,1,_,0,2,?_];erw[51514451444019,0,0,0,0,cl,_,_,c1,1,1,SqL.of hcl,bN bo,0,0,la,_,_,o1,1,1,SqL.of a6,bN bp,P,c1,o1,_,0,hP,bd,bi,av,ay,og,z1,z2,λr4 H4 s4 a4=>?_]
    erw[33,P,r4,0,hP,a4,λr5 H5 s5 a5=>?_]
    have U:=s4.trans s5;have ax:=hJ hB.1 a9;have c7:Sz 4300 (ij P (fY P (cur.getD q'.1 (0,1)) (q'.2.getD q'.1 (0,1)))):=by
     by_cases h0:P=0
     ·rwa[zR h0 z3]
     ·rwa[zv hP h0 ax]
    erw[5123,0,0,cl,la,1,#[_,fI (SqL.of (U _ _ hcl))],#[_,fI (SqL.of (U _ _ a6))],pD (P:=P) (rest:=[some (.int P),some r5]) rfl (λj y=>y=clN P q'.1 cur q'.2 j) (U _ _ hcl) (U _ _ a6) () () (λj v1 v2 H6 R e1 e2 s6 kk=>?_) (λacc zu zs H6 b7 s6 hz pz lz b'=>?_)]
    ·have hj:j<n:=by have:=(y_.mp e1).1;lia
     let#[u1,g1,w1]:=dE pc (show j<cur.length by lia)
     let#[u2,g2,w2]:=dE po (show j<q'.2.length by lia)
     rw[e1] at g1;rw[e2] at g2;cases g1;cases g2
     let#[03,y1,y2,_,y4]:=bb j hj
     have oj:=fV okc (show j<cur.length by lia)
     have oo:=fV q3 (show j<q'.2.length by lia)
     erw[515198,0,0,0,0,0,P,r5,v2,_,0,hP,a5.same s6,w2.same (U.trans s6),ax,oo,c7,y2,λr7 H7 s7 a7=>?_]
     rwa[4018,P,v1,r7,_,0,hP,(w1.same (U.trans s6)).same s7,a7,oj,ie hB.1 ax oo,y1,y4,λr8 H8 s8 a8=>kk r8 _ H8 (s7.trans s8) a8 rfl]
    ·have ac:=s3.trans (U.trans s6);erw[bt _ _ #[4027,_,_,_,acc,zu,zs,1,ac,(s3.trans U).free b7,hz,pz,(),λy hy=>?_,?_]]
     ·let#[j,hj,1]:=Ol.mp hy;rw[b' j _ (ge hj)];rwa[Ep hP cn q2 q1 () okc q3 q4]
     ·rw[iD hP eK,<- vc];rwa[Ex hP cn q2 () q1 okc q3 q4 b']
   ·intro σ H3 O;let#[4027,x5,x6,x7,cl,cu,cur,1,s3,ncl,hcl,pc,cn,okc,vc]:=O
    have c3:cu.length=cur.length:=Paired.length pc;rw[show(kv hP qs).take ks.length=kv hP qs by rw[c4,<- show(kv hP qs).length=qs.length by unfold kv;rw[z_]];rwa[MZ ..]] at vc
    erw[6213,0,cl,0,.inl (SqL.of hcl),0,by show -(2^62)<=((cu.length:Nat):Int);lia,by show((cu.length:Nat):Int)<2^62;lia,cc (n:=n) (σ0:=[none,some (.ref cl),some (.int P)]) rfl (λacc i ws σ H'=>∃(u:Option V),σ=[u,some (.ref cl),some (.int P)]/\Ga H3 H'/\ws=((nzq cur i).map λj:Nat=>(j:Int)).map V.int) (by rw[Hc];lia) (λacc Z=>#[none,1,Ga.new Z,1]) ?_ ?_ ?_ ?_]
    ·intro acc j zs σ H' Z hj hz O;let#[12,u,1,sm,_]:=O
     show j<((cu.length:Nat):Int).toNat;lia
    ·intro acc zs σ H' Z hz O;let#[12,u,1,sm,_]:=O
     show((cu.length:Nat):Int).toNat<=n;lia
    ·rintro acc j zs σ H' x' H4 Z hj hz c2 ⟨u,rfl,sm,rfl⟩ ⟨rfl,rfl⟩;let#[u1,g1,w1]:=dE pc (show j<cur.length by lia)
     have oj:=fV okc (show j<cur.length by lia)
     have nj:=Az cur j;erw[514452,0,0,cl,_,_,u1,1,1,SqL.of (sm _ _ hcl),(by rw[Int.zero_add];rwa[bN g1]),0,P,1,hP,λr8 H8 s8 a8=>?_]
     erw[2411,dN P (cur.getD j (0,1)),dN P (0,1),vE ((w1.same sm).same s8),vE a8,ia _ _,ia _ _,0,?_];rw[vB oj (dG hB.1 hB.2.2)];have b6:=s8 _ _ hz;erw[bC (λh=>?_) (λh=>?_)]
     ·rw[C_ h] at nj;erw[521212,0,_,b6,by rw[Hc];lia,_,ae,by rw[x_,He];lia,0,(sm.trans s8).put Z,?_]
      rw[nj,L8,L8,Int.zero_add]
      rfl
     ·rw[w_ h,Pg] at nj;rwa[_,b6,(),0,sm.trans s8,by rw[nj]]
    ·intro pl zs σ H4 c8 c0 c2 O;let#[12,u,1,s4,1]:=O
     erw[0,Hj _,λem b5=>?_]
     have s5:=s4.trans (Ga.new (o:=.lst []) b5);have h5:(upd H4 em (.lst [])) em=some (.lst []):=ae;have ap:=(Ga.new (o:=.lst []) b5) _ _ c0;generalize upd H4 em (.lst [])=H5 at *;have U:=s3.trans s5;have vg:∀j,j<n->(cur.getD j (0,1)=(0,1)↔(nbF hP).clear (kv hP qs) (vec hP xs) j=(nb hP).zero):=λj hj=>by
      rw[<- vc,<- cr hP cn okc hj];rwa[λz=>Mi z,λz=>LD Subtype.val z]
     erw[2411,dIL _,dIL [],.lst (SqL.of ap) (jm _),.lst (SqL.of h5) .nil,ib _,ib _,0,bC (λh=>?_) (λh=>?_)]
     ·cases hn:nzq cur n with
      | nil=>rw[hn] at h;rwa[absurd h #[]]
      | cons p0 rest=>
       let#[pn,pz]:=nzq_mem.mp (show p0∈nzq cur n by rw[hn];rwa[LN ..])
       rw[hn] at ap;have cz:(nbF hP).clear (kv hP qs) (vec hP xs) p0≠(nb hP).zero:=λz=>pz ((vg p0 pn).mpr z)
       have b4:=U _ _ hd1;erw[128412,0,(.inl #[1,_,SqL.of b4]),0,pl,_,_,.int (p0:Int),1,1,SqL.of ap,bN (j:=0) rfl,0,(by show 2<=sizeLine;decide),λt nt=>?_]
       have s6:=Ga.new (o:=.tup [.int (p0:Int),.ref cl]) nt;have h6:(upd H5 t (.tup [.int (p0:Int),.ref cl])) t=some (.tup [.int (p0:Int),.ref cl]):=ae;generalize upd H5 t (.tup [.int (p0:Int),.ref cl])=H6 at *;have ac:=U.trans s6;have ad:=s6 _ _ b4;erw[34,d,ks,0,1,ad,by rw[Hc];lia,?_]
       have ek:kv hP (qs++[(p0,cur)])=kv hP qs++[(p0,(nbF hP).clear (kv hP qs) (vec hP xs))]:=by
        unfold kv at vc ⊢;rw[L8,<- vc]
        rfl
       erw[b3 _ _ #[4047,_,_,_,_,_,_,ks++[.ref t],qs++[(p0,cur)],1,(s1.trans ac).put hd,ae,?_,by rw[x_,He];lia,λq hq=>?_,λh0=>?_,?_]]
       ·rwa[aV (KpN.put ad #[34,t,cl,cu,1,λz=>(by rw[z,hd1] at ncl;cases ncl),h6,s6 _ _ (s5 _ _ hcl),aq (λ_ _ z=>(z.same s5).same s6) pc]) (aq (λ_ _ z=>(z.same ac).put ad) pk)]
       ·rcases Ht.mp hq with y|y
        ·rwa[okq q y]
        ·rw[D_.mp y];rwa[pn,cn,okc,by rw[vc];rwa[cz]]
       ·let#[Ws,es,hK]:=lk h0;have c6:Ws.length=qs.length:=by rw[<- hK.l2];unfold kv;rw[z_]
        rcases bg with⟨C,C0,C1,okC⟩|sp
        ·have b9:∀y∈xs,OkN P y/\Rw C (2^35) y:=λy hy=>#[(a' y hy).1,okC y hy]
         have L:=LL.all hP h0 hK (ll0 hP b9 Ws (qs.map (·.1)) (kv hP qs)) Ws.length (e_ _);rw[ek,L8];rwa[20,_,_,LK.snoc hP h0 hK L pn (λc=>Hb (CO b9 c) (cq (e_ _) C1 #[])) #[(),by rw[HM];rwa[C1]] cz]
        ·rwa[absurd (Bd hP kp sp p0) cz]
       ·rw[Mw,ex,L8,ek]
        rcases FL.Keeps.step _ (v:=vec hP xs) kp with y|y
        ·rwa[absurd (y.1 p0) cz]
        ·rwa[y p0 cz]
     ·have hn:nzq cur n=[]:=by
       cases hn:nzq cur n with
       |nil=>rfl
       |cons p0 rest=>rw[hn] at h;rwa[absurd rfl h]
      erw[b3 _ _ #[4047,_,_,_,_,_,_,ks,qs,1,s1.trans U,U _ _ hd1,aq (λ_ _ z=>z.same U) pk,(),okq,lk,?_]]
      rw[Mw,ex,L8];erw[mJ hP kp λj=>?_]
      by_cases hj:j<n
      ·refine(vg j hj).mp (Ma λz=>?_)
       have:=nzq_mem.mpr #[hj,z];rw[hn] at this;cases this
      ·rw[<- vc];rwa[jb hP ()]
  ·intro σ H1 O;let#[4047,x3,x4,x5,x6,x7,x8,ks,qs,1,s1,hd1,pk,wl,okq,lk,kp]:=O
   rw[lw,MZ] at kp;have lk:ks.length=(kv hP qs).length:=by
    unfold kv;rw[z_];rwa[Paired.length pk]
   erw[62,0,d,0,.inl (SqL.of hd1),?_];show Q (.int (ks.length:Nat)) H1;rw[lk];rwa[q _ H1 kp s1]
end
def At0(v:V)(d:PyData):Prop:=(∃i:Int,v=.int i/\d=.int i/\i.natAbs<2^30)\/(∃b,v=.bl b/\d=.bool b)\/(v=.non/\d=.none)\/∃x,v=.str x/\d=.str x/\(PyData.str x).canLay0=true
def Dv(p:List Addr)(H:Hp):Nat->V->PyData->Prop
 |0,v,d=>At0 v d
 |n+1,v,d=>At0 v d\/(∃a us ds,v=.ref a/\d=.list ds/\a∉p/\H a=some (.lst us)/\us.length<=6/\Paired (Dv p H n) us ds)\/∃a us ds,v=.ref a/\d=.tuple ds/\a∉p/\H a=some (.tup us)/\us.length<=6/\Paired (Dv p H n) us ds
theorem Dv.keep(k:∀c o,H c=some o->c∉p->H' c=some o):∀{n:Nat} {v:V} {d:PyData},Dv p H n v d->Dv p H' n v d
 |0,_,_,h=>h
 |_+1,_,_,.inl h=>.inl h
 |_+1,_,_,.inr (.inl ⟨a,us,ds,e1,e2,n,h,l,r⟩)=>.inr (.inl #[a,us,ds,e1,e2,n,k _ _ h n,l,aq (λ_ _ z=>Dv.keep k z) r])
 |_+1,_,_,.inr (.inr ⟨a,us,ds,e1,e2,n,h,l,r⟩)=>.inr (.inr #[a,us,ds,e1,e2,n,k _ _ h n,l,aq (λ_ _ z=>Dv.keep k z) r])
theorem Dv.same(s:Ga H H')(h:Dv p H n v d):Dv p H' n v d:=h.keep λc o e _=>s c o e
theorem Dv.up:∀{n:Nat} {v:V} {d:PyData},Dv p H n v d->Dv p H (n+1) v d
 |0,_,_,h=>.inl h
 |_+1,_,_,.inl h=>.inl h
 |_+1,_,_,.inr (.inl ⟨a,us,ds,e1,e2,n,h,l,r⟩)=>.inr (.inl #[a,us,ds,e1,e2,n,h,l,aq (λ_ _ z=>Dv.up z) r])
 |_+1,_,_,.inr (.inr ⟨a,us,ds,e1,e2,n,h,l,r⟩)=>.inr (.inr #[a,us,ds,e1,e2,n,h,l,aq (λ_ _ z=>Dv.up z) r])
theorem tZ{R:V->PyData->Prop}(h:∀v d,R v d->DR K H d v):∀{us:List V} {ds:List PyData},Paired R us ds->DRs K H ds us
 |_,_,.nil=>.nil
 |_,_,.cons q r=>.cons (h _ _ q) (tZ h r)
theorem At0.dr(h:At0 v d):DR K H d v:=by
 rcases h with⟨i,rfl,rfl,_⟩|⟨b,rfl,rfl⟩|⟨rfl,rfl⟩|⟨x,rfl,rfl,hx⟩
 ·rwa[.int i]
 ·rwa[.bl b]
 ·rwa[.non]
 ·rwa[.str x]
theorem Dv.dr:∀{n:Nat} {v:V} {d:PyData},Dv p H n v d->DR K H d v
 |0,_,_,h=>At0.dr h
 |_+1,_,_,.inl h=>At0.dr h
 |_+1,_,_,.inr (.inl ⟨a,us,ds,e1,e2,n,h,l,r⟩)=>by
  rw[e1,e2];rwa[.lst (SqL.of h) (tZ (λ_ _ z=>Dv.dr z) r)]
 |_+1,_,_,.inr (.inr ⟨a,us,ds,e1,e2,n,h,l,r⟩)=>by
  rw[e1,e2];rwa[.tup (SqT.of h) (tZ (λ_ _ z=>Dv.dr z) r)]
def Lay(n:Nat)(d:PyData):Prop:=d.canLay0=true/\d.depth<=n
theorem qg:∀{ds:List PyData},(∀d∈ds,Lay n d)->PyData.canLayAll0 ds=true/\PyData.depthAll ds<=n
 |[],_=>#[1,by simp[PyData.depthAll]]
 |d::r,h=>by
  let#[a,b]:=h d LN;let#[c,e]:=qg λd hd=>h d (I_ _ hd)
  erw[by simp only[PyData.canLayAll0,a,c,Bool.and_true],?_]
  simp only[PyData.depthAll];lia
theorem yS(h:∀d∈ds,Lay n d):Lay (n+1) (.list ds):=by
 let#[a,b]:=qg h;erw[by simp only[PyData.canLay0,a],?_]
 simp only[PyData.depth];lia
theorem Bi(h:∀d∈ds,Lay n d):Lay (n+1) (.tuple ds):=by
 let#[a,b]:=qg h;erw[by simp only[PyData.canLay0,a],?_]
 simp only[PyData.depth];lia
theorem Lay.sh(h:Lay n d)(k:n<=64):SeqAt.shaped d=true:=by
 unfold SeqAt.shaped;rw[Lw];rwa[h.1,q_ (Hb h.2 k)]
theorem At0.lay(h:At0 v d)(n:Nat):Lay n d:=by
 rcases h with⟨i,rfl,rfl,_⟩|⟨b,rfl,rfl⟩|⟨rfl,rfl⟩|⟨x,rfl,rfl,hx⟩<;>first|rwa[1,by simp[PyData.depth]]|rwa[hx,by simp[PyData.depth]]
theorem gL{R:α->β->Prop}:∀{xs:List α} {ys:List β},Paired R xs ys->∀y∈ys,∃x∈xs,R x y
 |_,_,.nil,y,hy=>nomatch hy
 |_,_,.cons q r,y,hy=>by
  rcases HB.mp hy with rfl|z
  ·rwa[_,LN,q]
  ·let#[x,O,h]:=gL r y z;rwa[x,I_ _ O,h]
theorem gn{R:α->β->Prop}:∀{xs:List α} {ys:List β},Paired R xs ys->∀x∈xs,∃y∈ys,R x y
 |_,_,.nil,y,hy=>nomatch hy
 |_,_,.cons q r,y,hy=>by
  rcases HB.mp hy with rfl|z
  ·rwa[_,LN,q]
  ·let#[x,O,h]:=gn r y z;rwa[x,I_ _ O,h]
theorem Dv.lay:∀{n:Nat} {v:V} {d:PyData},Dv p H n v d->Lay n d
 |0,_,_,h=>At0.lay h 0
 |n+1,_,_,.inl h=>At0.lay h _
 |n+1,_,_,.inr (.inl ⟨a,us,ds,e1,e2,_,h,l,r⟩)=>by
  rw[e2];erw[yS λd hd=>?_]
  let#[v,_,z]:=gL r d hd;rwa[Dv.lay z]
 |n+1,_,_,.inr (.inr ⟨a,us,ds,e1,e2,_,h,l,r⟩)=>by
  rw[e2];erw[Bi λd hd=>?_]
  let#[v,_,z]:=gL r d hd;rwa[Dv.lay z]
def uF:List PyData->Bool
 |[.int n,.int d]=>decide (1<=d)&&decide (Int.gcd n d=1)
 |_=>false
def cY(P:Int)(d:PyData):Bool:=if P=0 then(match d with|.tuple ds=>uF ds|_=>false) else match d with|.int i=>decide (0<=i)&&decide (i<P)|_=>false
theorem At0.typed(h:At0 v d):Typed K H v:=by
 rcases h with⟨i,rfl,rfl,_⟩|⟨b,rfl,rfl⟩|⟨rfl,rfl⟩|⟨x,rfl,rfl,hx⟩
 ·rwa[.int i]
 ·rwa[33,_,_,_,.bl b,1,1,1]
 ·rwa[33,_,_,_,.non,1,1,1]
 ·rwa[33,_,_,_,.str x,1,1,1]
theorem At0.thing(h:At0 v d):so K H v:=by
 erw[h.typed,.inl ?_]
 rcases h with⟨i,rfl,rfl,_⟩|⟨b,rfl,rfl⟩|⟨rfl,rfl⟩|⟨x,rfl,rfl,hx⟩
 ·rwa[_,.int i,1,λa z=>by cases z]
 ·rwa[_,.bl b,1,λa z=>by cases z]
 ·rwa[_,.non,1,λa z=>by cases z]
 ·rwa[_,.str x,1,λa z=>by cases z]
theorem At0.num{P:Int}(h:At0 v d):lT P H v=cY P d:=by
 unfold lT cY
 rcases h with⟨i,rfl,rfl,_⟩|⟨b,rfl,rfl⟩|⟨rfl,rfl⟩|⟨x,rfl,rfl,hx⟩<;>rfl
theorem Eh(h:Paired At0 us ds):i7 us=uF ds:=by
 match us,ds,h with
 |[],_,.nil=>rfl
 |[_],_,.cons a .nil=>rcases a with⟨i,rfl,rfl,_⟩|⟨b,rfl,rfl⟩|⟨rfl,rfl⟩|⟨x,rfl,rfl,hx⟩<;>rfl
 |[_,_],_,.cons a (.cons b .nil)=>
  rcases a with⟨i,rfl,rfl,_⟩|⟨b,rfl,rfl⟩|⟨rfl,rfl⟩|⟨x,rfl,rfl,hx⟩
  ·rcases b with⟨i,rfl,rfl,_⟩|⟨b,rfl,rfl⟩|⟨rfl,rfl⟩|⟨x,rfl,rfl,hx⟩<;>rfl
  all_goals rfl
 |_::_::_::_,_,.cons a (.cons b (.cons c _))=>
  rcases a with⟨i,rfl,rfl,_⟩|⟨b,rfl,rfl⟩|⟨rfl,rfl⟩|⟨x,rfl,rfl,hx⟩
  ·rcases b with⟨i,rfl,rfl,_⟩|⟨b,rfl,rfl⟩|⟨rfl,rfl⟩|⟨x,rfl,rfl,hx⟩<;>rfl
  all_goals rfl
theorem Dv.thing{P:Int}(h:Dv p H 1 v d):so K H v/\lT P H v=cY P d:=by
 rcases h with h|⟨a,us,ds,rfl,rfl,_,ha,O,r⟩|⟨a,us,ds,rfl,rfl,_,ha,O,r⟩
 ·rwa[h.thing,h.num]
 ·erw[#[#[33,_,_,_,.lst ha,1,1,1],.inl #[_,.lst ha,1,λb z=>by cases z;rwa[_,ha]]],?_]
  unfold lT cY;rw[jW λb z=>by cases z;rwa[_,ha]]
  rfl
 ·have r:Paired At0 us ds:=r;erw[#[.tup ha,.inr #[24,a,us,1,ha,(),λx U=>?_,λi hi=>?_]],?_]
  ·let#[d,_,z]:=gn r x U;rwa[z.typed]
  ·let#[d,_,z]:=gn r _ hi
   rcases z with⟨j,e,_,hj⟩|⟨b,e,_⟩|⟨e,_⟩|⟨x,e,_,_⟩
   ·injection e with e
    rw[e];rwa[MN hj (HF #[] #[])]
   all_goals cases e
  ·unfold lT cY;rw[jZ ha,Eh r]
   rfl
theorem Dv.free(hc:H c=none):∀{n:Nat} {v:V} {d:PyData},Dv p H n v d->Dv (c::p) H n v d
 |0,_,_,h=>h
 |_+1,_,_,.inl h=>.inl h
 |_+1,_,_,.inr (.inl ⟨a,us,ds,e1,e2,n,h,l,r⟩)=>.inr (.inl #[a,us,ds,e1,e2,λz=>(HB.mp z).elim (al h hc) n,h,l,aq (λ_ _ z=>Dv.free hc z) r])
 |_+1,_,_,.inr (.inr ⟨a,us,ds,e1,e2,n,h,l,r⟩)=>.inr (.inr #[a,us,ds,e1,e2,λz=>(HB.mp z).elim (al h hc) n,h,l,aq (λ_ _ z=>Dv.free hc z) r])
theorem Dv.sub{p':List Addr}(k:∀a∈p',a∈p):∀{n:Nat} {v:V} {d:PyData},Dv p H n v d->Dv p' H n v d
 |0,_,_,h=>h
 |_+1,_,_,.inl h=>.inl h
 |_+1,_,_,.inr (.inl ⟨a,us,ds,e1,e2,n,h,l,r⟩)=>.inr (.inl #[a,us,ds,e1,e2,λz=>n (k _ z),h,l,aq (λ_ _ z=>Dv.sub k z) r])
 |_+1,_,_,.inr (.inr ⟨a,us,ds,e1,e2,n,h,l,r⟩)=>.inr (.inr #[a,us,ds,e1,e2,λz=>n (k _ z),h,l,aq (λ_ _ z=>Dv.sub k z) r])
theorem Dv.put{o:HO}(h:Dv (c::p) H n v d):Dv (c::p) (upd H c o) n v d:=h.keep λa o' e hn=>by
 rw[ak (show a≠c from λz=>hn (HB.mpr (.inl z)))]
 rwa[e]
theorem BN{m:Nat}{σ:L2.St}(hσ:cH src σ=none::rest)(hn:m<=6)(hm:ds.length=m)(hgo:∀i H,i<m->Ga H0 H->J.go i H)(hst:∀H,Ga H0 H->J.stop m H)(turn:∀acc i x d H H' (R:VK),H0 acc=none->(∃zs,H acc=some (.lst zs))->ds[i]? = some d->Ga H0 H->J.yld i H x H'->(∀v H2,Ga H H2->Dv (acc::p) H2 n v d->R v H2)->te (some x::rest) H' R)(hd:∀acc us H,H0 acc=none->Ga H0 H->H acc=some (.lst us)->us.length=m->Paired (Dv p H n) us ds->Q (.ref acc) H):
  bZ J src (bP 0) kO te σ H0 Q:=by
 erw[cc (n:=m) (σ0:=none::rest) hσ (λacc i zs σ H=>(∃u,σ=u::rest)/\Ga H0 H/\zs.length=i/\Paired (Dv (acc::p) H n) zs (ds.take i)) (by rw[Hc];lia) (λacc O=>#[#[none,1],Ga.new O,1,.nil]) ?_ ?_ ?_ ?_]
 ·rintro acc i zs σ H O hi hz ⟨_,U,_⟩;rwa[hgo i H hi U]
 ·rintro acc zs σ H O hz ⟨_,U,_⟩;rwa[hst H U]
 ·intro acc i zs σ H x H' O hi hz a2 Z hy;let#[03,#[u,1],U,lz,pz]:=Z
  obtain⟨d,ed⟩:∃d,ds[i]? = some d:=#[_,ge ()]
  erw[turn acc i x d H H' _ O #[_,hz] ed U hy λv H2 s2 hv=>?_]
  have a1:=s2 _ _ hz;erw[zs,a1,by rw[Hc];lia,_,ae,by rw[x_,He];lia,#[0],(U.trans s2).put O,by rw[x_,lz];rfl,?_]
  rw[Mw,ed];rwa[aV hv.put (aq (λ_ _ z=>(z.same s2).put) pz)]
 ·intro acc zs σ H O hz a2 Z;let#[03,_,U,lz,pz]:=Z
  rw[<- hm,MZ] at pz;rwa[hd acc zs H O U hz lz (aq (λ_ _ z=>z.sub λa ha=>I_ _ ha) pz)]
def dRN(P:Int)(xs:List (Int×Int)):PyData:=.list (xs.map (dN P))
def BX(P:Int)(rows:List (List (Int×Int))):PyData:=.list (rows.map (dRN P))
theorem DU{P:Int}(hP:Gc P)(h:Dv p H 1 v d)(n:cY P d=true):∃y,At P H v y/\d=dN P y/\OkN P y/\Sz 30 y:=by
 unfold cY at n
 by_cases h0:P=0
 ·rw[C_ h0] at n
  rcases h with h|⟨a,us,ds,rfl,rfl,_,ha,O,r⟩|⟨a,us,ds,rfl,rfl,_,ha,O,r⟩
  ·rcases h with⟨i,rfl,rfl,_⟩|⟨b,rfl,rfl⟩|⟨rfl,rfl⟩|⟨x,rfl,rfl,hx⟩<;>cases n
  ·cases n
  ·replace n:uF ds=true:=n
   unfold uF at n
   split at n
   ·rename_i t b;have r:Paired At0 us [.int t,.int b]:=r;rw[Lw] at n;have n1:=E_ n.1;have U:=E_ n.2;cases r with
    |cons z1 r=>cases r with
     |cons z2 r=>cases r with
      |nil=>
       have Z:∀{v:V} {i:Int},At0 v (.int i)->v=.int i/\i.natAbs<2^30:=λ{v i} z=>by
        rcases z with⟨j,e,e',hj⟩|⟨_,_,e⟩|⟨_,e⟩|⟨_,_,e,_⟩
        ·injection e' with e'
         rw[e'];rwa[e,hj]
        all_goals cases e
       let#[1,b1]:=Z z1;let#[1,b2]:=Z z2;erw[(t,b),.inl #[h0,a,1,ha],?_,.inl #[h0,(by show 0<b;lia),U],b1,b2]
       unfold dN;rw[C_ h0]
       rfl
   ·cases n
 ·rw[w_ h0] at n
  rcases h with h|⟨a,us,ds,rfl,rfl,_,ha,O,r⟩|⟨a,us,ds,rfl,rfl,_,ha,O,r⟩
  ·rcases h with⟨i,rfl,rfl,hi⟩|⟨b,rfl,rfl⟩|⟨rfl,rfl⟩|⟨x,rfl,rfl,hx⟩
   ·have n:(decide (0<=i)&&decide (i<P))=true:=n;rw[Lw] at n;have n1:=E_ n.1;have U:=E_ n.2;erw[(i,1),.inr #[h0,1,1],?_,.inr #[h0,n1,U,1],hi,by show(1:Int).natAbs<_;decide]
    unfold dN;rw[w_ h0]
   all_goals cases n
  ·cases n
  ·cases n
def gr(P:Int)(L:Nat):PyData->Bool
 |.list ds=>decide (ds.length=L)&&ds.all (cY P)
 |_=>false
theorem vP{P:Int}(hP:Gc P):∀{us:List V} {ds:List PyData},Paired (Dv p H 1) us ds->ds.all (cY P)=true->∃xs,Paired (At P H) us xs/\ds=xs.map (dN P)/\∀y∈xs,OkN P y/\Sz 30 y
 |_,_,.nil,_=>#[[],.nil,1,λy O=>nomatch O]
 |_,_,.cons q r,h=>by
  rw[all_cons,Lw] at h
  let#[13,y,a,1,o,z]:=DU hP q h.1
  let#[12,xs,pa,1,ok]:=vP hP r h.2
  erw[y::xs,.cons a pa,1,λU O=>?_]
  rcases HB.mp O with rfl|Z
  ·rwa[o,z]
  ·rwa[ok U Z]
theorem Dp{P:Int}(hP:Gc P){L:Nat}(h:Dv p H 2 v d)(n:gr P L d=true):∃xs,RowN P H v xs/\d=dRN P xs/\xs.length=L/\∀y∈xs,OkN P y/\Sz 30 y:=by
 rcases h with h|⟨a,us,ds,rfl,rfl,_,ha,U,r⟩|⟨a,us,ds,rfl,rfl,_,ha,U,r⟩
 ·rcases h with⟨i,rfl,rfl,_⟩|⟨b,rfl,rfl⟩|⟨rfl,rfl⟩|⟨x,rfl,rfl,hx⟩<;>cases n
 ·have n:(decide (ds.length=L)&&ds.all (cY P))=true:=n;rw[Lw] at n
  let#[12,xs,pa,1,ok]:=vP hP r n.2
  have O:=E_ n.1;rw[z_] at O;rwa[xs,#[22,a,us,1,ha,pa],1,O,ok]
 ·cases n
def lJ(P:Int)(L:Nat):PyData->Bool
 |.list ds=>decide (ds.length=L)&&ds.all (gr P L)
 |_=>false
theorem gW{P:Int}(hP:Gc P){L:Nat}:∀{us:List V} {ds:List PyData},Paired (Dv p H 2) us ds->ds.all (gr P L)=true->∃rows,Paired (RowN P H) us rows/\ds=rows.map (dRN P)/\∀xs∈rows,xs.length=L/\∀y∈xs,OkN P y/\Sz 30 y
 |_,_,.nil,_=>#[[],.nil,1,λy O=>nomatch O]
 |_,_,.cons q r,h=>by
  rw[all_cons,Lw] at h
  let#[13,y,a,1,o,z]:=Dp hP q h.1
  let#[12,xs,pa,1,ok]:=gW hP r h.2
  erw[y::xs,.cons a pa,1,λU O=>?_]
  rcases HB.mp O with rfl|Z
  ·rwa[o,z]
  ·rwa[ok U Z]
theorem iS:∀(xs:List (Int×Int)),(∀y∈xs,0<y.2/\Sz 30 y)->∃B,0<B/\B<=2^(30*xs.length)/\∀y∈xs,Rw B (2^30) y
 |[],_=>#[(1),#[],e_ _,λy O=>nomatch O]
 |x::r,h=>by
  let#[12,B,B0,B1,hB]:=iS r λy O=>h y (I_ _ O)
  let#[Z,x1,x2]:=h x LN;have U:0<x.2.natAbs:=()
  erw[x.2.natAbs*B,Nat.mul_pos U B0,?_,λy O=>?_]
  ·rw[Mn,Nat.mul_add,Nat.mul_one,Nat.add_comm,NG];rwa[OW (Nat.le_of_lt x2) B1]
  ·rcases HB.mp O with rfl|z
   ·rwa[Z,Nat.dvd_mul_right _ _,Hb (Nat.le_of_lt x1) (Nat.le_mul_of_pos_right _ U)]
   ·let#[a,b,c]:=hB y z;rwa[a,Nat.dvd_trans b (Nat.dvd_mul_left _ _),c]
theorem gY{P:Int}(h:OkN P y):0<y.2:=by
 rcases h with⟨_,h,_⟩|⟨_,_,_,h⟩
 ·rwa[h]
 ·rw[h];decide
theorem Rw.more(h:Rw B M y)(k:M<=N):Rw B N y:=#[h.1,h.2.1,Hb h.2.2 (LP _ k)]
theorem mr{P:Int}{L:Nat}(hL:L<=4)(h:xs.length=L/\∀y∈xs,OkN P y/\Sz 30 y):∃B,0<B/\B<=2^120/\∀y∈xs,Rw B (2^30) y:=by
 let#[12,B,B0,B1,hB]:=iS xs λy O=>#[gY (h.2 y O).1,(h.2 y O).2]
 rwa[B,B0,Hb B1 (Hr #[] (by rw[h.1];lia)),hB]
theorem vq{P:Int}{L:Nat}(hL:L<=4)(h:xs.length=L/\∀y∈xs,OkN P y/\Sz 30 y):∃B,DP P L B xs:=by
 let#[12,B,B0,B1,hB]:=mr hL h
 rwa[B,h.1,B0,Hb B1 (Hr #[] #[]),λy O=>#[(h.2 y O).1,(hB y O).more (Hr #[] #[])]]
def GD{P:Int}(hP:Gc P)(L:Nat)(d:PyData):Prop:=∃rows,d=BX P rows/\rows.length=L/\(∀xs∈rows,xs.length=L/\∀y∈xs,OkN P y)/\∃K,(nbF hP).Keeps K (rows.map (vec hP))/\K.length=L
theorem Cf{P:Int}(o:OkN P y):cY P (dN P y)=true:=by
 unfold cY dN
 rcases o with⟨h0,h1,h2⟩|⟨h0,h1,h2,_⟩
 ·rw[C_ h0,C_ h0];show(decide (1<=y.2)&&decide (Int.gcd y.1 y.2=1))=true;rw[q_ (show 1<=y.2 by lia),q_ h2]
  rfl
 ·rw[w_ h0,w_ h0];show(decide (0<=y.1)&&decide (y.1<P))=true;rw[q_ h1,q_ h2]
  rfl
theorem GD.rows{P:Int}{hP:Gc P}{L:Nat}(h:GD hP L d):lJ P L d=true:=by
 let#[13,rows,1,h1,h2,_]:=h
 show(decide ((rows.map (dRN P)).length=L)&&(rows.map (dRN P)).all (gr P L))=true;rw[z_,q_ h1,Nx,all_map,Q8];intro xs Z;let#[O,U]:=h2 xs Z;show(decide ((xs.map (dN P)).length=L)&&(xs.map (dN P)).all (cY P))=true;rw[z_,q_ O,Nx,all_map,Q8];rwa[λy hy=>Cf (U y hy)]
theorem Dk{P:Int}(ox:OkN P x)(oy:OkN P y)(h:dN P x=dN P y):x=y:=by
 unfold dN at h
 rcases ox with⟨h0,_⟩|⟨h0,_,_,e1⟩
 ·rw[C_ h0,C_ h0] at h;have h:PyData.tuple [.int x.1,.int x.2]=.tuple [.int y.1,.int y.2]:=h;injection h with h
  injection h with a h
  injection h with b _
  injection a with a
  injection b with b
  rwa[N2 a b]
 ·rcases oy with⟨h0',_⟩|⟨_,_,_,e2⟩
  ·rwa[absurd h0' h0]
  ·rw[w_ h0,w_ h0] at h;injection h with h
   rwa[N2 h (e1.trans e2.symm)]
theorem kA{f:α->β}{G:α->Prop}(inj:∀x y,G x->G y->f x=f y->x=y):∀{xs ys:List α},(∀x∈xs,G x)->(∀y∈ys,G y)->xs.map f=ys.map f->xs=ys
 |[],[],_,_,_=>rfl
 |[],_::_,_,_,h=>nomatch h
 |_::_,[],_,_,h=>nomatch h
 |x::xs,y::ys,h1,h2,h=>by
  injection h with a b
  rw[inj x y (h1 x LN) (h2 y LN) a,kA inj (λz O=>h1 z (I_ _ O)) (λz O=>h2 z (I_ _ O)) b]
theorem Cy{P:Int}{ys:List (Int×Int)}(h1:∀y∈xs,OkN P y)(h2:∀y∈ys,OkN P y)(h:dRN P xs=dRN P ys):xs=ys:=by
 unfold dRN at h;injection h with h
 rwa[kA (λ_ _ a b=>Dk a b) h1 h2 h]
theorem si{P:Int}(hP:Gc P){L:Nat}{rows:List (List (Int×Int))}(h1:rows.length=L)(h2:∀xs∈rows,xs.length=L/\∀y∈xs,OkN P y){K:List (Nat×Vn P)}(hK:(nbF hP).Keeps K (rows.map (vec hP))):GD hP L (BX P rows)↔K.length=L:=by
 erw[λ⟨rs,e,e1,e2,Z,k1,k2⟩=>?_,λh=>#[rows,1,h1,h2,K,hK,h]]
 unfold BX at e;injection e with e
 have U:rows=rs:=kA (G:=λxs=>∀y∈xs,OkN P y) (λ_ _ a b=>Cy a b) (λxs O=>(h2 xs O).2) (λxs O=>(e2 xs O).2) e
 subst U;rw[<- k2];exact(FL.keeps_same (nbF hP) hK k1 λw=>Iff.rfl).symm
section
theorem iC:Gb ["thing"] ["thing"] (aj cL):=.i
theorem tJ(F:Fun K "is_whole_number" "is_whole_number" cL f fd)(T:Blt mg):`Gd CX0 1 f fd ["thing"] (jE K):=by
 erw[F.o iC λ_ _ _ _ H _ Q _ O h=>?_]
 ·let#[44,v,t,b,c,1,ty,h1,h2,q]:=h
  erw[_,(ai (ar (dO (eG K T (pv 0) T.int gZ) (fe (tP (eG K T (pv 0) T.bool mw)))))),?_];erw[6211,0,t,b,ty,h1,0,?_];cases b with
  |false=>rwa[bO q]
  |true=>rwa[aU #[6211,0,t,c,ty,h2,0,q]]
end
def zz(K:Frag):Sp:=λvs H Q _=>∃v,vs=[v]/\((∃t,GE K H v t/\kitOne K t (.type "tuple")=some false/\Q (.bl false) H)\/∃a xs,v=.ref a/\H a=some (.tup xs)/\Q (.bl (decide ((xs.length:Int)=2))) H)
def v7(K:Frag):Sp:=λvs H Q _=>∃(x v:V),vs=[x,v]/\so K H v/\Q (.bl (vT H v)) H
def ve(K:Frag)(CR:Addr):Sp:=λvs H Q _=>∃(x dx:Addr) (p:Int) (v:V),vs=[.ref x,v]/\H x=some (.ins CR dx [("modulus",.int p)])/\Typed K H v/\Q (.bl (C9 p v)) H
section
theorem tW:Gb ["thing"] ["thing"] (aj jV):=.i
theorem BY(F:Fun K "is_pair" "is_pair" jV f fd)(T:Blt mg):`Gd CX0 1 f fd ["thing"] (zz K):=by
 erw[F.o tW λ_ _ _ _ H _ Q _ O h=>?_]
 ·let#[v,1,h]:=h;erw[_,(ai (ar (dO (eG K T (pv 0) T.tuple eT) (fe (cg bf (bY K T (pv 0)) ah (au _)))))),?_]
  rcases h with⟨t,ty,e,q⟩|⟨a,xs,rfl,ha,q⟩
  ·rwa[6211,0,t,false,ty,e,0,bO q]
  ·erw[6211,0,_,true,.tup ha,1,0,aU ?_];erw[63,0,a,xs,1,.inr (SqT.of ha),1,?_];rw[show decide (V.int (xs.length:Int)=V.int 2)=decide ((xs.length:Int)=2) from OM.mpr #[λz=>by injection z,λz=>LD V.int z]]
   rwa[q]
theorem fB:Gb ["self", "thing"] ["self", "thing"] (aj bX):=.i
theorem D9(F:Fun K "is_number" "Fractions.is_number" bX f fd)(KU:`FnB 1 "is_pair" (zz K))(Il:`FnB 1 "is_whole_number" (jE K))(HS:`FnB 1 "greatest_divisor" pA):
  Gd P w K mg base CX0 2 f fd ["self", "thing"] (v7 K):=by
 erw[F.o fB λ_ _ _ _ H _ Q _ U h=>?_]
 ·let#[22,x,v,1,#[ty,hv],q]:=h
  erw[_,(af (aL (PW.pt (gf (cF (bW (az KU U.m #[6,1]))) (gf (cF (bW (az Il U.m #[6,(aC (aA K rfl) (pv 1) ah (λ_ _=>rfl))]))) (f9 (cF (bW (az Il U.m #[6,(aC (aA K rfl) (pv 1) ah (λ_ _=>rfl))])))))))
(ai (ar dU))
aB)
(ai (ar (dO (cg C6 (aC (aA K rfl) (pv 1) ah (λ_ _=>rfl)) ah (au _)) (fe (cg bf (az HS U.m #[6,(aC (aA K rfl) (pv 1) ah (λ_ _=>rfl)),(aC (aA K rfl) (pv 1) ah (λ_ _=>rfl))]) ah (au _))))))),?_]
  rcases hv with⟨t,ty,e,hn⟩|⟨a,xs,rfl,ha,hl,hty,hbd⟩
  ·rw[jW hn] at q;rwa[51,0,v,1,.inl #[t,ty,e,0,aU (aU q)]]
  ·rw[jZ ha] at q;erw[51,0,.ref a,1,.inr #[2211,a,xs,1,ha,0,?_]]
   by_cases O:(xs.length:Int)=2
   ·rw[q_ O];erw[bO ?_]
    match xs,O with
    |[x,y],_=>
    let#[33,t1,b1,c1,ty1,h11,h12,e1]:=hty x (by simp)
    let#[33,t2,b2,c2,ty2,h21,h22,e2]:=hty y (by simp)
    erw[844411,0,a,_,2,SqT.of ha,1,x,t1,b1,c1,1,ty1,h11,h12,0,?_];rw[e1];cases x with
    |int n=>
     erw[bO ?_];erw[844411,0,a,_,2,SqT.of ha,1,y,t2,b2,c2,1,ty2,h21,h22,0,?_];rw[e2];cases y with
     |int d=>
      erw[bO ?_];erw[842211,0,a,_,2,SqT.of ha,1,2,0,?_];have Z:Q (.bl (decide (1<=d)&&decide (Int.gcd n d=1))) H:=q
      by_cases hd:1<=d
      ·rw[q_ hd,Nx] at Z;rw[q_ hd];erw[aU #[848422,0,a,_,2,SqT.of ha,1,0,a,_,2,SqT.of ha,1,n,d,1,1,?_]];rw[show decide (V.int (Int.gcd n d:Int)=V.int 1)=decide (Int.gcd n d=1) from OM.mpr #[λz=>by injection z with z;lia,λz=>by rw[z];rfl]]
       rwa[Z]
      ·rw[GN hd,NL] at Z;rw[GN hd];rwa[bO Z]
     |_=>rwa[aU q]
    |_=>rwa[aU (aU (by cases y<;>rwa[q]))]
   ·rw[GN O];have ep:i7 xs=false:=by
     unfold i7
     split
     ·rwa[absurd rfl O]
     ·rfl
    rw[ep] at q;rwa[aU (aU q)]
theorem iY:Gb ["self", "thing"] ["self", "thing"] (aj cP):=.i
theorem DM{CR:Addr}(F:Fun K "is_number" "Rests.is_number" cP f fd)(cl:Cls K CR)(nM:Gj K CR "modulus")(Il:`FnB 1 "is_whole_number" (jE K)):`Gd CX0 2 f fd ["self", "thing"] (ve K CR):=by
 erw[F.o iY λ_ _ _ _ H _ Q _ U h=>?_]
 ·let#[43,x,dx,p,v,1,hx,ty,q]:=h
  erw[_,(ai (ar (dO (az Il U.m #[6,1]) (dO (cg rS ah (pv 1) (au _)) (fe (cg gJ (pv 1) (dc (pv 0) rfl) (au _))))))),?_]
  let#[33,t,b,c,ty,h1,h2,e]:=ty
  erw[8411,0,v,t,b,c,1,ty,h1,h2,0,?_];rw[e];cases v with
  |int i=>
   erw[aU #[6211,0,2,0,?_]];have O:Q (.bl (decide (0<=i)&&decide (i<p))) H:=q
   by_cases hi:0<=i
   ·rw[q_ hi,Nx] at O;rw[q_ hi];rwa[aU #[119522,0,0,x,CR,dx,_,0,hx,cl,nM,1,2,O]]
   ·rw[GN hi,NL] at O;rw[GN hi];rwa[bO O]
  |_=>rwa[bO q]
end
theorem Dr(v:V):List.lookup ("is_number" : Str) [(("modulus" : Str),v)]=none:=by
 have e:(("is_number" : Str)==("modulus" : Str))=false:=#[5]
 simp only[List.lookup,e]
theorem yG{CR x:Addr}{p:Int}{t:TA}(hN:Gp CF CR H x p)(hT:so K H v)(ha:∀Z:VK,Z (.ref x) H->ta σ H Z)(ht:∀Z:List V->Hp->Prop,Z [v] H->t σ H Z)(hR:R (.bl (lT p H v)) H):
  wQ (dW CF "is_number" (v7 K) [] E0 ta t) (dW CR "is_number" (ve K CR) [] E0 ta t) σ H R:=by
 rcases hN with⟨h0,dx,e⟩|⟨h0,dx,e⟩
 ·unfold lT at hR;rw[C_ h0] at hR;rwa[.inl (ha _ #[33,x,dx,[],1,e,1,ht _ #[22,_,v,1,hT,hR]])]
 ·unfold lT at hR;rw[w_ h0] at hR;rwa[.inr (ha _ #[33,x,dx,0,e,Dr _,ht _ #[43,x,dx,p,v,1,e,hT.1,hR]])]
def dJ(CG:Addr)(H:Hp)(g x:Addr)(L:Int):Prop:=∃dx,H g=some (.ins CG dx [("kind",.ref x),("width",.int L)])
def jS(CG:Addr):Sp:=λvs H Q _=>∃(g x:Addr) (L:Int),vs=[.ref g]/\dJ CG H g x L/\Q (.ref x) H
def iM(CG:Addr):Sp:=λvs H Q _=>∃(g x:Addr) (L:Int),vs=[.ref g]/\dJ CG H g x L/\Q (.int L) H
section
theorem kP:Gb ["self"] ["self"] (aj eI):=.i
theorem vC(F:Fun K "numbers" "Ring.numbers" eI f fd)(cl:Cls K CG)(nA:Gj K CG "kind"):`Gd CX0 1 f fd ["self"] (jS CG):=by
 erw[F.o kP λ_ _ _ _ H _ Q _ O h=>?_]
 ·let#[32,g,x,L,1,#[dx,hg],q]:=h
  erw[_,(ai (ar (dc (pv 0) rfl))),?_];rwa[95,0,g,CG,dx,_,0,hg,cl,nA,1,q]
theorem kN:Gb ["self"] ["self"] (aj eh):=.i
theorem vX(F:Fun K "letters" "Ring.letters" eh f fd)(cl:Cls K CG)(nA:Gj K CG "width"):`Gd CX0 1 f fd ["self"] (iM CG):=by
 erw[F.o kN λ_ _ _ _ H _ Q _ O h=>?_]
 ·let#[32,g,x,L,1,#[dx,hg],q]:=h
  erw[_,(ai (ar (dc (pv 0) rfl))),?_];rwa[95,0,g,CG,dx,_,0,hg,cl,nA,1,q]
end
theorem nd_9:(["own", "letters"]:List Str).Nodup:=#[5]
theorem F4:(["number", "ring"]:List Str).Nodup:=#[5]
theorem kz{a:Addr}{xs:List V}{σ:L2.St}(hσ:cH src σ=none::rest)(f:Nat->V)(hx:H0 a=some (.lst xs))(hn:xs.length<=60)(turn:∀i v H (R:VK),xs[i]? = some v->Ga H0 H->(∀H2,Ga H H2->R (f i) H2)->te (some v::rest) H R)(hd:∀acc H,H0 acc=none->Ga H0 H->H acc=some (.lst ((List.range xs.length).map f))->Q (.ref acc) H):
  bZ (Itl K a) src (bP 0) kO te σ H0 Q:=by
 erw[cc (n:=xs.length) (σ0:=none::rest) hσ (λacc i zs σ H=>(∃u,σ=u::rest)/\Ga H0 H/\zs=(List.range i).map f) (by rw[Hc];lia) (λacc O=>#[#[none,1],Ga.new O,1]) ?_ ?_ ?_ ?_]
 ·rintro acc i zs σ H O hi Z ⟨⟨u,rfl⟩,U,_⟩;rwa[21,xs,xs[i],SqL.of (U _ _ hx),by simp[hi]]
 ·rintro acc zs σ H O Z ⟨⟨u,rfl⟩,U,_⟩;rwa[xs,SqL.of (U _ _ hx),e_ _]
 ·rintro acc i zs σ H x H' O hi Z a1 ⟨⟨u,rfl⟩,U,rfl⟩ ⟨rfl,gx⟩;erw[turn i x _ _ (gx xs (SqL.of (U _ _ hx))) U λH2 s2=>?_]
  erw[_,s2 _ _ Z,by rw[z_,OA,Hc];lia,_,ae,by rw[x_,z_,OA];rwa[e_ _],#[0],(U.trans s2).put O,?_]
  rw[range_succ,L8]
  rfl
 ·rintro acc zs σ H O Z a1 ⟨_,U,rfl⟩;rwa[hd acc H O U Z]
theorem qu(xs:List α)(d:α)(g:α->β):(List.range xs.length).map (λi=>g (xs.getD i d))=xs.map g:=by
 erw[List.ext_getElem (by simp) λi h1 h2=>?_]
 rw[getElem_map,getElem_map,getElem_range,LR,ge (by simpa using h1)]
 rfl
theorem pL{xs:List α}{i:Nat}{x d:α}(h:xs[i]? = some x):xs.getD i d=x:=by rw[LR,h];rfl
def jB(L:Int):PyData->Bool
 |.list ds=>decide ((ds.length:Int)=L)
 |_=>false
def rB:Sp:=λvs H Q _=>∃(p:List Addr) (L:Int) (n:Nat) (v:V) (d:PyData),vs=[.int L,v]/\Dv p H n v d/\Q (.bl (jB L d)) H
theorem Dv.split(h:Dv p H n v d):(∃t,GE K H v t/\kitOne K t (.type "list")=some false/\∀ds,d≠.list ds)\/∃a us ds m,n=m+1/\v=.ref a/\d=.list ds/\a∉p/\H a=some (.lst us)/\us.length<=6/\Paired (Dv p H m) us ds:=by
 have at0:∀{v d},At0 v d->∃t,GE K H v t/\kitOne K t (.type "list")=some false/\∀ds,d≠.list ds:=λ{v d} h=>by
  rcases h with⟨i,rfl,rfl,_⟩|⟨b,rfl,rfl⟩|⟨rfl,rfl⟩|⟨x,rfl,rfl,_⟩
  ·rwa[_,.int i,1,λds z=>by cases z]
  ·rwa[_,.bl b,1,λds z=>by cases z]
  ·rwa[_,.non,1,λds z=>by cases z]
  ·rwa[_,.str x,1,λds z=>by cases z]
 cases n with
 |zero=>rwa[.inl (at0 h)]
 |succ m=>
  rcases h with h|⟨a,us,ds,rfl,rfl,n,ha,O,r⟩|⟨a,us,ds,rfl,rfl,n,ha,O,r⟩
  ·rwa[.inl (at0 h)]
  ·rwa[.inr #[46,a,us,ds,m,1,1,1,n,ha,O,r]]
  ·rwa[.inl #[_,.tup ha,1,λds z=>by cases z]]
def Rz(CT:Addr)(E:XK)(H:Hp):Prop:=∀H',Ga H H'->E (.ref CT) none H'
def lg(CT CF CR CG:Addr):Sp:=λvs H Q E=>∃(p:List Addr) (g x:Addr) (P L:Int) (hP:Gc P) (v:V) (d:PyData),vs=[.ref g,v]/\dJ CG H g x L/\Gp CF CR H x P/\1<=L/\L<=4/\Dv p H 3 v d/\(¬GD hP L.toNat d->Rz CT E H)/\(GD hP L.toNat d->∀H',Ga H H'->Q .non H')
theorem pV{L:Int}(h:∀ds,d≠.list ds):jB L d=false:=by
 unfold jB
 split
 ·rwa[absurd rfl (h _)]
 ·rfl
theorem ze{P L:Int}(L1:1<=L)(h:gr P L.toNat d=true):jB L d=true:=by
 unfold gr at h
 split at h
 ·rename_i ds;have h:=E_ (Lw _ _▸h).1;rwa[q_ ()]
 ·cases h
section
theorem nI:Gb ["many", "thing"] ["many", "thing"] (aj fE):=.i
theorem xB(F:Fun K "is_list_of" "is_list_of" fE f fd)(T:Blt mg):`Gd CX0 1 f fd ["many", "thing"] rB:=by
 erw[F.o nI λ_ _ _ _ H _ Q _ O h=>?_]
 ·let#[p,L,n,v,d,1,h,q]:=h;erw[_,(ai (ar (dO (eG K T (pv 1) T.list dh) (fe (cg bf (bY K T (pv 1)) (pv 0) (au _)))))),?_]
  rcases h.split (K:=K) with⟨t,ty,e,hn⟩|⟨a,us,ds,m,rfl,rfl,rfl,_,ha,_,r⟩
  ·rw[pV hn] at q;rwa[6211,0,t,false,ty,e,0,bO q]
  ·erw[6211,0,_,true,.lst ha,1,0,aU ?_];erw[6212,0,a,us,1,.inl (SqL.of ha),0,1,?_];rw[show decide (V.int (us.length:Int)=V.int L)=decide ((ds.length:Int)=L) from OM.mpr #[λz=>by injection z with z;rw[<- Paired.length r];rwa[z],λz=>by rw[Paired.length r,z]]]
   rwa[q]
theorem Hd:Gb ["ring", "turn", "letters", "own"] ["ring", "turn"] (aj fS):=.i
theorem zl{CR:Addr}(F:Fun K "check_turn" "check_turn" fS f fd)(T:Blt mg)(ANoTurn:mg "NoTurn"=some (.ref CT))(xt:XCl K CT)(Ix:`MtB 1 CG "numbers" (jS CG))(Iy:`MtB 1 CG "letters" (iM CG))(MtF:`MtB 2 CF "is_number" (v7 K))(MtR:`MtB 2 CR "is_number" (ve K CR))(JQ:`FnB 1 "is_list_of" rB)(Lh:`FnB 4 "rank" (zZ CF CR)):
  Gd P w K mg base (CXE P w base.life) 5 f fd ["ring", "turn"] (lg CT CF CR CG):=by
 erw[F.okX Hd (λvs H Q E h=>?_) (λcdv A outer s H vs Q E hr h=>?_)]
 ·let#[4010,p,g,x,P,L,#[hP,v,d,1,_]]:=h
  rfl
 ·let#[4010,p,g,x,P,L,#[hP,v,d,1,hg,hN,L1,L4,hv,hz,q]]:=h
  let#[dx,a2]:=id hg;erw[_,(af (am (i:=2) Hd.nd rfl (Or.inr rfl) (bR Iy hr.m (pv 0)))
(af (aL (PW.pt (gf (cF (bW (az JQ hr.m #[6,2,1]))) (f9 (cF (bW (lD K T #[9,aR (N:=["own", "letters"]) (src:=[none,some 2]) rfl rfl rfl #[9,aG K rfl (pv 1)] (λ_ _ _=>by rwa[by exact(bL (i:=0) nd_9 rfl rfl),aO,by exact(az JQ hr.m #[6,1,0])])] false))))))
(ai (fy xt.ek ANoTurn #[6,iH]))
aB)
(af (be PassesOwn.leaving rfl (aG K rfl (pv 1)) (aM (i:=3) Hd.nd rfl #[4])
(ai (aL (cF (bW (lD K T #[9,aR (N:=["number", "ring"]) (src:=[none,some 0]) rfl rfl rfl #[9,aG K rfl (pv 3)] (λ_ _ _=>by rwa[by exact(bL (i:=0) F4 rfl rfl),aO,by exact(iP (jk MtF hr.m (bR Ix hr.m (pv 1)) #[6,0]) (jk MtR hr.m (bR Ix hr.m (pv 1)) #[6,0]))])] false)))
(ai (fy xt.ek ANoTurn #[6,iH]))
aB)))
(ai (aL (aw gh (az Lh hr.m #[6,(bR Ix hr.m (pv 0)),1]) (pv 2) (au _))
(ai (fy xt.ek ANoTurn #[6,iH]))
aB))))),?_]
  erw[7332,0,g,dx,0,a2,1,g,x,L,1,hg,?_];erw[119211,0,0,p,L,(3),v,d,1,hv,0,?_];have no:lJ P L.toNat d=false->Rz CT E H:=λe=>hz λz=>by rw[z.rows] at e;cases e
  rcases hv.split (K:=K) with⟨t,ty,e,hn⟩|⟨a,us,ds,m,em,rfl,rfl,ap,ha,hl6,r⟩
  ·rw[pV hn];erw[aU (aU #[by show 1<=sizeLine;decide,no ?_ _ (Ga.refl _)])]
   unfold lJ
   split
   ·rwa[absurd rfl (hn _)]
   ·rfl
  obtain rfl:m=2:=()
  have lu:=Paired.length r;have rD:lJ P L.toNat (.list ds)=(decide (ds.length=L.toNat)&&ds.all (gr P L.toNat)):=rfl;rw[rD] at no
  by_cases hL:(ds.length:Int)=L
  case neg=>
   rw[show jB L (.list ds)=false from GN hL]
   rw[GN (),NL] at no
   rwa[aU (aU #[by show 1<=sizeLine;decide,no rfl _ (Ga.refl _)])]
  rw[show jB L (.list ds)=true from q_ hL]
  rw[q_ (show ds.length=L.toNat by lia),Nx] at no
  erw[bO ?_];erw[52,0,a,1,#[_,SqL.of ha],kz (rest:=[some (.int L)]) rfl (λi=>.bl (jB L (ds.getD i .none))) ha () (λi v H1 R hv s1 hR=>?_) λacc H1 a4 s1 O=>?_]
  ·let#[di,ed,hd]:=aD r hv;rw[pL ed] at hR;rwa[1192,0,0,p,L,_,v,di,1,hd.same s1,hR H1 (Ga.refl _)]
  rw[lu,qu ds .none λd=>V.bl (jB L d)] at O
  have e1:ds.map (λd=>V.bl (jB L d))=(ds.map (jB L)).map V.bl:=by rw[Oo];rfl
  rw[e1] at O;erw[2211,acc,0,fI (SqL.of O),0,?_];rw[all_map]
  by_cases U:ds.all (jB L)=true
  case neg=>
   show if (!(ds.all (jB L)))=true then _ else _
   rw[No.mpr U];erw[aU #[by show 1<=sizeLine;decide,no (No.mpr λz=>U ?_) _ s1]]
   rw[Q8] at z ⊢;rwa[λd hd=>ze L1 (z d hd)]
  show if (!(ds.all (jB L)))=true then _ else _
  rw[U];erw[bO ?_];erw[52,0,a,1,#[_,SqL.of (s1 _ _ ha)],bw (xs:=us) (λi σ H'=>∃x3:Option V,σ=[some (.ref g),some (.ref a),some (.int L),x3]/\Ga H H'/\(ds.take i).all (gr P L.toNat)=true) ?_ ?_ ?_ ?_]
  ·rwa[none,1,s1,1]
  ·intro i σ H' _ a3;let#[12,x3,1,sm,_]:=a3
   rwa[SqL.of (sm _ _ ha)]
  ·intro i v σ H2 hv a3 N0 B0 a5;let#[12,x3,1,s2,hT]:=a3
   let#[di,ed,hd]:=aD r hv;have ld:jB L di=true:=List.all_eq_true.mp U di (GY ed)
   rcases(hd.same s2).split (K:=K) with⟨t,ty,e,hn⟩|⟨b,ws,es,m,em,rfl,rfl,bp,hb,hl6',r'⟩
   ·rw[pV hn] at ld;cases ld
   obtain rfl:m=1:=()
   have lw:=Paired.length r';erw[52,0,b,1,#[_,SqL.of hb],kz (rest:=[some (.ref g)]) rfl (λi=>.bl (cY P (es.getD i .none))) hb () (λi v H3 R hv s3 hR=>?_) λacc H3 a4 s3 O=>?_]
   ·let#[ei,ee,he]:=aD r' hv;rw[pL ee] at hR;let#[th,nv]:=(he.same s3).thing (K:=K) (P:=P);have a1:=s2.trans s3;erw[yG (hN.mono λo e=>a1 _ _ e) th (λZ z=>#[7332,0,g,dx,0,a1 _ _ a2,1,g,x,L,1,#[dx,a1 _ _ a2],z]) (λZ z=>#[0,z]) ?_]
    rw[nv];rwa[hR H3 (Ga.refl _)]
   rw[lw,qu es .none λd=>V.bl (cY P d)] at O
   have e1:es.map (λd=>V.bl (cY P d))=(es.map (cY P)).map V.bl:=by rw[Oo];rfl
   rw[e1] at O;erw[2211,acc,0,fI (SqL.of O),0,?_];rw[all_map];show if (!(es.all (cY P)))=true then _ else _
   have rr:gr P L.toNat (.list es)=es.all (cY P):=by
    show(decide (es.length=L.toNat)&&_)=_;have ld:=E_ ld;rw[q_ (),Nx]
   by_cases hn:es.all (cY P)=true
   ·rw[hn];erw[bO (a5 _ _ #[0,s2.trans s3,?_])];rw[Mw,ed,List.all_append,hT];show(true&&(gr P L.toNat (.list es)&&true))=true;rw[rr,hn]
    rfl
   ·rw[No.mpr hn];erw[aU #[by show 1<=sizeLine;decide,no (No.mpr λz=>hn ?_) _ (s2.trans s3)]]
    rw[<- rr];rwa[List.all_eq_true.mp z _ (GY ed)]
  ·intro σ H2 a3;let#[12,x3,1,s2,hT]:=a3
   rw[lu,MZ] at hT
   let#[12,rows,pr,1,ok]:=gW hP r hT
   have lr:rows.length=L.toNat:=by
    rw[z_] at hL;lia
   erw[733270,0,g,dx,0,s2 _ _ a2,1,g,x,L,1,#[dx,s2 _ _ a2],0,x,a,P,#[hP,L.toNat,us,rows,1,hN.mono λo e=>s2 _ _ e,s2 _ _ ha,aq (λ_ _ z=>z.same s2) pr,(),(),λxs hx=>vq () (ok xs hx),λKp H3 kp s3=>?_]]
   have a1:=s2.trans s3;have ti:=si hP lr (λxs hx=>#[(ok xs hx).1,λy hy=>((ok xs hx).2 y hy).1]) kp
   erw[0,1,0,?_]
   by_cases hk:(Kp.length:Int)=L
   ·rw[q_ (LD V.int hk)];rwa[bO (q (ti.mpr ()) _ a1)]
   ·rw[GN (λz=>hk (by injection z))]
    rwa[aU #[by show 1<=sizeLine;decide,hz (λz=>hk (by have:=ti.mp z;lia)) _ a1]]
end
theorem FE:(["_law_number_here", "_law_prime_here"]:List Str).Nodup:=#[5]
def v4:Sp:=λvs H Q _=>∃(p:List Addr) (P L:Int) (hP:Gc P) (v:V) (d:PyData),vs=[.int P,.int L,v]/\1<=L/\L<=4/\Dv p H 3 v d/\∀(b:Bool) H',(b=true↔GD hP L.toNat d)->Ga H H'->Q (.bl b) H'
section
variable [Quiet base]
theorem sc__law_is_turn:Gb ["_law_prime_here", "_law_letters", "_law_thing", "_law_row"] ["_law_prime_here", "_law_letters", "_law_thing"] (aj eC):=.i
theorem zo(F:Fun K "_law_is_turn" "_law_is_turn" eC f fd)(T:Blt mg)(Iu:`FnB 2 "_law_number_like" (AT K))(JD:`FnB 3 "_law_rank" vU):
  Gd P w K mg base CX0 4 f fd ["_law_prime_here", "_law_letters", "_law_thing"] v4:=by
 erw[F.o sc__law_is_turn λ_ _ _ _ H _ Q _ hr h=>?_]
 ·let#[30,p,P,L,#[hP,v,d,1,L1,L4,hv,q]]:=h
  erw[_,(af (aL (PW.pt (gf (cF (bW (eG K T (pv 2) T.list dh))) (f9 (aw gh (bY K T (pv 2)) (pv 1) (au _)))))
(ai (ar dU))
aB)
(af (be Hu rfl (aG K rfl (pv 2)) (aM (i:=3) sc__law_is_turn.nd rfl #[4])
(af (aL (PW.pt (gf (cF (bW (eG K T (pv 3) T.list dh))) (f9 (aw gh (bY K T (pv 3)) (pv 1) (au _)))))
(ai (ar dU))
aB)
(ai (aL (cF (bW (lD K T #[9,aR (N:=["_law_number_here", "_law_prime_here"]) (src:=[none,some 0]) rfl rfl rfl #[9,aG K rfl (pv 3)] (λ_ _ _=>by rwa[by exact(bL (i:=0) FE rfl rfl),aO,by exact(az Iu hr.m #[6,1,0])])] false)))
(ai (ar dU))
aB))))
(ai (ar (cg bf (az JD hr.m #[6,0,2]) (pv 1) (au _)))))),?_]
  have no:lJ P L.toNat d=false->∀H',Ga H H'->Q (.bl false) H':=λe H' s'=>q false H' #[λz=>(by cases z),λz=>(by rw[z.rows] at e;cases e)] s'
  rcases hv.split (K:=K) with⟨t,ty,e,hn⟩|⟨a,us,ds,m,em,rfl,rfl,ap,ha,hl6,r⟩
  ·erw[6211,0,t,false,ty,e,0,aU (aU (no ?_ _ (Ga.refl _)))];unfold lJ
   split
   ·rwa[absurd rfl (hn _)]
   ·rfl
  obtain rfl:m=2:=()
  have lu:=Paired.length r;have rD:lJ P L.toNat (.list ds)=(decide (ds.length=L.toNat)&&ds.all (gr P L.toNat)):=rfl;rw[rD] at no;erw[6211,0,_,true,.lst ha,1,0,bO ?_];erw[621211,0,a,us,1,.inl (SqL.of ha),0,1,0,?_]
  by_cases hL:(us.length:Int)=L
  case neg=>
   rw[GN (show ¬V.int (us.length:Int)=V.int L from λz=>hL (by injection z))]
   rw[GN (),NL] at no
   rwa[aU (no rfl _ (Ga.refl _))]
  rw[q_ (show V.int (us.length:Int)=V.int L from LD V.int hL)]
  rw[q_ (show ds.length=L.toNat by lia),Nx] at no
  erw[bO ?_];erw[52,0,a,1,#[_,SqL.of ha],bw (xs:=us) (λi σ H'=>∃x3:Option V,σ=[some (.int P),some (.int L),some (.ref a),x3]/\Ga H H'/\(ds.take i).all (gr P L.toNat)=true) ?_ ?_ ?_ ?_]
  ·rwa[none,1,Ga.refl _,1]
  ·intro i σ H' _ Z;let#[12,x3,1,sm,_]:=Z
   rwa[SqL.of (sm _ _ ha)]
  ·intro i v σ H2 hv Z N0 B0 a1;let#[12,x3,1,s2,hT]:=Z
   let#[di,ed,hd]:=aD r hv;have O:gr P L.toNat di=false->∀H',Ga H2 H'->Q (.bl false) H':=λe H' s'=>no (No.mpr λz=>by rw[List.all_eq_true.mp z _ (GY ed)] at e;cases e) _ (s2.trans s')
   rcases(hd.same s2).split (K:=K) with⟨t,ty,e,hn⟩|⟨b,ws,es,m,em,rfl,rfl,bp,hb,hl6',r'⟩
   ·erw[6211,0,t,false,ty,e,0,aU (aU (O ?_ _ (Ga.refl _)))];unfold gr
    split
    ·rwa[absurd rfl (hn _)]
    ·rfl
   obtain rfl:m=1:=()
   have lw:=Paired.length r';have rr:gr P L.toNat (.list es)=(decide (es.length=L.toNat)&&es.all (cY P)):=rfl;rw[rr] at O;erw[6211,0,_,true,.lst hb,1,0,bO ?_];erw[621211,0,b,ws,1,.inl (SqL.of hb),0,1,0,?_]
   by_cases hl:(ws.length:Int)=L
   case neg=>
    rw[GN (show ¬V.int (ws.length:Int)=V.int L from λz=>hl (by injection z))]
    rw[GN (),NL] at O
    rwa[aU (O rfl _ (Ga.refl _))]
   rw[q_ (show V.int (ws.length:Int)=V.int L from LD V.int hl)]
   rw[q_ (show es.length=L.toNat by lia),Nx] at O rr
   erw[bO ?_];erw[52,0,b,1,#[_,SqL.of hb],kz (rest:=[some (.int P)]) rfl (λi=>.bl (cY P (es.getD i .none))) hb () (λi v H3 R hv s3 hR=>?_) λacc H3 a3 s3 U=>?_]
   ·let#[ei,ee,he]:=aD r' hv;rw[pL ee] at hR;let#[th,nv]:=(he.same s3).thing (K:=K) (P:=P);erw[5123,0,0,P,v,1,hP,th,λH4 s4=>?_]
    rw[nv];rwa[hR H4 s4]
   rw[lw,qu es .none λd=>V.bl (cY P d)] at U
   have e1:es.map (λd=>V.bl (cY P d))=(es.map (cY P)).map V.bl:=by rw[Oo];rfl
   rw[e1] at U;erw[2211,acc,0,fI (SqL.of U),0,?_];rw[all_map];show if (!(es.all (cY P)))=true then _ else _
   by_cases hn:es.all (cY P)=true
   ·rw[hn];erw[bO (a1 _ _ #[0,s2.trans s3,?_])];rw[Mw,ed,List.all_append,hT];show(true&&(gr P L.toNat (.list es)&&true))=true;rw[rr,hn]
    rfl
   ·rw[No.mpr hn];rwa[aU (O (No.mpr hn) _ s3)]
  ·intro σ H2 Z;let#[12,x3,1,s2,hT]:=Z
   rw[lu,MZ] at hT
   let#[12,rows,pr,1,ok]:=gW hP r hT
   have lr:rows.length=L.toNat:=by
    rw[z_] at lu;lia
   erw[5120,0,0,a,P,#[hP,L.toNat,us,rows,1,s2 _ _ ha,aq (λ_ _ z=>z.same s2) pr,(),(),λi xs e=>?_,λKp H3 kp s3=>?_]]
   ·have o:=ok xs (GY e)
    let#[12,B,B0,B1,hB]:=mr () o
    rwa[vq () o,.inl #[B,B0,Hb B1 (Hr #[] #[]),λy hy=>(hB y hy).more (Hr #[] #[])]]
   have a2:=s2.trans s3;have ti:=si hP lr (λxs hx=>#[(ok xs hx).1,λy hy=>((ok xs hx).2 y hy).1]) kp
   erw[0,1,q _ _ ?_ a2];rw[decide_eq_true_iff];erw[Iff.trans #[λz=>?_,λz=>?_] ti.symm]
   ·injection z with z
    lia
   ·rw[z];congr 1;lia
end
theorem FD:(["_law_row"]:List Str).Nodup:=#[5]
def xZ:Sp:=λvs H Q _=>∃(p:List Addr) (v:V) (d:PyData),vs=[v]/\Dv p H 3 v d/\(∀a∈p,∃o,H a=some o)/\∀v' H',Ga H H'->Dv p H' 3 v' d->Q v' H'
theorem EF(h:∀a∈p,∃o,H a=some o)(hc:H c=none):c∉p:=λz=>by
 let#[o,e]:=h c z;rw[hc] at e;cases e
section
variable [Quiet base]
theorem qi:Gb ["_law_thing"] ["_law_thing"] (aj gP):=.i
theorem yl(F:Fun K "_law_kept" "_law_kept" gP f fd)(T:Blt mg):
  Gd P w K mg base CX0 1 f fd ["_law_thing"] xZ:=by
 erw[F.o qi λ_ _ _ _ H _ Q _ hr h=>?_]
 ·let#[33,p,v,d,1,hv,hp,q]:=h
  erw[_,(af (aL (bW (eG K T (pv 0) T.list dh))
(ai (ar #[9,aR (N:=["_law_row"]) (src:=[none]) rfl rfl rfl #[9,aG K rfl (pv 0)] (λ_ _ _=>by rwa[by exact(bL (i:=0) FD rfl rfl),aO,by exact(mM (bW (eG K T (pv 0) T.list dh)) (jg K T (pv 0)) (pv 0))])]))
aB)
(ai (ar (pv 0)))),?_]
  rcases hv.split (K:=K) with⟨t,ty,e,hn⟩|⟨a,us,ds,m,em,rfl,rfl,ap,ha,hl6,r⟩
  ·rwa[6211,0,t,false,ty,e,0,bO #[0,q _ _ (Ga.refl _) hv]]
  obtain rfl:m=2:=()
  have lu:=Paired.length r;erw[6211,0,_,true,.lst ha,1,0,aU ?_];erw[52,0,a,1,#[_,SqL.of ha],BN (p:=p) (n:=2) (m:=us.length) (ds:=ds) (rest:=[]) rfl hl6 lu.symm (λi H1 hi s1=>#[21,us,_,SqL.of (s1 _ _ ha),ge hi]) (λH1 s1=>#[us,SqL.of (s1 _ _ ha),e_ _]) (λacc i x d H1 H2 R U O ed s1 hy hR=>?_) λacc zs H1 U s1 O lz pz=>?_]
  ·let#[1,hx]:=hy;have hx:=hx us (SqL.of (s1 _ _ ha));let#[d',Z,hd]:=aD r hx;rw[ed] at Z;cases Z;let#[zs,a2]:=O;have a1:Dv (acc::p) H2 2 x d:=(hd.free U).same s1
   rcases a1.split (K:=K) with⟨t,ty,e,hn⟩|⟨b,ws,es,m,em,rfl,rfl,bp,hb,hl6',r'⟩
   ·rwa[6211,0,t,false,ty,e,0,bO #[0,hR _ _ (Ga.refl _) a1]]
   ·obtain rfl:m=1:=()
    erw[6211,0,_,true,.lst hb,1,0,aU ?_];erw[62,0,b,ws,1,.inl (SqL.of hb),λc nc=>?_]
    have s2:=Ga.new (o:=.lst ws) nc;erw[hR _ _ s2 (.inr (.inl #[35,c,ws,es,1,1,λz=>?_,ae,hl6',aq (λ_ _ z=>z.same s2) r']))]
    rcases HB.mp z with rfl|z
    ·rw[a2] at nc;cases nc
    ·let#[o,e]:=hp c z;rw[s1 _ _ e] at nc;cases nc
  ·rwa[q _ _ s1 (.inr (.inl #[35,acc,zs,ds,1,1,EF hp U,O,(),pz]))]
end
theorem Fa:(["_law_letter", "_law_letters", "_law_prime_here", "_law_bag_here"]:List Str).Nodup:=#[5]
theorem F0:(["_law_one", "_law_prime_here", "_law_bag_here"]:List Str).Nodup:=#[5]
def GI(p:List Addr)(P:Int)(H:Hp)(v:V)(xs:List (Int×Int)):Prop:=∃r us,v=.ref r/\r∉p/\H r=some (.lst us)/\Paired (At P H) us xs
theorem GI.keep{P:Int}{b:Addr}{zs:List V}(hb:H b=some (.lst zs))(bp:b∈p)(k:∀c o,H c=some o->c≠b->H' c=some o)(h:GI p P H v xs):GI p P H' v xs:=by
 let#[23,r,us,e,n,h1,h2]:=h
 rwa[23,r,us,e,n,k _ _ h1 λz=>n (z▸bp),aq (λ_ _ z=>z.mono λt ys e=>k _ _ e (bD e hb #[3])) h2]
theorem GI.same{P:Int}(s:Ga H H')(h:GI p P H v xs):GI p P H' v xs:=by
 let#[23,r,us,e,n,h1,h2]:=h
 rwa[23,r,us,e,n,s _ _ h1,aq (λ_ _ z=>z.same s) h2]
def vZ:Sp:=λvs H Q _=>∃(p:Addr) (P L a b:Int) (k:Nat),vs=[.int P,.int L,.ref p]/\Gc P/\1<=L/\L<=4/\H p=some (.lst [.int a,.int b])/\Gn a b k/\k<=600000/\
 ∀(l:Addr) (ws:List V) (rows:List (List (Int×Int))) (a' b':Int) (H':Hp),H l=none->H' l=some (.lst ws)->Paired (GI [p] P H') ws rows->rows.length=L.toNat->(∀xs∈rows,xs.length=L.toNat/\∀y∈xs,OkN P y/\(P=0->Sz 2 y))->H' p=some (.lst [.int a',.int b'])->Gn a' b' (k+40)->(∀c o,H c=some o->c≠p->H' c=some o)->Q (.ref l) H'
section
variable [Quiet base]
theorem nJ:Gb ["_law_prime_here", "_law_letters", "_law_bag_here"] ["_law_prime_here", "_law_letters", "_law_bag_here"] (aj fH):=.i
theorem ww(F:Fun K "_law_drawn" "_law_drawn" fH f fd)(T:Blt mg)(Ii:`FnB 4 "_law_number" kn):
  Gd P w K mg base CX0 5 f fd ["_law_prime_here", "_law_letters", "_law_bag_here"] vZ:=by
 erw[F.o nJ λ_ _ _ _ H _ Q _ hr h=>?_]
 ·let#[4027,p,P,L,a,b,k,1,hP,L1,L4,hp,hb,hk,q]:=h
  erw[_,(ai (ar #[9,aR (N:=["_law_letter", "_law_letters", "_law_prime_here", "_law_bag_here"]) (src:=[none,some 1,some 0,some 2]) rfl rfl rfl #[9,bU rfl T.range #[6,1]] (λ_ _ _=>by rwa[by exact(bL (i:=0) Fa rfl rfl),aO,by exact#[9,aR (N:=["_law_one", "_law_prime_here", "_law_bag_here"]) (src:=[none,some 2,some 3]) rfl rfl rfl #[9,bU rfl T.range #[6,1]] (λ_ _ _=>by rwa[by exact(bL (i:=0) F0 rfl rfl),aO,by exact(az Ii hr.m #[6,1,2,dU])])]])])),?_]
  erw[53,0,L,1,(),(),cc (n:=L.toNat) (σ0:=[none,some (.int L),some (.int P),some (.ref p)]) rfl (λacc i zs σ H'=>(∃u,σ=[u,some (.int L),some (.int P),some (.ref p)])/\(∀c o,H c=some o->c≠p->H' c=some o)/\∃(rows:List (List (Int×Int))) (a' b':Int),H' p=some (.lst [.int a',.int b'])/\Gn a' b' (k+8*i)/\zs.length=i/\Paired (GI [acc,p] P H') zs rows/\rows.length=i/\∀xs∈rows,xs.length=L.toNat/\∀y∈xs,OkN P y/\(P=0->Sz 2 y)) (by rw[Hc];lia) (λacc O=>?_) ?_ ?_ ?_ ?_]
  ·have pa:=al hp O;rwa[0235,#[none,1],λc o e _=>by rw[ak (al e O)];rwa[e],[],a,b,by rw[ak pa];rwa[hp],hb,1,.nil,1,λxs hx=>nomatch hx]
  ·rintro acc i zs σ H1 O hi hz _;rwa[hi]
  ·rintro acc zs σ H1 O hz _;rwa[e_ _]
  ·rintro acc i zs σ H1 x ax O hi hz a9 ⟨⟨u,rfl⟩,kp,rows,a1,b1,U,Z,lz,pz,lr,ok⟩ ⟨rfl,rfl⟩;have pa:=al hp O;erw[53,0,L,1,(),(),zD (P:=P) (c:=2) (rest:=[some (.int P),some (.ref p)]) rfl (λy=>OkN P y/\(P=0->Sz 2 y)) () U Z (λj a2 b2 H2 R hj a5 a4 kp2 hR=>?_) λr us ys a2 b2 H2 nr kp2 a5 a4 hr pu ly ap=>?_]
   ·rwa[1195,0,0,p,P,a2,b2,0,hP,a5,a4,(),λv y a3 b3 H3 av oy sy a8 a7 ad=>hR v y a3 b3 H3 av #[oy,sy] a8 (a7.mono ()) ad]
   ·have a6:=kp2 _ _ hz pa.symm;have ra:r≠acc:=(al hz nr).symm;have rp:r≠p:=(al U nr).symm;have kt:∀t xs,H2 t=some (.tup xs)->(upd H2 acc (.lst (zs++[.ref r]))) t=some (.tup xs):=λt xs e=>by rw[ak (bD e a6 #[3])];rwa[e]
    erw[121435,zs,a6,by rw[Hc];lia,_,ae,by rw[x_,He];lia,#[0],λc o e hc=>?_,rows++[ys],a2,b2,by rw[ak pa];rwa[a5],a4.mono (),by rw[x_,lz];rfl,aV #[23,r,us,1,by simp[ra,rp],by rw[ak ra];rwa[hr],aq (λ_ _ z=>z.mono kt) pu] (aq (λ_ _ z=>(z.keep U (by simp) kp2).keep a6 (by simp) λc o e hc=>by rw[ak hc];rwa[e]) pz),by rw[x_,lr];rfl,λxs hx=>?_]
    ·rw[ak (al e O)];rwa[kp2 _ _ (kp _ _ e hc) hc]
    ·rcases Ht.mp hx with z|z
     ·rwa[ok xs z]
     ·rw[D_.mp z];rwa[ly,ap]
  ·intro acc zs σ H1 O hz a9 ac;let#[0235,_,kp,rows,a1,b1,U,Z,lz,pz,lr,ok]:=ac
   rwa[q acc zs rows a1 b1 H1 O hz (aq (λv xs z=>by let#[23,r,us,e,n,h1,h2]:=z;rwa[23,r,us,e,λy=>n (I_ _ y),h1,h2]) pz) lr ok U (Z.mono ()) kp]
end
theorem F8:(["_law_a", "_law_b", "_law_prime_here", "_law_number_here"]:List Str).Nodup:=#[5]
theorem F7:(["_law_a", "_law_prime_here"]:List Str).Nodup:=#[5]
theorem Fj:(["_law_a", "_law_prime_here", "_law_number_here"]:List Str).Nodup:=#[5]
theorem Fm{ps:List Addr}{P:Int}(hps:∀a∈ps,∃xs,H a=some (.lst xs))(h:At P H v y)(s:Sz 30 y):Dv ps H 1 v (dN P y):=by
 unfold dN
 rcases h with⟨h0,t,rfl,ht⟩|⟨h0,rfl,_⟩
 ·rw[C_ h0];erw[.inr (.inr #[35,t,2,λz=>?_,ht,by show 2<=6;decide,.cons (.inl #[0,1,s.1]) (.cons (.inl #[0,1,s.2]) .nil)])]
  let#[xs,e]:=hps t z;rw[ht] at e;cases e
 ·rw[w_ h0];rwa[.inl (.inl #[0,1,s.1])]
theorem uo{ps:List Addr}{P:Int}(hps:∀a∈ps,∃xs,H a=some (.lst xs)):∀{us:List V} {xs:List (Int×Int)},Paired (At P H) us xs->(∀y∈xs,Sz 30 y)->Paired (Dv ps H 1) us (xs.map (dN P))
 |_,_,.nil,_=>.nil
 |_,_,.cons q r,h=>.cons (Fm hps q (h _ LN)) (uo hps r λy O=>h y (I_ _ O))
theorem vh{ps:List Addr}{P:Int}(hps:∀a∈ps,∃xs,H a=some (.lst xs))(h:GI ps P H v xs)(l:xs.length<=6)(s:∀y∈xs,Sz 30 y):Dv ps H 2 v (dRN P xs):=by
 let#[23,r,us,1,n,h1,h2]:=h
 rwa[.inr (.inl #[35,r,us,0,1,n,h1,by rw[Paired.length h2];rwa[l],uo hps h2 s])]
theorem k9{ps:List Addr}{P:Int}(hps:∀a∈ps,∃xs,H a=some (.lst xs)):∀{ws:List V} {rows:List (List (Int×Int))},Paired (GI ps P H) ws rows->(∀xs∈rows,xs.length<=6/\∀y∈xs,Sz 30 y)->Paired (Dv ps H 2) ws (rows.map (dRN P))
 |_,_,.nil,_=>.nil
 |_,_,.cons q r,h=>.cons (vh hps q (h _ LN).1 (h _ LN).2) (k9 hps r λy O=>h y (I_ _ O))
theorem qm{P:Int}(hP:Gc P)(o:OkN P y)(h:P=0->Sz 30 y):Sz 30 y:=by
 have O:=hP.b
 by_cases h0:P=0
 ·rwa[h h0]
 ·rcases o with⟨z,_⟩|⟨_,h1,h2,h3⟩
  ·rwa[absurd z h0]
  ·have:Sz 14 y:=#[(),by rw[h3];decide]
   rwa[this.mono #[]]
theorem qW{P:Int}(hP:Gc P){c:Int×Int}(oc:OkN P c)(ox:OkN P x)(sc:P=0->Sz 2 c)(sx:P=0->Sz 2 x):OkN P (bV P c x)/\(P=0->Sz 4 (bV P c x)):=by
 erw[ie hP.b.1 oc ox,λh0=>?_]
 unfold bV;rw[C_ h0];have O:=gY oc;have U:=gY ox;rwa[tf (MA () ()) (fQ (sc h0).1 (sx h0).1) (fQ (sc h0).2 (sx h0).2)]
theorem AY{P:Int}(hP:Gc P){m:Int×Int}(om:OkN P m)(oy:OkN P y)(sm:P=0->Sz 4 m)(sy:P=0->Sz 2 y):OkN P (bT P m y)/\(P=0->Sz 7 (bT P m y)):=by
 erw[i6 hP.b.1 om oy,λh0=>?_]
 unfold bT;rw[C_ h0];have O:=gY om;have U:=gY oy;have h1:(m.1*y.2).natAbs<64:=fQ (sm h0).1 (sy h0).2;have h2:(y.1*m.2).natAbs<64:=fQ (sy h0).1 (sm h0).2;have Z:(m.2*y.2).natAbs<64:=fQ (sm h0).2 (sy h0).2;have h4:=Int.natAbs_add_le (m.1*y.2) (y.1*m.2);rwa[tf (MA () ()) (by show _<128;lia) (by show _<128;lia)]
theorem mi(xs:List V)(i:Nat):i8 xs none (some (i:Int))=xs.take i:=by
 unfold i8;simp[HT.sIx];rw[w_ ()]
 lia
theorem qV(xs:List V)(i:Nat):i8 xs (some (i:Int)) none=xs.drop i:=by
 unfold i8;simp[HT.sIx];rw[w_ (),NI (by rw[Qn];lia)]
 by_cases h:i<=xs.length
 ·rw[Nat.min_eq_left h]
 ·rw[Nat.min_eq_right (),List.drop_of_length_le (e_ _),List.drop_of_length_le ()]
theorem fJ{R:α->β->Prop}:∀(n:Nat) {xs:List α} {ys:List β},Paired R xs ys->Paired R (xs.take n) (ys.take n)
 |0,_,_,_=>by rw[List.take_zero,List.take_zero];rwa[.nil]
 |_+1,_,_,.nil=>by rw[List.take_nil,List.take_nil];rwa[.nil]
 |n+1,_,_,.cons q r=>.cons q (fJ n r)
theorem kZ{R:α->β->Prop}:∀(n:Nat) {xs:List α} {ys:List β},Paired R xs ys->Paired R (xs.drop n) (ys.drop n)
 |0,_,_,h=>h
 |_+1,_,_,.nil=>by rw[List.drop_nil,List.drop_nil];rwa[.nil]
 |n+1,_,_,.cons _ r=>kZ n r
theorem fz{R:α->β->Prop}{us:List α}{vs:List β}(h2:Paired R us vs):∀{xs:List α} {ys:List β},Paired R xs ys->Paired R (xs++us) (ys++vs)
 |_,_,.nil=>h2
 |_,_,.cons q r=>.cons q (fz h2 r)
def yw:Sp:=λvs H Q _=>∃(l p:Addr) (P L a b:Int) (k:Nat) (ws:List V) (rows:List (List (Int×Int))),vs=[.int P,.ref l,.ref p]/\Gc P/\1<=L/\L<=4/\l≠p/\H l=some (.lst ws)/\Paired (GI [p] P H) ws rows/\rows.length=L.toNat/\(∀xs∈rows,xs.length=L.toNat/\∀y∈xs,OkN P y/\(P=0->Sz 2 y))/\H p=some (.lst [.int a,.int b])/\Gn a b k/\k<=600000/\
 ∀(v:V) (d:PyData) (a' b':Int) (H':Hp),Dv [p] H' 3 v d->H' p=some (.lst [.int a',.int b'])->Gn a' b' (k+10)->(∀c o,H c=some o->c≠p->H' c=some o)->Q v H'
section
variable [Quiet base]
theorem Gm:Gb ["_law_prime_here", "_law_lists", "_law_bag_here", "_law_at", "_law_one", "_law_other", "_law_number_here", "_law_row", "_law_way"] ["_law_prime_here", "_law_lists", "_law_bag_here"] (aj eP):=.i
theorem Ah(F:Fun K "_law_made_of" "_law_made_of" eP f fd)(T:Blt mg)(HQ:`FnB 1 "_law_take" fD)(Ii:`FnB 4 "_law_number" kn)(Ir:`FnB 2 "_law_plus" (oH bT))(Ig:`FnB 2 "_law_times" (oH bV))(Ih:`FnB 1 "_law_nought" mO):
  Gd P w K mg base CX0 5 f fd ["_law_prime_here", "_law_lists", "_law_bag_here"] yw:=by
 erw[F.o Gm λ_ _ _ _ H _ Q _ hr h=>?_]
 ·let#[40401903,l,p,P,L,a,b,k,ws,rows,1,hP,L1,L4,lp,hl,pr,lr,ok,hp,hb,hk,q]:=h
  erw[_,(af #[5,3,Gm,(az HQ hr.m #[6,2,(bY K T (pv 1))])]
(af #[5,4,Gm,(aC (aH K rfl) (pv 1) (az HQ hr.m #[6,2,(bY K T (pv 1))]) (λ_ _=>rfl))]
(af #[5,5,Gm,(aC (aH K rfl) (pv 1) (az HQ hr.m #[6,2,(bY K T (pv 1))]) (λ_ _=>rfl))]
(af (am (i:=6) Gm.nd rfl (Or.inr rfl) (az Ii hr.m #[6,0,2,dU]))
(af (dD (i:=7) Gm.nd rfl #[4] (N:=["_law_a", "_law_b", "_law_prime_here", "_law_number_here"]) (src:=[none,none,some 0,some 6]) rfl rfl rfl #[9,qo K false false rfl rfl T.zip #[6,4,5]] (λ_ _ _=>by rwa[by exact(bx K (i:=0) (j:=1) rfl rfl F8 rfl rfl rfl rfl),aO,by exact(az Ir hr.m #[6,2,(az Ig hr.m #[6,2,3,0]),1])]))
(af #[5,8,Gm,(az HQ hr.m #[6,2,ah])]
(af (aL (aw bf (pv 8) ah (au _))
(ai (dD (i:=7) Gm.nd rfl #[4] (N:=["_law_a", "_law_prime_here"]) (src:=[none,some 0]) rfl rfl rfl #[9,aG K rfl (pv 4)] (λ_ _ _=>by rwa[by exact(bL (i:=0) F7 rfl rfl),aO,by exact(az Ih hr.m #[6,1])])))
aB)
(af (aL (aw bf (pv 8) ah (au _))
(ai #[5,7,Gm,(jg K T (pv 4))])
aB)
(af (aL (aw bf (pv 8) ah (au _))
(ai (dD (i:=7) Gm.nd rfl #[4] (N:=["_law_a", "_law_prime_here", "_law_number_here"]) (src:=[none,some 0,some 6]) rfl rfl rfl #[9,aG K rfl (pv 4)] (λ_ _ _=>by rwa[by exact(bL (i:=0) Fj rfl rfl),aO,by exact(az Ig hr.m #[6,1,2,0])])))
aB)
(ai (ar (ao bS (ao bS (ji (bh K rfl) (pv 1) bG (kY (pv 3))) (aX #[6,7])) (ji (bh K rfl) (pv 1) (kY (ao aQ (pv 3) ah)) bG))))))))))))),?_]
  have lw:=Paired.length pr;have cu:∀{j v},ws[j]? = some v->∃xs,rows[j]? = some xs/\GI [p] P H v xs/\xs.length=L.toNat/\∀y∈xs,OkN P y/\(P=0->Sz 2 y):=λ{j v} e=>by
   let#[xs,ex,r]:=aD pr e;rwa[xs,ex,r,ok xs (GY ex)]
  erw[sq5 λR0 d2=>?_]
  erw[51224016,0,0,l,0,.inl (SqL.of hl),p,a,b,_,k,1,hp,hb,(),(),aP () (),λat_ a1 b1 t0 t1 d3=>?_]
  have c':∀c o,H c=some o->c≠p->(upd H p (.lst [.int a1,.int b1])) c=some o:=λc o e Z=>by rw[ak Z];rwa[e]
  have d8:(upd H p (.lst [.int a1,.int b1])) p=some (.lst [.int a1,.int b1]):=ae;generalize upd H p (.lst [.int a1,.int b1])=H1 at *;erw[51624016,0,0,0,l,0,.inl (SqL.of (c' _ _ hl lp)),p,a1,b1,_,0,d8,d3,(),(),aP () (),λr2 a2 b2 dv e6 d4=>?_]
  have kp2:∀c o,H c=some o->c≠p->(upd H1 p (.lst [.int a2,.int b2])) c=some o:=λc o e Z=>by rw[ak Z];rwa[c' _ _ e Z]
  have d9:(upd H1 p (.lst [.int a2,.int b2])) p=some (.lst [.int a2,.int b2]):=ae;generalize upd H1 p (.lst [.int a2,.int b2])=H2 at *;let#[j1,1]:=MT dv;obtain⟨v1,e1⟩:∃v,ws[j1]? = some v:=#[_,ge ()]
  erw[44,l,_,2,SqL.of (kp2 _ _ hl lp),bN e1,?_];erw[51624016,0,0,0,l,0,.inl (SqL.of (kp2 _ _ hl lp)),p,a2,b2,_,0,d9,d4,(),(),aP () (),λr3 a3 b3 dy e8 d5=>?_]
  have cb:∀c o,H c=some o->c≠p->(upd H2 p (.lst [.int a3,.int b3])) c=some o:=λc o e Z=>by rw[ak Z];rwa[kp2 _ _ e Z]
  have da:(upd H2 p (.lst [.int a3,.int b3])) p=some (.lst [.int a3,.int b3]):=ae;generalize upd H2 p (.lst [.int a3,.int b3])=H3 at *;let#[j2,1]:=MT dy;obtain⟨v2,e2⟩:∃v,ws[j2]? = some v:=#[_,ge ()]
  erw[44,l,_,2,SqL.of (cb _ _ hl lp),bN e2,?_];erw[1195,0,0,p,P,a3,b3,0,hP,da,d5,(),λu c a4 b4 H4 ac oc sc av d6 cn=>?_]
  have b7:∀c o,H c=some o->c≠p->H4 c=some o:=λc o e Z=>cn _ _ (cb _ _ e Z) Z
  let#[13,xs1,_,#[o1,us1,1,n1,g1,pu1],l1,ok1]:=cu e1
  let#[13,xs2,_,#[o2,us2,1,n2,g2,pu2],l2,ok2]:=cu e2
  have q1:Paired (At P H4) us1 xs1:=aq (λ_ _ z=>z.mono λt ys e=>b7 _ _ e (bD e hp #[3])) pu1
  have q2:Paired (At P H4) us2 xs2:=aq (λ_ _ z=>z.mono λt ys e=>b7 _ _ e (bD e hp #[3])) pu2
  have c6:=b7 _ _ g1 (by simpa using n1)
  have c7:=b7 _ _ g2 (by simpa using n2)
  have big:∀{y:Int×Int} {m:Nat},m<=30->OkN P y->(P=0->Sz m y)->Sz 30 y:=λhm o z=>qm hP o λh=>(z h).mono hm
  have a5:∀{y:Int×Int} {m:Nat},m<=30->OkN P y->(P=0->Sz m y)->Sz 4300 y:=λhm o z=>(big hm o z).mono #[]
  have e4:=Paired.length q1;have e5:=Paired.length q2;erw[5123,0,0,o1,o2,1,#[_,fI (SqL.of c6)],#[_,fI (SqL.of c7)],pD (P:=P) (rest:=[some (.int P),some u]) rfl (λ_ y=>OkN P y/\(P=0->Sz 7 y)) c6 c7 () () (λi v1 v2 H5 R f1 f2 s5 hR=>?_) λrw us ys H5 dm s5 db pu ly dz=>?_]
  ·let#[x,ex,ax]:=aD q1 f1;let#[y,ey,ay]:=aD q2 f2;let#[ox,sx]:=ok1 x (GY ex);let#[oy,sy]:=ok2 y (GY ey);let#[om,sm]:=qW hP oc ox sc sx;erw[511198,0,0,0,0,P,u,v1,c,x,1,hP,ac.same s5,ax.same s5,oc,ox,a5 #[] oc sc,a5 #[] ox sx,λr6 H6 s6 a6=>?_]
   rwa[98,0,P,r6,v2,bV P c x,y,1,hP,a6,(ay.same s5).same s6,om,oy,a5 #[] om sm,a5 #[] oy sy,λr7 H7 U a7=>hR r7 _ H7 (s6.trans U) a7 (AY hP om oy sm sy)]
  subst d2;erw[96,0,p,a4,b4,(4),0,s5 _ _ av,d6,(),#[],aP #[] #[],λc3 a6 b6 w0 w1 d7=>?_]
  have bz:∀c o,H5 c=some o->c≠p->(upd H5 p (.lst [.int a6,.int b6])) c=some o:=λc o e Z=>by rw[ak Z];rwa[e]
  have bp:(upd H5 p (.lst [.int a6,.int b6])) p=some (.lst [.int a6,.int b6]):=ae;generalize upd H5 p (.lst [.int a6,.int b6])=H6 at *;have bv:∀c o,H4 c=some o->c≠p->H6 c=some o:=λc o e Z=>bz _ _ (s5 _ _ e) Z
  have bd:∀c o,H c=some o->c≠p->H6 c=some o:=λc o e Z=>bv _ _ (b7 _ _ e Z) Z
  have cx:rw≠p:=(al av dm).symm;have ap:=bd _ _ g1 (by simpa using n1)
  have q6:Paired (At P H6) us1 xs1:=aq (λ_ _ z=>z.mono λt ys e=>bv _ _ e (bD e av #[3])) q1
  have cz:At P H6 u c:=ac.mono λt ys e=>bv _ _ e (bD e av #[3])
  have m0:GI [p] P H6 (.ref rw) ys:=#[23,rw,us,1,by simpa using cx,bz _ _ db cx,aq (λ_ _ z=>z.mono λt ys e=>bz _ _ e (bD e (s5 _ _ av) #[3])) pu]
  have new:∀{r':Addr} {ad:List V} {O:List (Int×Int)} {H7:Hp},Ga H6 H7->H6 r'=none->H7 r'=some (.lst ad)->Paired (At P H7) ad O->GI [p] P H7 (.ref r') O:=λ{r' ad O H7} U nr hr pu=>#[23,r',ad,1,by simpa using(al bp nr).symm,hr,pu]
  dsimp only;erw[vQ (t:=wT _ _ _) (λσ' H'=>∃(r':Addr) (O:List (Int×Int)),σ'=[some (.int P),some (.ref l),some (.ref p),some (.int at_),some (.ref o1),some (.ref o2),some u,some (.ref r'),some (.int c3)]/\Ga H6 H'/\GI [p] P H' (.ref r') O/\O.length=L.toNat/\∀y∈O,OkN P y/\(P=0->Sz 7 y)) (λR hR=>?_) ?_]
  ·erw[0,1,0,bC (λh=>?_) (λh=>hR _ _ #[24,rw,ys,1,Ga.refl _,m0,(),λy hy=>?_])]
   ·erw[52,0,o1,1,#[_,SqL.of ap],oY (P:=P) (rest:=[some (.int P)]) rfl (λ_ y=>y=(0,1)) ap () (λi v H7 R e U hR=>#[52,0,P,1,hP,λr H8 s8 a8=>hR r _ H8 s8 a8 rfl]) λr' ad O H7 nr U bt c1 di b9=>hR _ _ #[24,r',O,1,U,new U nr bt c1,(),λy hy=>?_]]
    let#[i,hi,e]:=Ol.mp hy;rw[b9 i y (by rw[ge hi,e])]
    rwa[dG hP.b.1 (by have:=hP.b;lia),λ_=>#[#[],#[]]]
   ·let#[i,hi,e]:=Ol.mp hy;rwa[dz i y (by rw[ge hi,e])]
  intro σ' H7 b5;let#[24,r7,ys7,1,U,rp7,ly7,ok7]:=b5
  erw[p7 (t:=wT _ _ _) (λσ' H'=>∃(r':Addr) (O:List (Int×Int)),σ'=[some (.int P),some (.ref l),some (.ref p),some (.int at_),some (.ref o1),some (.ref o2),some u,some (.ref r'),some (.int c3)]/\Ga H6 H'/\GI [p] P H' (.ref r') O/\O.length=L.toNat/\∀y∈O,OkN P y/\(P=0->Sz 7 y)) (λR hR=>?_) ?_]
  ·erw[0,1,0,bC (λh=>?_) (λh=>hR _ _ #[24,r7,ys7,1,U,rp7,ly7,ok7])]
   erw[62,0,o1,us1,1,.inl (SqL.of (U _ _ ap)),λr8 n8=>?_]
   have s8:=Ga.new (o:=.lst us1) n8;have a':=U.trans s8;rwa[hR _ _ #[24,r8,xs1,1,a',new a' (U.free n8) ae (aq (λ_ _ z=>z.same a') q6),l1,λy hy=>#[(ok1 y hy).1,λh=>((ok1 y hy).2 h).mono #[]]]]
  clear rp7 ly7 ok7 U;intro σ' H7 b5;let#[24,r7,ys7,1,U,rp7,ly7,ok7]:=b5
  erw[p7 (t:=wT _ _ _) (λσ' H'=>∃(r':Addr) (O:List (Int×Int)),σ'=[some (.int P),some (.ref l),some (.ref p),some (.int at_),some (.ref o1),some (.ref o2),some u,some (.ref r'),some (.int c3)]/\Ga H6 H'/\GI [p] P H' (.ref r') O/\O.length=L.toNat/\∀y∈O,OkN P y/\(P=0->Sz 7 y)) (λR hR=>?_) ?_]
  ·erw[0,1,0,bC (λh=>?_) (λh=>hR _ _ #[24,r7,ys7,1,U,rp7,ly7,ok7])]
   erw[52,0,o1,1,#[_,SqL.of (U _ _ ap)],oY (P:=P) (rest:=[some (.int P),some u]) rfl (λ_ y=>OkN P y/\(P=0->Sz 7 y)) (U _ _ ap) () (λi v H8 R e s8 hR=>?_) λr' ad O H8 nr s8 bt c1 di b9=>hR _ _ #[24,r',O,1,U.trans s8,new (U.trans s8) (U.free nr) bt c1,(),λy hy=>?_]]
   ·let#[x,ex,ax]:=aD q6 e;let#[ox,sx]:=ok1 x (GY ex);have a':=U.trans s8;let#[om,sm]:=qW hP oc ox sc sx;rwa[5198,0,0,0,P,u,v,c,x,1,hP,cz.same a',ax.same a',oc,ox,a5 #[] oc sc,a5 #[] ox sx,λr9 H9 s9 a9=>hR r9 _ H9 s9 a9 #[om,λh=>(sm h).mono #[]]]
   ·let#[i,hi,e]:=Ol.mp hy;rwa[b9 i y (by rw[ge hi,e])]
  clear rp7 ly7 ok7 U;intro σ' H7 b5;let#[24,r7,ys7,1,U,rp7,ly7,ok7]:=b5
  let#[j,1]:=MT t0;have c8:=U _ _ (bd _ _ hl lp);erw[5162,0,0,0,l,0,SqL.of c8,λl8 n8=>?_]
  rw[mi];have s8:=Ga.new (o:=.lst (ws.take j)) n8;have h8:(upd H7 l8 (.lst (ws.take j))) l8=some (.lst (ws.take j)):=ae;generalize upd H7 l8 (.lst (ws.take j))=H8 at *;erw[0,by show 1<=sizeLine;decide,λl9 n9=>?_]
  have s9:=Ga.new (o:=.lst [.ref r7]) n9;have h9:(upd H8 l9 (.lst [.ref r7])) l9=some (.lst [.ref r7]):=ae;generalize upd H8 l9 (.lst [.ref r7])=H9 at *;have lt:(ws.take j).length<=4:=by rw[MY];lia
  have ld:(ws.drop (j+1)).length<=4:=by rw[Qn];lia
  have lj:(ws.take j).length+1+(ws.drop (j+1)).length<=6:=by rw[MY,Qn];lia
  erw[45,l8,l9,2,s9 _ _ h8,h9,by rw[Hc];show _+1<=_;lia,λbg dk=>?_]
  have e0:=Ga.new (o:=.lst (ws.take j++[.ref r7])) dk;have d0:(upd H9 bg (.lst (ws.take j++[.ref r7]))) bg=some (.lst (ws.take j++[.ref r7])):=ae;generalize upd H9 bg (.lst (ws.take j++[.ref r7]))=c4 at *;have bb:=s8.trans (s9.trans e0);erw[512262,0,0,2,0,l,0,SqL.of (bb _ _ c8),λc0 dl=>?_]
  rw[show(j:Int)+1=((j+1:Nat):Int) from rfl,qV]
  have c2:=Ga.new (o:=.lst (ws.drop (j+1))) dl;erw[45,bg,c0,2,c2 _ _ d0,ae,by rw[x_,Hc];show _+1+_<=_;lia,λb8 cp=>?_]
  have e3:=Ga.new (o:=.lst (ws.take j++[.ref r7]++ws.drop (j+1))) cp;have d1:(upd (upd c4 c0 (.lst (ws.drop (j+1)))) b8 (.lst (ws.take j++[.ref r7]++ws.drop (j+1)))) b8=some (.lst (ws.take j++[.ref r7]++ws.drop (j+1))):=ae;have np:b8≠p:=(al (c2 _ _ (bb _ _ (U _ _ bp))) cp).symm;have bo:=bb.trans (c2.trans e3);generalize upd (upd c4 c0 (.lst (ws.drop (j+1)))) b8 (.lst (ws.take j++[.ref r7]++ws.drop (j+1)))=c5 at *;have b':=U.trans bo;have bi:=b' _ _ bp;have c9:∀a∈[p],∃xs,c5 a=some (.lst xs):=λa ha=>by
   rw[D_.mp ha];rwa[_,bi]
  have pd:=k9 c9 (aq (λ_ _ z=>(z.keep hp (by simp) bd).same b') pr) λxs hx=>#[by rw[(ok xs hx).1];lia,λy hy=>big (m:=2) #[] ((ok xs hx).2 y hy).1 ((ok xs hx).2 y hy).2]
  have pn:=vh c9 (rp7.same bo) (by rw[ly7];lia) λy hy=>big (m:=7) #[] (ok7 y hy).1 (ok7 y hy).2
  rwa[q _ (.list _) a6 b6 c5 (.inr (.inl #[35,b8,2,by simpa using np,d1,by rw[x_,x_];rwa[lj],fz (kZ (j+1) pd) (fz (.cons pn .nil) (fJ j pd))])) bi (d7.mono ()) λc o e Z=>b' _ _ (bd _ _ e Z)]
end
theorem uS{l:Addr}{ws:List V}{i:Nat}(Good:V->Hp->Prop)(h2:σ[i]? = some (some (.ref l)))(h5:σ[n]? = some (some (.int (j:Int))))(hl:H l=some (.lst ws))(lw:ws.length<=5)(hx:∀(H1:Hp) (Z:VK),Ga H H1->(∀x H2,Ga H1 H2->Good x H2->Z x H2)->te σ H1 Z)(hd:∀x d H2 H3,Ga H H2->Good x H2->Ga H2 H3->H2 d=none->H3 d=some (.lst (ws.take j++[x]++ws.drop (j+1)))->R (.ref d) H3):
  tOp yn (tOp yn (tSl (wf K) (nQ i) jl (rG (nQ n))) (Cr (ci te cQ))) (tSl (wf K) (nQ i) (rG (tOp (rI0 λi j=>V.int (i+j)) (nQ n) (tC (V.int 1)))) jl) σ H R:=by
 erw[5162,_,h2,_,h5,0,l,0,SqL.of hl,λl8 n8=>?_]
 rw[mi];have s8:=Ga.new (o:=.lst (ws.take j)) n8;have h8:(upd H l8 (.lst (ws.take j))) l8=some (.lst (ws.take j)):=ae;generalize upd H l8 (.lst (ws.take j))=H8 at *;have lt:(ws.take j).length<=5:=Hb (List.length_take_le' ..) lw;have ld:(ws.drop (j+1)).length<=5:=by rw[Qn];lia
 erw[hx H8 _ s8 λx H2 s2 g=>#[by show 1<=sizeLine;decide,λl9 n9=>?_]]
 have s9:=Ga.new (o:=.lst [x]) n9;have h9:(upd H2 l9 (.lst [x])) l9=some (.lst [x]):=ae;generalize upd H2 l9 (.lst [x])=H9 at *;erw[45,l8,l9,2,s9 _ _ (s2 _ _ h8),h9,by rw[Hc];show _+1<=_;lia,λO a7=>?_]
 have a9:=Ga.new (o:=.lst (ws.take j++[x])) a7;have a4:(upd H9 O (.lst (ws.take j++[x]))) O=some (.lst (ws.take j++[x])):=ae;generalize upd H9 O (.lst (ws.take j++[x]))=ac at *;have U:=s9.trans a9;erw[512262,_,h2,_,h5,2,0,l,0,SqL.of (U _ _ (s2 _ _ (s8 _ _ hl))),λa5 a8=>?_]
 rw[show(j:Int)+1=((j+1:Nat):Int) from rfl,qV]
 have a3:=Ga.new (o:=.lst (ws.drop (j+1))) a8;erw[45,O,a5,2,a3 _ _ a4,ae,by rw[x_,Hc];show _+1+_<=_;lia,λa6 a2=>?_]
 have a':=Ga.new (o:=.lst (ws.take j++[x]++ws.drop (j+1))) a2;have a1:=U.trans a3;rwa[hd x a6 H2 _ (s8.trans s2) g (a1.trans a') (a1.free a2) ae]
theorem se(xs:List V):i8 xs none (some (-1))=xs.take (xs.length-1):=by
 unfold i8;simp[HT.sIx];lia
def oddD(P:Int):List PyData:=[.bool true,.none,.str (Str.ofString "1"),.int 3,.tuple [.int 2,.int 4],.tuple [.int 1,.int 0],.tuple [.int 1,.int (-1)],.int P,.int (0-1),.list [.int 1],.tuple [.int 1],.tuple [.bool true,.int 1],.tuple []]
theorem cw{i:Int}(h:i.natAbs<2^30):At0 (.int i) (.int i):=.inl #[i,1,1,h]
theorem Ad(b:Bool):At0 (.bl b) (.bool b):=.inr (.inl #[b,1,1])
theorem Cj:At0 .non .none:=.inr (.inr (.inl #[1,1]))
theorem BL{x:Str}(h:(PyData.str x).canLay0=true):At0 (.str x) (.str x):=.inr (.inr (.inr #[x,1,1,h]))
theorem CA:(PyData.str (Str.ofString "1")).canLay0=true:=#[5]
theorem exQ{X:Cx}{st:List Stmt}{R:TS->Prop}(h:∃t,QSs X st t/\R t):∃t,PSs X st t/\R t:=qSs▸h
def sR:=qE▸@rQ
def lG:Sp:=λvs H Q _=>∃(l p:Addr) (P L a b:Int) (k:Nat) (ws:List V) (rows:List (List (Int×Int))),vs=[.int P,.int L,.ref l,.ref p]/\Gc P/\1<=L/\L<=4/\l≠p/\H l=some (.lst ws)/\Paired (GI [p] P H) ws rows/\rows.length=L.toNat/\(∀xs∈rows,xs.length=L.toNat/\∀y∈xs,OkN P y/\(P=0->Sz 2 y))/\H p=some (.lst [.int a,.int b])/\Gn a b k/\k<=600000/\
 ∀(v:V) (d:PyData) (a' b':Int) (H':Hp),Dv [p] H' 3 v d->H' p=some (.lst [.int a',.int b'])->Gn a' b' (k+10)->(∀c o,H c=some o->c≠p->H' c=some o)->Q v H'
section
variable [Quiet base]
theorem Gv:Gb ["_law_prime_here", "_law_letters", "_law_lists", "_law_bag_here", "_law_way", "_law_at", "_law_some", "_law_odd", "_law_row"] ["_law_prime_here", "_law_letters", "_law_lists", "_law_bag_here"] (aj e7):=.i
set_option maxHeartbeats 1000000 in
theorem ug(F:Fun K "_law_spoilt" "_law_spoilt" e7 f fd)(T:Blt mg)(HQ:`FnB 1 "_law_take" fD):
  Gd P w K mg base CX0 2 f fd ["_law_prime_here", "_law_letters", "_law_lists", "_law_bag_here"] lG:=by
 erw[F.o Gv λ_ _ _ _ H _ Q _ hr h=>?_]
 ·let#[40401903,l,p,P,L,a,b,k,ws,rows,1,hP,L1,L4,lp,hl,pr,lr,ok,hp,hb,hk,q]:=h
  erw[exQ #[_,(ba (gX (i:=4) Gv.nd rfl #[4] (ud HQ hr.m (aE (qpv 3) (aE aJ bE))))
(ba (gX (i:=5) Gv.nd rfl #[4] (ud HQ hr.m (aE (qpv 3) (aE (qpv 1) bE))))
(ba (gX (i:=6) Gv.nd rfl #[4] (dq (aE A5 (aE CB (aE Ce (aE aJ (aE (hU (aE aJ (aE aJ bE))) (aE (hU (aE aJ (aE aJ bE))) (aE (hU (aE aJ (aE (sR iE aJ) bE))) (aE (qpv 0) (aE (bK cS aJ aJ) (aE (dq (aE aJ bE)) (aE (hU (aE aJ bE)) (aE (hU (aE A5 (aE aJ bE))) (aE (hU bE) bE)))))))))))))))
(ba (gX (i:=7) Gv.nd rfl #[4] (zV (aH K rfl) (qpv 6) (ud HQ hr.m (aE (qpv 3) (aE aJ bE))) (λ_ _=>rfl)))
(ba (gX (i:=8) Gv.nd rfl #[4] (zV (aH K rfl) (qpv 2) (qpv 5) (λ_ _=>rfl)))
(ba (fX (cK bf (qpv 4) aJ (au _))
(cv (du (bK bS (qpv 2) (dq (aE (xw K T (qpv 8)) bE)))))
cN)
(ba (fX (cK bf (qpv 4) aJ (au _))
(cv (du (aY (bh K rfl) (qpv 2) bG (bF (sR iE aJ)))))
cN)
(ba (fX (cK bf (qpv 4) aJ (au _))
(cv (du (bK bS (bK bS (aY (bh K rfl) (qpv 2) bG (bF (qpv 5))) (dq (aE (bK bS (qpv 8) (aY (bh K rfl) (qpv 8) bG (bF aJ))) bE))) (aY (bh K rfl) (qpv 2) (bF (bK aQ (qpv 5) aJ)) bG))))
cN)
(ba (fX (cK bf (qpv 4) aJ (au _))
(cv (du (bK bS (bK bS (aY (bh K rfl) (qpv 2) bG (bF (qpv 5))) (dq (aE (aY (bh K rfl) (qpv 8) bG (bF (sR iE aJ))) bE))) (aY (bh K rfl) (qpv 2) (bF (bK aQ (qpv 5) aJ)) bG))))
cN)
(ba (fX (cK bf (qpv 4) aJ (au _))
(ba (gX (i:=8) Gv.nd rfl #[4] (bK bS (bK bS (aY (bh K rfl) (qpv 8) bG (bF (qpv 5))) (dq (aE (qpv 7) bE))) (aY (bh K rfl) (qpv 8) (bF (bK aQ (qpv 5) aJ)) bG)))
(cv (du (bK bS (bK bS (aY (bh K rfl) (qpv 2) bG (bF (qpv 5))) (dq (aE (qpv 8) bE))) (aY (bh K rfl) (qpv 2) (bF (bK aQ (qpv 5) aJ)) bG)))))
cN)
(ba (fX (cK bf (qpv 4) aJ (au _))
(cv (du (bK bS (bK bS (aY (bh K rfl) (qpv 2) bG (bF (qpv 5))) (dq (aE (qpv 7) bE))) (aY (bh K rfl) (qpv 2) (bF (bK aQ (qpv 5) aJ)) bG))))
cN)
(ba (fX (cK bf (qpv 4) aJ (au _))
(cv (du (qpv 7)))
cN)
(ba (fX (cK bf (qpv 4) aJ (au _))
(cv (du (bK bS (bK bS (aY (bh K rfl) (qpv 2) bG (bF (qpv 5))) (dq (aE (lZ K T (qpv 8)) bE))) (aY (bh K rfl) (qpv 2) (bF (bK aQ (qpv 5) aJ)) bG))))
cN)
(ba (fX (cK bf (qpv 4) aJ (au _))
(cv (du (lZ K T (qpv 2))))
cN)
(cv (du (dq bE))))))))))))))))),?_]]
  have hB:=hP.b;have lw:=Paired.length pr;erw[sq5 λR0 bt=>?_]
  erw[96,0,p,a,b,10,k,1,hp,hb,(),#[],aP #[] #[],λc' a1 b1 w0 w1 bv=>?_]
  have bb:∀c o,H c=some o->c≠p->(upd H p (.lst [.int a1,.int b1])) c=some o:=λc o e hc=>by rw[ak hc];rwa[e]
  have b9:(upd H p (.lst [.int a1,.int b1])) p=some (.lst [.int a1,.int b1]):=ae;generalize upd H p (.lst [.int a1,.int b1])=H1 at *;erw[1196,0,0,p,a1,b1,L,0,b9,bv,(),(),aP () (),λat_ a2 b2 t0 t1 bz=>?_]
  have kp2:∀c o,H c=some o->c≠p->(upd H1 p (.lst [.int a2,.int b2])) c=some o:=λc o e hc=>by rw[ak hc];rwa[bb _ _ e hc]
  have a':(upd H1 p (.lst [.int a2,.int b2])) p=some (.lst [.int a2,.int b2]):=ae;generalize upd H1 p (.lst [.int a2,.int b2])=H2 at *;erw[by show 2<=sizeLine;decide,λc1 m1=>?_]
  have u1:=Ga.new (o:=.tup [.int 2,.int 4]) m1;have g1:(upd H2 c1 (.tup [.int 2,.int 4])) c1=some (.tup [.int 2,.int 4]):=ae;generalize upd H2 c1 (.tup [.int 2,.int 4])=G1 at *;erw[by show 2<=sizeLine;decide,λc2 m2=>?_]
  have u2:=Ga.new (o:=.tup [.int 1,.int 0]) m2;have g2:(upd G1 c2 (.tup [.int 1,.int 0])) c2=some (.tup [.int 1,.int 0]):=ae;generalize upd G1 c2 (.tup [.int 1,.int 0])=G2 at *;erw[0,by show 2<=sizeLine;decide,λc3 m3=>?_]
  have u3:=Ga.new (o:=.tup [.int 1,.int (-1)]) m3;have g3:(upd G2 c3 (.tup [.int 1,.int (-1)])) c3=some (.tup [.int 1,.int (-1)]):=ae;generalize upd G2 c3 (.tup [.int 1,.int (-1)])=G3 at *;erw[63,0,2,by show 1<=sizeLine;decide,λc4 m4=>?_]
  have u4:=Ga.new (o:=.lst [.int 1]) m4;have g4:(upd G3 c4 (.lst [.int 1])) c4=some (.lst [.int 1]):=ae;generalize upd G3 c4 (.lst [.int 1])=G4 at *;erw[by show 1<=sizeLine;decide,λc5 m5=>?_]
  have u5:=Ga.new (o:=.tup [.int 1]) m5;have g5:(upd G4 c5 (.tup [.int 1])) c5=some (.tup [.int 1]):=ae;generalize upd G4 c5 (.tup [.int 1])=G5 at *;erw[by show 2<=sizeLine;decide,λc6 m6=>?_]
  have u6:=Ga.new (o:=.tup [.bl true,.int 1]) m6;have g6:(upd G5 c6 (.tup [.bl true,.int 1])) c6=some (.tup [.bl true,.int 1]):=ae;generalize upd G5 c6 (.tup [.bl true,.int 1])=G6 at *;erw[by show 0<=sizeLine;decide,λc7 m7=>?_]
  have u7:=Ga.new (o:=.tup []) m7;have g7:(upd G6 c7 (.tup [])) c7=some (.tup []):=ae;generalize upd G6 c7 (.tup [])=G7 at *;erw[by show 13<=sizeLine;decide,λc8 m8=>?_]
  have u8:=Ga.new (o:=.lst [.bl true,.non,.str (Str.ofString "1"),.int 3,.ref c1,.ref c2,.ref c3,.int P,.int (0-1),.ref c4,.ref c5,.ref c6,.ref c7]) m8;have g8:(upd G7 c8 (.lst [.bl true,.non,.str (Str.ofString "1"),.int 3,.ref c1,.ref c2,.ref c3,.int P,.int (0-1),.ref c4,.ref c5,.ref c6,.ref c7])) c8=some (.lst [.bl true,.non,.str (Str.ofString "1"),.int 3,.ref c1,.ref c2,.ref c3,.int P,.int (0-1),.ref c4,.ref c5,.ref c6,.ref c7]):=ae;generalize upd G7 c8 (.lst [.bl true,.non,.str (Str.ofString "1"),.int 3,.ref c1,.ref c2,.ref c3,.int P,.int (0-1),.ref c4,.ref c5,.ref c6,.ref c7])=G8 at *;have b8:=u8;have b7:=u7.trans b8;have b6:=u6.trans b7;have b5:=u5.trans b6;have b4:=u4.trans b5;have ay:=u3.trans b4;have ax:=u2.trans ay;have sG:=u1.trans ax;have U:∀{c:Addr} {G:Hp},Ga H2 G->G c=none->c∉[p]:=λ{c G} s m=>by simpa using(al (s _ _ a') m).symm
  have d1:Dv [p] G8 1 (.ref c1) (.tuple [.int 2,.int 4]):=.inr (.inr #[35,c1,2,U (Ga.refl _) m1,ax _ _ g1,by show 2<=6;decide,.cons (cw #[]) (.cons (cw #[]) .nil)])
  have d2:Dv [p] G8 1 (.ref c2) (.tuple [.int 1,.int 0]):=.inr (.inr #[35,c2,2,U u1 m2,ay _ _ g2,by show 2<=6;decide,.cons (cw #[]) (.cons (cw #[]) .nil)])
  have d3:Dv [p] G8 1 (.ref c3) (.tuple [.int 1,.int (-1)]):=.inr (.inr #[35,c3,2,U (u1.trans u2) m3,b4 _ _ g3,by show 2<=6;decide,.cons (cw #[]) (.cons (cw #[]) .nil)])
  have d4:Dv [p] G8 1 (.ref c4) (.list [.int 1]):=.inr (.inl #[35,c4,2,U (u1.trans (u2.trans u3)) m4,b5 _ _ g4,by show 1<=6;decide,.cons (cw #[]) .nil])
  have d5:Dv [p] G8 1 (.ref c5) (.tuple [.int 1]):=.inr (.inr #[35,c5,2,U (u1.trans (u2.trans (u3.trans u4))) m5,b6 _ _ g5,by show 1<=6;decide,.cons (cw #[]) .nil])
  have d6:Dv [p] G8 1 (.ref c6) (.tuple [.bool true,.int 1]):=.inr (.inr #[35,c6,2,U (u1.trans (u2.trans (u3.trans (u4.trans u5)))) m6,b7 _ _ g6,by show 2<=6;decide,.cons (Ad true) (.cons (cw #[]) .nil)])
  have d7:Dv [p] G8 1 (.ref c7) (.tuple []):=.inr (.inr #[35,c7,2,U (u1.trans (u2.trans (u3.trans (u4.trans (u5.trans u6))))) m7,b8 _ _ g7,by show 0<=6;decide,.nil])
  have bg:Paired (Dv [p] G8 1) [.bl true,.non,.str (Str.ofString "1"),.int 3,.ref c1,.ref c2,.ref c3,.int P,.int (0-1),.ref c4,.ref c5,.ref c6,.ref c7] (oddD P):=
   .cons (.inl (Ad true)) (.cons (.inl Cj) (.cons (.inl (BL CA)) (.cons (.inl (cw #[])) (.cons d1 (.cons d2 (.cons d3 (.cons (.inl (cw (by show P.natAbs<1073741824;lia))) (.cons (.inl (cw #[])) (.cons d4 (.cons d5 (.cons d6 (.cons d7 .nil))))))))))))
  have ad:=sG _ _ a';have bd:∀c o,H c=some o->c≠p->G8 c=some o:=λc o e hc=>sG _ _ (kp2 _ _ e hc)
  clear u1 u2 u3 u4 u5 u6 u7 u8 b8 b7 b6 b5 b4 ay ax g1 g2 g3 g4 g5 g6 g7 d1 d2 d3 d4 d5 d6 d7 U;have bp:c8≠p:=λz=>by rw[z,ad] at g8;cases g8
  erw[1196,0,0,p,a2,b2,13,0,ad,bz,(),#[],aP #[] #[],λr a3 b3 r0 r1 c0=>?_]
  have a9:∀c o,G8 c=some o->c≠p->(upd G8 p (.lst [.int a3,.int b3])) c=some o:=λc o e hc=>by rw[ak hc];rwa[e]
  have ac:(upd G8 p (.lst [.int a3,.int b3])) p=some (.lst [.int a3,.int b3]):=ae;generalize upd G8 p (.lst [.int a3,.int b3])=H3 at *;have ap:∀c o,H c=some o->c≠p->H3 c=some o:=λc o e hc=>a9 _ _ (bd _ _ e hc) hc
  let#[j,1]:=MT r0;obtain⟨od,eo⟩:∃v,[V.bl true,.non,.str (Str.ofString "1"),.int 3,.ref c1,.ref c2,.ref c3,.int P,.int (0-1),.ref c4,.ref c5,.ref c6,.ref c7][j]? = some v:=#[_,ge (by show j<13;lia)]
  let#[dd,_,a7]:=aD bg eo;have a7:Dv [p] H3 1 od dd:=a7.keep λc o e hc=>a9 _ _ e (by simpa using hc)
  erw[44,c8,_,2,SqL.of (a9 _ _ g8 bp),bN eo,?_];clear bg eo bd kp2 bb ad b9 a' sG a9 g8;let#[i,1]:=MT t0;obtain⟨rv,er⟩:∃v,ws[i]? = some v:=#[_,ge ()]
  have a6:=ap _ _ hl lp;erw[5144,0,0,l,_,2,SqL.of a6,bN er,?_];have bi:Paired (GI [p] P H3) ws rows:=aq (λ_ _ z=>z.keep hp (by simp) ap) pr
  have fin:∀(v:V) (d:PyData) (H':Hp),Ga H3 H'->Dv [p] H' 3 v d->Q v H':=λv d H' s h=>q v d a3 b3 H' h (s _ _ ac) (c0.mono ()) λc o e hc=>s _ _ (ap _ _ e hc)
  have big:∀{y:Int×Int},OkN P y/\(P=0->Sz 2 y)->Sz 30 y:=λo=>qm hP o.1 λh=>(o.2 h).mono #[]
  have b':∀{H':Hp},Ga H3 H'->∀a∈[p],∃xs,H' a=some (.lst xs):=λ{H'} s a ha=>by
   rw[D_.mp ha];rwa[_,s _ _ ac]
  have dvs:∀{H':Hp},Ga H3 H'->Paired (Dv [p] H' 2) ws (rows.map (dRN P)):=λ{H'} s=>k9 (b' s) (aq (λ_ _ z=>z.same s) bi) λxs hx=>#[by rw[(ok xs hx).1];lia,λy hy=>big ((ok xs hx).2 y hy)]
  let#[xs,ex,#[ra,us,1,rn,a5,pu]]:=aD bi er;let#[lx,c9]:=ok xs (GY ex);have lu:=Paired.length pu;have a4:∀{H':Hp},Ga H3 H'->Paired (Dv [p] H' 1) us (xs.map (dN P)):=λ{H'} s=>uo (b' s) (aq (λ_ _ z=>z.same s) pu) λy hy=>big (c9 y hy)
  have fresh:∀{G:Hp} {c:Addr},Ga H3 G->G c=none->c∉[p]:=λ{G c} s m=>by simpa using(al (s _ _ ac) m).symm
  have a8:∀{te:TE} {σ:L2.St} {Ha:Hp},Ga H3 Ha->σ[2]? = some (some (.ref l))->σ[5]? = some (some (.int (i:Int)))->(∀(H1:Hp) (Z:VK),Ga Ha H1->(∀x H2 d,Ga H1 H2->Dv [p] H2 2 x d->Z x H2)->te σ H1 Z)->tOp yn (tOp yn (tSl (wf K) (nQ 2) jl (rG (nQ 5))) (Cr (ci te cQ))) (tSl (wf K) (nQ 2) (rG (tOp (rI0 λi j=>V.int (i+j)) (nQ 5) (tC (V.int 1)))) jl) σ Ha Q:=λ{te σ Ha} sa h2 h5 hx=>
   uS (λx H2=>∃d,Dv [p] H2 2 x d) h2 h5 (sa _ _ a6) () (λH1 Z s1 k=>hx H1 Z s1 λx H2 d s2 g=>k x H2 s2 #[d,g]) λx c H2 H4 s2 ⟨d,g⟩ s4 U hc=>by
    have av:=sa.trans (s2.trans s4);erw[fin _ (.list _) H4 av (.inr (.inl #[35,c,2,fresh (sa.trans s2) U,hc,?_,fz (kZ (i+1) (dvs av)) (fz (.cons (g.same s4) .nil) (fJ i (dvs av)))]))];rw[x_,x_,MY,Qn];show _+1+_<=6;lia
  subst bt;have O:=Ga.refl H3;erw[0,1,0,bC (λh=>?_) (λh=>?_)]
  ·erw[5122,0,0,ra,us,1,.inl (SqL.of a5),λc U=>#[by show 1<=sizeLine;decide,λe ne=>#[45,l,e,2,(Ga.new ne) _ _ ((Ga.new U) _ _ a6),ae,by rw[Hc];show _+1<=_;lia,λf nf=>?_]]]
   have s1:=Ga.new (o:=.lst us) U;have s2:=s1.trans (Ga.new (o:=.lst [.ref c]) ne);have s3:=s2.trans (Ga.new (o:=.lst (ws++[.ref c])) nf);erw[fin _ (.list _) _ s3 (.inr (.inl #[35,f,2,fresh s2 nf,ae,by rw[x_];show _+1<=6;lia,fz (.cons (.inr (.inl #[35,c,us,0,1,fresh O U,?_,(),a4 s3])) .nil) (dvs s3)]))]
   exact(Ga.new nf) _ _ ((Ga.new ne) _ _ ae)
  erw[0,1,0,bC (λh=>?_) (λh=>?_)]
  ·erw[5162,0,0,0,l,0,SqL.of a6,λc U=>?_]
   rw[se];have s1:=Ga.new (o:=.lst (ws.take (ws.length-1))) U;rwa[fin _ (.list _) _ s1 (.inr (.inl #[35,c,2,fresh O U,ae,by rw[MY];lia,fJ _ (dvs s1)]))]
  erw[0,1,0,bC (λh=>?_) (λh=>?_)]
  ·erw[a8 O rfl rfl λH1 Z s1 k=>?_]
   erw[5162,0,0,0,ra,0,SqL.of (s1 _ _ a5),λc U=>?_]
   rw[show(1:Int)=((1:Nat):Int) from rfl,mi]
   have s2:=Ga.new (o:=.lst (us.take 1)) U;erw[45,ra,c,2,s2 _ _ (s1 _ _ a5),ae,by rw[MY,Hc];lia,λf nf=>?_]
   have s3:=s2.trans (Ga.new (o:=.lst (us++us.take 1)) nf);rwa[k _ _ (.list _) s3 (.inr (.inl #[35,f,2,fresh (s1.trans s2) nf,ae,by rw[x_,MY];lia,fz (fJ 1 (a4 (s1.trans s3))) (a4 (s1.trans s3))]))]
  erw[0,1,0,bC (λh=>?_) (λh=>?_)]
  ·erw[a8 O rfl rfl λH1 Z s1 k=>?_]
   erw[5162,0,0,0,ra,0,SqL.of (s1 _ _ a5),λc U=>?_]
   rw[se];have s2:=Ga.new (o:=.lst (us.take (us.length-1))) U;rwa[k _ _ (.list _) s2 (.inr (.inl #[35,c,2,fresh s1 U,ae,by rw[MY];lia,fJ _ (a4 (s1.trans s2))]))]
  erw[0,1,0,bC (λh=>?_) (λh=>?_)]
  ·erw[uS (λx H2=>x=od/\Dv [p] H2 1 od dd) rfl rfl a5 () (λH1 Z s1 k=>#[0,k _ _ (Ga.refl _) #[1,a7.same s1]]) λx c H2 H4 s2 ⟨eo,g⟩ s4 U hc=>?_]
   subst eo;erw[a8 (s2.trans s4) rfl rfl λH5 Z s5 k=>#[0,?_]]
   have bo:=(s2.trans s4).trans s5;erw[k _ _ (.list _) (Ga.refl _) (.inr (.inl #[35,c,2,fresh s2 U,s5 _ _ hc,?_,fz (kZ (i+1) (a4 bo)) (fz (.cons ((g.same s4).same s5) .nil) (fJ i (a4 bo)))]))];rw[x_,x_,MY,Qn];show _+1+_<=6;lia
  erw[0,1,0,bC (λh=>?_) (λh=>?_)]
  ·erw[a8 O rfl rfl λH1 Z s1 k=>?_]
   rwa[0,k _ _ _ (Ga.refl _) (a7.same s1).up]
  erw[0,1,0,bC (λh=>?_) (λh=>?_)]
  ·rwa[0,fin _ _ _ O a7.up.up]
  erw[0,1,0,bC (λh=>?_) (λh=>?_)]
  ·erw[a8 O rfl rfl λH1 Z s1 k=>?_]
   erw[62,0,ra,0,SqL.of (s1 _ _ a5),λc U=>?_]
   have s2:=Ga.new (o:=.tup us) U;rwa[k _ _ (.tuple _) s2 (.inr (.inr #[35,c,2,fresh s1 U,ae,(),a4 (s1.trans s2)]))]
  erw[0,1,0,bC (λh=>?_) (λh=>?_)]
  ·erw[62,0,l,0,SqL.of a6,λc U=>?_]
   have s1:=Ga.new (o:=.tup ws) U;rwa[fin _ (.tuple _) _ s1 (.inr (.inr #[35,c,2,fresh O U,ae,(),dvs s1]))]
  ·erw[Hj _,λc U=>?_]
   have s1:=Ga.new (o:=.lst []) U;rwa[fin _ (.list []) _ s1 (.inr (.inl #[35,c,[],[],1,1,fresh O U,ae,#[],.nil]))]
end
def Ak:Sp:=λvs H Q _=>∃P:Int,vs=[.int P]/\Gc P/\∀r H',Ga H H'->At P H' r (1,1)->Q r H'
section
variable [Quiet base]
theorem pR:Gb ["_law_prime_here"] ["_law_prime_here"] (aj gD):=.i
theorem Bx(F:Fun K "_law_unit" "_law_unit" gD f fd)(T:Blt mg):`Gd CX0 1 f fd ["_law_prime_here"] Ak:=by
 erw[F.o pR λ_ _ _ _ H _ Q _ hr h=>?_]
 ·let#[12,P,1,hP,q]:=h
  erw[_,(ai (ar (aC (aH K rfl) (aX #[6,(aN #[6,ah,ah]),ah]) (cZ pG (by rfl) T.int gZ #[6,(cg gQ (pv 0) ah (au _))]) (λ_ _=>rfl)))),?_]
  erw[(by show 2<=sizeLine;decide),λt U=>?_]
  erw[(by show 2<=sizeLine;decide),λl O=>?_]
  have s1:=Ga.new (o:=.tup [.int 1,.int 1]) U;have s2:=Ga.new (o:=.lst [.ref t,.int 1]) O;have Z:=hP.b
  by_cases h0:P=0
  ·erw[62,0,2,.inr #[84,0,l,_,2,SqL.of ae,(by rw[GN ()];rfl),?_]]
   rwa[q _ _ (s1.trans s2) (.inl #[h0,t,1,s2 _ _ ae])]
  ·erw[62,0,2,.inr #[84,0,l,_,2,SqL.of ae,(by rw[q_ ()];rfl),?_]]
   rwa[q _ _ (s1.trans s2) (.inr #[h0,1,1])]
end
theorem A0(K:Frag)(t:Value):kitOne K t t=some true:=by
 unfold kitOne;rw[C_ (beq_self_eq_true t)]
def qb(CT:Addr):Sp:=λvs H Q _=>∃(e:Addr) (L:Life),vs=[.ref e]/\H e=some (nY e CT L)/\∀H',Ga H H'->Q (.bl true) H'
section
variable [Quiet base]
theorem GS:Gb ["_law_e", "_law_hits"] ["_law_e"] (aj gd):=.i
theorem zk(F:Fun K "_law_class" "_law_class" gd f fd)(T:Blt mg)(ANoTurn:mg "NoTurn"=some (.ref C_NoTurn))(ANoNumber:mg "NoNumber"=some (.ref HR))(ANoRing:mg "NoRing"=some (.ref Ia))(ANoPart:mg "NoPart"=some (.ref IL))(ANoRow:mg "NoRow"=some (.ref Je))(ANoRung:mg "NoRung"=some (.ref C_NoRung))(ANoRelation:mg "NoRelation"=some (.ref C_NoRelation))(ANoMap:mg "NoMap"=some (.ref C_NoMap))(ANoText:mg "NoText"=some (.ref C_NoText))(ANoName:mg "NoName"=some (.ref C_NoName))(ATooMany:mg "TooMany"=some (.ref C_TooMany))(nValueError:mg "ValueError" = none)(xc:XCl K C_NoTurn)(kv:kitOne K (.ref C_NoTurn) (.type "ValueError")=some true)(ko1:kitOne K (.ref C_NoTurn) (.ref HR)=some false)(ko2:kitOne K (.ref C_NoTurn) (.ref Ia)=some false)(ko3:kitOne K (.ref C_NoTurn) (.ref IL)=some false)(ko4:kitOne K (.ref C_NoTurn) (.ref Je)=some false)(ko5:kitOne K (.ref C_NoTurn) (.ref C_NoRung)=some false)(ko6:kitOne K (.ref C_NoTurn) (.ref C_NoRelation)=some false)(ko7:kitOne K (.ref C_NoTurn) (.ref C_NoMap)=some false)(ko8:kitOne K (.ref C_NoTurn) (.ref C_NoText)=some false)(ko9:kitOne K (.ref C_NoTurn) (.ref C_NoName)=some false)(ko10:kitOne K (.ref C_NoTurn) (.ref C_TooMany)=some false):
  rX P w K mg base 1 f fd ["_law_e"] (qb C_NoTurn):=by
 erw[F.okH GS (λvs H Q E h=>?_) (λcdv A outer s H vs Q E hr h=>?_)]
 ·let#[21,e,_,1,_]:=h
  rfl
 ·let#[22,e,L,1,hx,q]:=h
  erw[_,(af #[5,1,GS,(aX #[6,(cy K T #[6,0,(bu (v:=.ref C_NoTurn) rfl ANoTurn rfl)]),(cy K T #[6,0,(bu (v:=.ref HR) rfl ANoNumber rfl)]),(cy K T #[6,0,(bu (v:=.ref Ia) rfl ANoRing rfl)]),(cy K T #[6,0,(bu (v:=.ref IL) rfl ANoPart rfl)])])]
(af #[5,1,GS,(ao bS (pv 1) (aX #[6,(cy K T #[6,0,(bu (v:=.ref Je) rfl ANoRow rfl)]),(cy K T #[6,0,(bu (v:=.ref C_NoRung) rfl ANoRung rfl)]),(cy K T #[6,0,(bu (v:=.ref C_NoRelation) rfl ANoRelation rfl)]),(cy K T #[6,0,(bu (v:=.ref C_NoMap) rfl ANoMap rfl)])]))]
(af #[5,1,GS,(ao bS (pv 1) (aX #[6,(cy K T #[6,0,(bu (v:=.ref C_NoText) rfl ANoText rfl)]),(cy K T #[6,0,(bu (v:=.ref C_NoName) rfl ANoName rfl)]),(cy K T #[6,0,(bu (v:=.ref C_TooMany) rfl ATooMany rfl)])]))]
(ai (ar (dO (aC (aH K rfl) (pv 1) ah (λ_ _=>rfl)) (dO (cg bf (Ae PySem.F.plainAttrs_list PySem.F.slot_list_count PySem.F.type_list_count zT (pv 1) #[6,dU]) ah (au _)) (fe (cy K T #[6,0,(vN (v:=.ty "ValueError") rfl nValueError j8 rfl)]))))))))),?_]
  erw[94949495,0,e,_,_,_,true,1,hx,xc,.inl #[1,A0 _ _],0,e,_,_,_,false,1,hx,xc,.inl #[1,ko1],0,e,_,_,_,false,1,hx,xc,.inl #[1,ko2],0,e,_,_,_,false,1,hx,xc,.inl #[1,ko3],by show 4<=sizeLine;decide,λl1 n1=>?_]
  have s1:=Ga.new (o:=.lst [V.bl true,V.bl false,V.bl false,V.bl false]) n1;have h1:(upd H l1 (.lst [V.bl true,V.bl false,V.bl false,V.bl false])) l1=some (.lst [V.bl true,V.bl false,V.bl false,V.bl false]):=ae;generalize upd H l1 (.lst [V.bl true,V.bl false,V.bl false,V.bl false])=H1 at *;have O:=s1 _ _ hx;erw[1194949495,0,0,e,_,_,_,false,1,O,xc,.inl #[1,ko4],0,e,_,_,_,false,1,O,xc,.inl #[1,ko5],0,e,_,_,_,false,1,O,xc,.inl #[1,ko6],0,e,_,_,_,false,1,O,xc,.inl #[1,ko7],by show 4<=sizeLine;decide,λa2 m2=>#[45,l1,a2,2,(Ga.new m2) _ _ h1,ae,by show 4+4<=sizeLine;decide,λl2 n2=>?_]]
  generalize e2:upd _ l2 _=H2;have s2:Ga H1 H2:=e2▸(Ga.new m2).trans (Ga.new n2);have h2:H2 l2=some (.lst ([true,false,false,false,false,false,false,false].map V.bl)):=by rw[<- e2];rwa[ae]
  clear e2;have U:=s2 _ _ O;erw[11949495,0,0,e,_,_,_,false,1,U,xc,.inl #[1,ko8],0,e,_,_,_,false,1,U,xc,.inl #[1,ko9],0,e,_,_,_,false,1,U,xc,.inl #[1,ko10],by show 3<=sizeLine;decide,λa3 m3=>#[45,l2,a3,2,(Ga.new m3) _ _ h2,ae,by show 8+3<=sizeLine;decide,λl3 n3=>?_]]
  generalize e3:upd _ l3 _=H3;have s3:Ga H2 H3:=e3▸(Ga.new m3).trans (Ga.new n3);have Z:H3 l3=some (.lst ([true,false,false,false,false,false,false,false,false,false,false].map V.bl)):=by rw[<- e3];rwa[ae]
  clear e3;have a1:=s3 _ _ U;erw[8411,0,l3,_,2,SqL.of Z,bN (j:=0) rfl,true,1,aU ?_];erw[122411,0,.inl #[1,_,SqL.of Z],l3,[true,false,false,false,false,false,false,false,false,false,false],1,1,Z,1,true,1,aU ?_];rwa[94,0,e,_,_,_,true,1,a1,xc,.inl #[1,kv],q _ (s1.trans (s2.trans s3))]
end
theorem Fg:(["own", "place"]:List Str).Nodup:=#[5]
theorem oW{σ:L2.St}(hσ:cH src σ=none::rest)(f:Nat->V)(hn:n<=60)(turn:∀i H (R:VK),i<n->Ga H0 H->(∀H2,Ga H H2->R (f i) H2)->te (some (.int (lo+i))::rest) H R)(hd:∀acc H,H0 acc=none->Ga H0 H->H acc=some (.lst ((List.range n).map f))->Q (.ref acc) H):
  bZ (Itr lo n) src (bP 0) kO te σ H0 Q:=by
 erw[cc (n:=n) (σ0:=none::rest) hσ (λacc i zs σ H=>(∃u,σ=u::rest)/\Ga H0 H/\zs=(List.range i).map f) (by rw[Hc];lia) (λacc O=>#[#[none,1],Ga.new O,1]) ?_ ?_ ?_ ?_]
 ·rintro acc i zs σ H O hi U _;rwa[hi]
 ·rintro acc zs σ H O U _;rwa[e_ _]
 ·rintro acc i zs σ H x H' O hi U a1 ⟨⟨u,rfl⟩,Z,rfl⟩ ⟨rfl,rfl⟩;erw[turn i _ _ hi Z λH2 s2=>?_]
  erw[_,s2 _ _ U,by rw[z_,OA,Hc];lia,_,ae,by rw[x_,z_,OA];rwa[e_ _],#[0],(Z.trans s2).put O,?_]
  rw[range_succ,L8]
  rfl
 ·rintro acc zs σ H O U a1 ⟨_,Z,rfl⟩;rwa[hd acc H O Z U]
def As:Sp:=λvs H Q _=>∃(L j:Int),vs=[.int L,.int j]/\0<=L/\L<=4/\∀t H',Ga H H'->H' t=some (.tup (((List.range L.toNat).map λi:Nat=>if (i:Int)=j then(1:Int) else 0).map V.int))->Q (.ref t) H'
def rV:Sp:=λvs H Q _=>∃(t:Addr) (es:List Int),vs=[.ref t]/\H t=some (.tup (es.map V.int))/\es.length<=4/\(∀e∈es,0<=e/\e<1000)/\∀n:Int,Q (.int n) H
section
variable [Quiet base]
theorem mH:Gb ["letters", "place"] ["letters", "place"] (aj fc):=.i
theorem Ct(F:Fun K "lone_letter" "lone_letter" fc f fd)(T:Blt mg):
  Gd P w K mg base CX0 1 f fd ["letters", "place"] As:=by
 erw[F.o mH λ_ _ _ _ H _ Q _ hr h=>?_]
 ·let#[23,L,j,1,L0,L4,q]:=h
  erw[_,(ai (ar (j5 K T #[9,aR (N:=["own", "place"]) (src:=[none,some 1]) rfl rfl rfl #[9,bU rfl T.range #[6,0]] (λ_ _ _=>by rwa[by exact(bL (i:=0) Fg rfl rfl),aO,by exact(mM (aw bf (pv 0) (pv 1) (au _)) ah ah)])]))),?_]
  erw[53,0,L,1,(),(),oW (rest:=[some (.int j)]) rfl (λi:Nat=>.int (if (i:Int)=j then(1:Int) else 0)) () (λi H1 R hi s1 O=>?_) λc H1 nc s1 U=>?_]
  ·erw[5211,0,0,1,0,?_];rw[Int.zero_add]
   by_cases h:(i:Int)=j
   ·rw[C_ h] at O;rw[q_ (LD V.int h)];rwa[aU (O H1 (Ga.refl _))]
   ·rw[w_ h] at O;rw[GN (λz=>h (by injection z))]
    rwa[bO (O H1 (Ga.refl _))]
  ·erw[22,c,0,SqL.of U,λt Z=>?_]
   erw[q t _ (s1.trans (Ga.new Z)) ?_];rw[ae,Oo]
   rfl
end
section
variable [Quiet base]
theorem sc_packed:Gb ["product", "whole", "often"] ["product"] (aj lI):=.i
theorem wn{t1 t2:Tok}(F:Fun K "packed" "packed" lI f fd)(cLB:mg "LETTER_BITS"=some (.int 20 t1))(cPB:mg "PLACE_BITS"=some (.int 20 t2)):
  Gd P w K mg base CX0 1 f fd ["product"] rV:=by
 erw[F.o sc_packed λ_ _ _ _ H _ Q _ hr h=>?_]
 ·let#[24,t,es,1,ht,hl,he,q]:=h
  erw[_,(af #[5,1,sc_packed,ah]
(af (be Hu rfl (BW K rfl (pv 0)) (aM (i:=2) sc_packed.nd rfl #[4])
(ai #[5,1,sc_packed,(ao aQ (ao v9 (pv 1) (bu (v:=.int 20) rfl cLB #[0])) (pv 2))]))
(ai (ar (ao v9 (pv 1) (bu (v:=.int 20) rfl cPB #[0])))))),?_]
  have lm:(es.map V.int).length=es.length:=z_ _;erw[52,0,t,1,#[_,SqT.of ht],Ch (xs:=es.map V.int) (λi σ H'=>∃(n:Int) (x2:Option V),σ=[some (.ref t),some (.int n),x2]/\H'=H/\n.natAbs<2^(22*i+1)) ?_ ?_ ?_ ?_]
  ·rwa[22,(0),none,1,1,#[]]
  ·intro i σ H' _ O;let#[22,n,x2,1,1,_]:=O
   rwa[SqT.of ht]
  ·intro i v σ H1 hv O;let#[22,n,x2,1,1,hn]:=O
   let#[e,U,1]:=fP hv;have hi:i<es.length:=(y_.mp U).1;let#[e0,e1]:=he e (GY U);erw[63,0,2,yu #[] #[] hn (),?_]
   erw[62,0,2,#[22,2,?_]];have Z:(2:Nat)^(22*(i+1)+1)=2^(22*i+1)*4194304:=by
    rw[show 22*(i+1)+1=(22*i+1)+22 by lia,NG]
   have e4:=Int.natAbs_add_le (n*2^(20:Int).toNat) e;rw[J_,show((2:Int)^(20:Int).toNat).natAbs=1048576 by decide] at e4
   rw[Z];generalize (2:Nat)^(22*i+1)=A at *;lia
  ·intro σ H1 O;let#[22,n,x2,1,1,hn]:=O
   rw[lm] at hn;rwa[63,0,2,yu #[] #[] hn (),q _]
end
theorem Fh:(["key", "top", "under", "bottom"]:List Str).Nodup:=#[5]
def Fix(H H':Hp):Prop:=∀c o,(∀xs,o≠.lst xs)->H c=some o->H' c=some o
theorem Fix.tup(h:Fix H H'){xs:List V}(e:H c=some (.tup xs)):H' c=some (.tup xs):=h _ _ (λ_ z=>by cases z) e
theorem Fix.frz(h:Fix H H'){o:Obj}{u:HO}(e:H c=some (.frz o u)):H' c=some (.frz o u):=h _ _ (λ_ z=>by cases z) e
theorem cm{tt:TT}{σ σ0:L2.St}(hσ:cH src σ=σ0)(Sh:L2.St->Prop)(Rel:Hp->V->α->Prop)(st:∀H H' v x,Fix H H'->Rel H v x->Rel H' v x)(Pd:Nat->List α->Prop)(hn:n<=1000)(h0:Sh σ0)(p0:Pd 0 [])(hgo:∀i H,i<n->Ga H0 H->J.go i H)(hst:∀H,Ga H0 H->J.stop n H)(turn:∀i σ H x H' xs (Y:L2.St->VK) (N:L2.St->Hp->Prop),i<n->Sh σ->Ga H0 H->Pd i xs->J.yld i H x H'->(∀σ2 v y H2,Sh σ2->Ga H H2->Rel H2 v y->Pd (i+1) (xs++[y])->Y σ2 v H2)->(∀σ2 H2,Sh σ2->Ga H H2->Pd (i+1) xs->N σ2 H2)->
   g x σ H' λσ2 H2=>tt σ2 H2 λb H3=>if b=true then te σ2 H3 (Y σ2) else N σ2 H3)(hd:∀acc us xs H,H0 acc=none->Ga H0 H->H acc=some (.lst us)->Paired (Rel H) us xs->xs.length<=n->Pd n xs->Q (.ref acc) H):
  bZ J src g tt te σ H0 Q:=by
 erw[cc (n:=n) (σ0:=σ0) hσ (λacc i zs σ H=>Sh σ/\Ga H0 H/\∃xs,Paired (Rel H) zs xs/\xs.length<=i/\Pd i xs) (by rw[Hc];lia) (λacc O=>#[h0,Ga.new O,[],.nil,e_ _,p0]) ?_ ?_ ?_ ?_]
 ·rintro acc i zs σ H O hi hz ⟨_,U,_⟩;rwa[hgo i H hi U]
 ·rintro acc zs σ H O hz ⟨_,U,_⟩;rwa[hst H U]
 ·intro acc i zs σ H x H' O hi hz a3 Z hy;let#[0212,sh,U,xs,pr,lr,pd]:=Z
  erw[turn i σ H x H' xs (λσ2 y H4=>∃ys,H4 acc=some (.lst ys)/\ys.length<sizeLine/\∃zs,(upd H4 acc (.lst (ys++[y]))) acc=some (.lst zs)/\zs.length<=i+1/\Sh σ2/\Ga H0 (upd H4 acc (.lst (ys++[y])))/\∃xs,Paired (Rel (upd H4 acc (.lst (ys++[y])))) zs xs/\xs.length<=i+1/\Pd (i+1) xs) (λσ2 H3=>∃zs,H3 acc=some (.lst zs)/\zs.length<=i+1/\Sh σ2/\Ga H0 H3/\∃xs,Paired (Rel H3) zs xs/\xs.length<=i+1/\Pd (i+1) xs) hi sh U pd hy (λσ2 v y H2 a1 s2 rv p2=>?_) λσ2 H2 a1 s2 p2=>?_]
  ·have a2:=s2 _ _ hz;have kt:Fix H2 (upd H2 acc (.lst (zs++[v]))):=λt o no e=>by rw[ak (bD e a2 (no _))];rwa[e]
   erw[zs,a2,by rw[Hc];lia,_,ae,by rw[x_,He];lia,a1,λc o e=>?_,xs++[y],aV (st _ _ _ _ kt rv) (aq (λ_ _ z=>st _ _ _ _ (λt o no e=>kt t o no (s2 _ _ e)) z) pr),by rw[x_,He];lia,p2]
   rw[ak (al e O)];rwa[s2 _ _ (U c o e)]
  ·rwa[zs,s2 _ _ hz,(),a1,U.trans s2,xs,aq (λ_ _ z=>st _ _ _ _ (λt o _ e=>s2 t o e) z) pr,(),p2]
 ·intro acc zs σ H O hz a3 Z;let#[0212,_,U,xs,pr,lr,pd]:=Z
  rwa[hd acc zs xs H O U hz pr lr pd]
theorem ul{A B:Hp->Prop}(h:A H):kO σ H λb O=>if b=true then A O else B O:=(show(if true=true then A H else B H) from by rw[C_ rfl];rwa[h])
theorem qC{D:gi}(Pv:Nat->L2.St->Hp->Prop)(h0:Pv 0 σ H)(hgo:∀i σ H,i<n->Pv i σ H->J.go i H)(hst:∀σ H,Pv n σ H->J.stop n H)(hs:∀i σ H x H',i<n->Pv i σ H->J.yld i H x H'->∀N:L2.St->Hp->Prop,(∀σ' H',Pv (i+1) σ' H'->N σ' H')->g x σ H' λσ2 H2=>tb { nx:=N,ct:=N,bk:=D.nx,rt:=D.rt } σ2 H2)(hd:∀σ H,Pv n σ H->D.nx σ H):
  ∃W:Nat->Nat->L2.St->Hp->Prop,(∃m,W 0 m σ H)/\∀i m σ H,W i m σ H->
   (J.stop i H/\D.nx σ H)\/(J.go i H/\∃N:L2.St->Hp->Prop,(∀σ' H',N σ' H'->∃U,U<m/\W (i+1) U σ' H')/\∀x H',J.yld i H x H'->g x σ H' λσ2 H2=>tb { D with nx:=N,ct:=N,bk:=D.nx } σ2 H2):=by
 erw[λi m σ H=>m=n-i/\i<=n/\Pv i σ H,#[n,by simp,Hj _,h0],?_]
 rintro i m σ H ⟨rfl,hi,p⟩
 by_cases O:i<n
 ·rwa[.inr #[hgo i σ H O p,Pv (i+1),λσ' H' Z=>#[n-(i+1),(),1,O,Z],λx H' y=>hs i σ H x H' O p y _ λ_ _ z=>z]]
 ·have e:i=n:=()
  subst e;rwa[.inl #[hst σ H p,hd σ H p]]
def DK(m:List (Int×Int)):List (Key×V):=m.map λp=>(Sum.inl p.1,V.int p.2)
def DT(m:List (List Int×Int)):List (List Key×V):=m.map λp=>(kI p.1,V.int p.2)
theorem Ab(m:List (Int×Int))(k v:Int):∃U,cj (DK m) (.inl k) (.int v)=DK U/\(∀p∈U,p∈m\/p=(k,v))/\U.length<=m.length+1:=by
 unfold cj
 split
 ·erw[m.map λp=>if p.1=k then(p.1,v) else p,?_,λp O=>?_,by rw[z_];lia]
  ·unfold DK;rw[Oo,Oo];erw[map_congr_left λp _=>?_]
   show(if (Sum.inl p.1:Key)=Sum.inl k then _ else _)=_
   by_cases e:p.1=k
   ·rw[C_ (LD _ e)];show _=(λp:Int×Int=>(Sum.inl p.1,V.int p.2)) (if p.1=k then(p.1,v) else p)
    rw[C_ e]
   ·rw[w_ (λz=>e (Sum.inl.inj z))]
    show _=(λp:Int×Int=>(Sum.inl p.1,V.int p.2)) (if p.1=k then(p.1,v) else p)
    rw[w_ e]
  ·let#[q,Z,e]:=MO.mp O
   by_cases z:q.1=k
   ·rw[C_ z] at e;rwa[.inr (by rw[<- e,z])]
   ·rw[w_ z] at e;rwa[.inl (e▸Z)]
 ·erw[m++[(k,v)],?_,λp O=>?_,by rw[x_];rwa[e_ _]]
  ·unfold DK;rw[L8]
   rfl
  ·rcases Ht.mp O with z|z
   ·rwa[.inl z]
   ·rwa[.inr (D_.mp z)]
theorem Ef(m:List (Int×Int))(k:Int):dZ (DK m) (.inl k)=none\/∃v,dZ (DK m) (.inl k)=some (.int v)/\(k,v)∈m:=by
 unfold dZ;cases h:(DK m).find? λkv=>decide (kv.1=Sum.inl k) with
 |none=>rwa[.inl rfl]
 |some q=>
  have h1:=List.mem_of_find?_eq_some h;have h2:q.1=Sum.inl k:=E_ (p:=q.1=Sum.inl k) (List.find?_some (p:=λkv:Key×V=>decide (kv.1=Sum.inl k)) h)
  let#[p,O,e]:=MO.mp h1;subst e;rwa[.inr #[p.2,1,by rw[<- Sum.inl.inj h2];rwa[O]]]
theorem tN:∀(l m:List (Int×Int)),∃U,kC (DK m) (DK l)=DK U/\(∀p∈U,p∈m\/p∈l)/\U.length<=m.length+l.length
 |[],m=>#[m,1,λp O=>.inl O,e_ _]
 |q::l,m=>by
  let#[12,m1,e1,h1,n1]:=Ab m q.1 q.2
  let#[12,m2,e2,h2,n2]:=tN l m1
  erw[m2,?_,λp O=>?_,by rw[Mn];lia]
  ·show kC (cj (DK m) (.inl q.1) (.int q.2)) (DK l)=_;rw[e1,e2]
  ·rcases h2 p O with z|z
   ·rcases h1 p z with y|y
    ·rwa[.inl y]
    ·rwa[.inr (y▸LN)]
   ·rwa[.inr (I_ _ z)]
theorem zH:∀(l m:List (List Int×Int)),((m++l).map (·.1)).Nodup->je (DT m) (DT l)=DT (m++l)
 |[],m,_=>by rw[Pg];rfl
 |q::l,m,h=>by
  have e:dZ (DT m) (kI q.1)=none:=by
   unfold dZ;cases z:(DT m).find? λkv=>decide (kv.1=kI q.1) with
   |none=>rfl
   |some y=>
    have h1:=List.mem_of_find?_eq_some z;have h2:y.1=kI q.1:=E_ (p:=y.1=kI q.1) (List.find?_some (p:=λkv:List Key×V=>decide (kv.1=kI q.1)) z)
    let#[p,U,e]:=MO.mp h1;subst e;have O:p.1=q.1:=tV h2;rw[L8,List.nodup_append] at h;rwa[absurd O (h.2.2 _ (List.mem_map_of_mem U) _ LN)]
  show je (cj (DT m) (kI q.1) (.int q.2)) (DT l)=_;rw[AJ _ e];have:=zH l (m++[q]) (by rw[List.append_assoc];rwa[h])
  unfold DT at this ⊢;rw[L8] at this;rw[List.append_assoc] at this;rwa[this]
theorem hu2{k:Nat}{A:Around}(hr:Gi base k A):A.units+2<cLine:=by have:=hr.un;lia
def vH(H:Hp)(v:V)(p:bc):Prop:=∃a k,v=.ref a/\H a=some (.tup [.ref k,.int p.2.1,.int p.2.2])/\H k=some (.tup (p.1.map V.int))
def AM(H:Hp)(v:V)(p:List Int×Int):Prop:=∃a k,v=.ref a/\H a=some (.tup [.ref k,.int p.2])/\H k=some (.tup (p.1.map V.int))
def DL:Sp:=λvs H Q _=>∃(l:Addr) (us:List V) (ts:List bc) (B M:Nat),vs=[.ref l]/\H l=some (.lst us)/\Paired (vH H) us ts/\ts.length<=16/\(∀p∈ts,Rw B M p.2)/\0<B/\1<=M/\M*B<2^4300/\(ts.map (·.1)).Nodup/\
 ∀(r d:Addr) (o:Obj) (b:Nat) (m:List (List Int×Int)) (H':Hp),Ga H H'->H' r=some (.tup [.ref d,.int b])->H' d=some (.frz o (.dT (DT m)))->0<b->b ∣ B->((∀p∈ts,p.2.2=1)->b=1)->m.map (·.1)=ts.map (·.1)->(∀p∈m,p.2.natAbs<=M*B)->Q (.ref r) H'
theorem lS:∀{us:List V} {m:List (List Int×Int)},Paired (AM H) us m->∃as:List Addr,us=as.map V.ref/\Paired (λ(a:Addr) (p:List Key×V)=>∃b,H a=some (.tup [.ref b,p.2])/\H b=some (.tup (p.1.map kV))) as (DT m)
 |_,_,.nil=>#[[],1,.nil]
 |_,_,.cons h t=>by
  let#[as,e,pr]:=lS t
  let#[22,a,k,1,h1,h2]:=h
  erw[a::as,by rw[e];rfl,.cons #[k,h1,?_] pr]
  show H k=some (.tup ((kI _).map kV));rw[mD];rwa[h2]
section
variable [Quiet base]
theorem Gu:Gb ["terms", "bottom", "key", "top", "under"] ["terms"] (aj cI):=.i
theorem wA(F:Fun K "over_one_bottom" "over_one_bottom" cI f fd)(ndict:mg "dict" = none)(HY:`FnB 2 "least_multiple" BU):`Gd CX0 3 f fd ["terms"] DL:=by
 erw[F.o Gu λ_ _ _ _ H _ Q _ hr h=>?_]
 ·let#[4019,l,us,ts,B,M,1,hl,pu,l16,okx,B0,M1,hz,nd,q]:=h
  erw[_,(af (am (i:=1) Gu.nd rfl (Or.inr rfl) ah)
(af (be Hu rfl (aG K rfl (pv 0)) (km rfl #[9,aS #[9,aM (i:=2) Gu.nd rfl #[4]] #[9,aS #[9,aM (i:=3) Gu.nd rfl #[4]] #[9,aS #[9,aM (i:=4) Gu.nd rfl #[4]] ii]]])
(ai (am (i:=1) Gu.nd rfl (Or.inr rfl) (az HY hr.m #[6,1,4]))))
(ai (ar (aN #[6,(vO (oM ndict (hu2 hr) #[9,aR (N:=["key", "top", "under", "bottom"]) (src:=[none,none,none,some 1]) rfl rfl rfl #[9,aG K rfl (pv 0)] (λ_ _ _=>by rwa[by exact(Ca K (i:=0) (j:=1) (k:=2) rfl rfl Fh rfl rfl rfl rfl rfl rfl),aO,by exact(aN #[6,0,(ao br (pv 1) (ao bj (pv 3) (pv 2)))])])])),1]))))),?_]
  have lu:us.length=ts.length:=Paired.length pu;have dv {i:Nat} {y:bc} (ey:ts[i]? = some y):0<y.2.2/\y.2.2.natAbs ∣ B/\y.2.2.natAbs<2^4300/\y.2.1.natAbs<2^4300/\y.2.1.natAbs<=M*y.2.2.natAbs:=by
   have r:=okx y (GY ey);have sz:=r.sz (z:=4300) B0 M1 hz;rwa[r.1,r.2.1,sz.2,sz.1,r.2.2]
  have a1:B<2^4300:=Lk (Mu _ M1) hz;have a9:(2:Nat)^4300<2^8800:=HF #[] #[]
  erw[52,0,l,1,#[_,SqL.of hl],bw (xs:=us) (λi σ H'=>∃(x2 x3 x4:Option V) (b:Nat),σ=[some (.ref l),some (.int b),x2,x3,x4]/\H'=H/\0<b/\b ∣ B/\((∀p∈ts,p.2.2=1)->b=1)/\∀y∈ts.take i,y.2.2.natAbs ∣ b) ?_ ?_ ?_ ?_]
  ·rwa[45,none,none,none,(1),1,1,#[],Nat.one_dvd _,λ_=>rfl,λy hy=>by simp at hy]
  ·intro i σ H' _ O;let#[42,x2,x3,x4,b,1,1,_]:=O
   rwa[SqL.of hl]
  ·intro i v σ H2 hv O N0 C0 a3;let#[45,x2,x3,x4,b,1,1,b0,bB,b1,bd]:=O
   let#[62,y,ey,t,k,1,ht,_]:=aD pu hv
   let#[03,d0,dB,d43,_]:=dv ey
   erw[232121225125,t,0,SqT.of ht,1,_,0,_,0,2,0,0,b,y.2.2.natAbs,by rw[MU ()];rfl,b0,(),Lk (Nd B0 bB) a1,d43,?_]
   erw[a3 _ _ #[45,_,_,_,Nat.lcm b y.2.2.natAbs,1,1,Nat.lcm_pos b0 (),Nat.lcm_dvd bB dB,λh1=>?_,λy' Z=>?_]]
   ·rw[b1 h1,h1 y (GY ey)]
    rfl
   ·rw[Mw,ey] at Z
    rcases Ht.mp Z with z|z
    ·rwa[Nat.dvd_trans (bd y' z) (Nat.dvd_lcm_left _ _)]
    ·rw[D_.mp z];rwa[Nat.dvd_lcm_right _ _]
  ·intro σ H2 O;let#[45,x2,x3,x4,b,1,1,b0,bB,b1,bd]:=O
   rw[lu,MZ] at bd;erw[0,l,1,#[_,SqL.of hl],cm (n:=us.length) (σ0:=[none,none,none,some (.int b)]) rfl (λσ=>∃u1 u2 u3,σ=[u1,u2,u3,some (.int b)]) AM (λH H' v x fx ⟨a,k,e,h1,h2⟩=>#[a,k,e,fx.tup h1,fx.tup h2]) (λi xs=>xs.map (·.1)=(ts.take i).map (·.1)/\∀p∈xs,p.2.natAbs<=M*B) () #[_,_,0] #[1,λp hp=>(nomatch hp)] (λi H hi U=>#[us,_,SqL.of (U _ _ hl),ge hi]) (λH U=>#[us,SqL.of (U _ _ hl),e_ _]) ?_ ?_]
   ·rintro i σ H3 x H' xs Y N hi ⟨u1,u2,u3,rfl⟩ U ⟨pk,pv⟩ ⟨rfl,hx⟩ hY hN;have hx:=hx us (SqL.of (U _ _ hl))
    let#[62,y,ey,t,k,1,ht,hk]:=aD pu hx
    let#[04,d0,dB,d43,n43,nM]:=dv ey
    let#[c,hc]:=bd y (GY ey);have ef:(b:Int).fdiv y.2.2=c:=by
     rw[hc,MQ,MU ()]
     rwa[LW _ ()]
    have cb:c<=b:=by rw[hc];rwa[Mu _ ()]
    have a2:=Nd B0 bB;erw[23212122,t,0,SqT.of (U _ _ ht),1,_,0,_,0,2,ul ?_];erw[51512324,0,0,0,0,2,#[(),()],2,fu () (by rw[ef,HM];lia),by show 2<=sizeLine;decide,λp np=>?_]
    erw[hY _ _ (y.1,y.2.1*(b:Int).fdiv y.2.2) _ #[30,_,_,0] (Ga.new np) #[22,p,k,1,ae,Ga.new np _ _ (U _ _ hk)] #[?_,λp' a5=>?_]]
    ·rw[L8,Mw,ey,L8,pk]
     rfl
    ·rcases Ht.mp a5 with z|z
     ·rwa[pv p' z]
     ·rw[D_.mp z,ef];show(y.2.1*(c:Int)).natAbs<=M*B;rw[J_,HM];erw[Hb (LP c nM) ?_];rw[Qa,<- hc];rwa[Pn M a2]
   ·rintro acc vs m H3 a8 U a4 pr _ ⟨pk,pv⟩;rw[lu,MZ] at pk;let#[as,1,a7]:=lS pr;erw[33,acc,as,DT m,1,a4,a7,λd a6=>#[22,d,0,ae,λo=>?_]]
    have e1:je [] (DT m)=DT m:=zH m [] (by rw[List.nil_append,pk];rwa[nd])
    rw[e1,cf];erw[0,by show 2<=sizeLine;decide,λr nr=>?_]
    have rd:r≠d:=λz=>by rw[z,ae] at nr;cases nr
    rwa[q r d o b m _ ((U.trans (Ga.new a6)).trans (Ga.new nr)) ae (by rw[ak rd.symm];rwa[ae]) b0 bB b1 pk pv]
end
theorem Fw:(["key", "top", "common"]:List Str).Nodup:=#[5]
theorem Fl:(["key", "top", "modulus"]:List Str).Nodup:=#[5]
theorem EV:(["key", "top"]:List Str).Nodup:=#[5]
def FN:Sp:=λvs H Q _=>∃(d:Addr) (o:Obj) (kvs:List (Key×V)),vs=[.ref d,.int 1]/\H d=some (.frz o (.dK kvs))/\∀H',Ga H H'->Q (.int 1) H'
def Df:Sp:=λvs H Q _=>∃(d:Addr) (o:Obj) (kvs:List (Key×V)),vs=[.ref d,.int 1]/\H d=some (.frz o (.dK kvs))/\∀r H',Ga H H'->H' r=some (.tup [.ref d,.int 1])->Q (.ref r) H'
def VecAt(H:Hp)(v:V)(m:List (Int×Int)):Prop:=∃r d o,v=.ref r/\H r=some (.tup [.ref d,.int 1])/\H d=some (.frz o (.dK (DK m)))
section
variable [Quiet base]
theorem GH:Gb ["tops", "bottom", "common", "top"] ["tops", "bottom"] (aj de):=.i
theorem Br(F:Fun K "common_divisor" "common_divisor" de f fd)(HS:`FnB 1 "greatest_divisor" pA):`Gd CX0 2 f fd ["tops", "bottom"] FN:=by
 erw[F.o GH λ_ _ _ _ H _ Q _ hr h=>?_]
 ·let#[32,d,o,kvs,1,hd,q]:=h
  erw[_,(af #[5,2,GH,(pv 1)]
(af (be Hu rfl (BG K rfl (pv 0)) (aM (i:=3) GH.nd rfl #[4])
(af (aL (aw bf (pv 2) ah (au _))
(ai (ar ah))
aB)
(ai #[5,2,GH,(az HS hr.m #[6,3,2])])))
(ai (ar (pv 2))))),?_]
  erw[5133,0,0,d,o,kvs,1,1,hd,λv Z=>#[43,v,d,o,kvs,1,ae,Ga.new Z _ _ hd,?_]]
  erw[qC (n:=kvs.length) (λi σ H'=>∃U:Option V,σ=[some (.ref d),some (.int 1),some (.int 1),U]/\Ga H H') #[none,1,Ga.new Z] ?_ ?_ ?_ ?_]
  ·rintro i σ H' hi ⟨U,rfl,O⟩;rwa[O _ _ hd,by rw[z_];rwa[hi]]
  ·rintro σ H' ⟨U,rfl,O⟩;rwa[O _ _ hd,by rw[z_];rwa[e_ _]]
  ·rintro i σ H2 x H' hi ⟨U,rfl,O⟩ ⟨rfl,hx⟩ N hN;rwa[0,1,0,aU (q _ O)]
  ·rintro σ H2 ⟨U,rfl,O⟩;rwa[0,q _ O]
theorem sc_cancelled:Gb ["tops", "bottom", "common"] ["tops", "bottom"] (aj gB):=.i
theorem wj(F:Fun K "cancelled" "cancelled" gB f fd)(ndict:mg "dict" = none)(IB:`FnB 2 "common_divisor" FN):`Gd CX0 3 f fd ["tops", "bottom"] Df:=by
 erw[F.o sc_cancelled λ_ _ _ _ H _ Q _ O h=>?_]
 ·let#[32,d,o,kvs,1,hd,q]:=h
  erw[_,(af (am (i:=2) sc_cancelled.nd rfl (Or.inr rfl) (az IB O.m #[6,0,1]))
(af (aL (aw bf (pv 2) ah (au _))
(ai (ar (aN #[6,0,1])))
aB)
(ai (ar (aN #[6,(j6 ndict #[9,aR (N:=["key", "top", "common"]) (src:=[none,none,some 2]) rfl rfl rfl #[9,qk K rfl (pv 0)] (λ_ _ _=>by rwa[by exact(bx K (i:=0) (j:=1) rfl rfl Fw rfl rfl rfl rfl),aO,by exact(aN #[6,0,(ao bj (pv 1) (pv 2))])])]),(ao bj (pv 1) (pv 2))]))))),?_]
  erw[5132,0,0,d,o,kvs,1,hd,λH1 s1=>?_]
  erw[0,1,0,aU #[52,0,0,by show 2<=sizeLine;decide,λr U=>?_]]
  rwa[q r _ (s1.trans (Ga.new U)) ae]
end
def rR(H:Hp)(v:V)(p:Int×Int):Prop:=∃a,v=.ref a/\H a=some (.tup [.int p.1,.int p.2])
theorem kl:∀{us:List V} {m:List (Int×Int)},Paired (rR H) us m->∃as:List Addr,us=as.map V.ref/\Paired (λ(a:Addr) (p:Key×V)=>H a=some (.tup [kV p.1,p.2])) as (DK m)
 |_,_,.nil=>#[[],1,.nil]
 |_,_,.cons h t=>by
  let#[as,e,pr]:=kl t;let#[a,1,h1]:=h;rwa[a::as,by rw[e];rfl,.cons h1 pr]
def FF:Sp:=λvs H Q _=>∃(P:Int) (d:Addr) (m:List (Int×Int)) (T:Nat),vs=[.int P,.ref d,.int 1]/\0<=P/\P<10000/\H d=some (.dK (DK m))/\m.length<=64/\(∀p∈m,p.2.natAbs<=T)/\10000<=T/\
 ∀v m' H',(∀c o,c≠d->H c=some o->H' c=some o)->VecAt H' v m'->m'.length<=m.length->(∀p∈m',p.2.natAbs<=T)->Q v H'
theorem fi(m:List (Int×Int)):(DK m).map (λp=>(kV p.1,p.2))=m.map λp=>(V.int p.1,V.int p.2):=by
 unfold DK;rw[Oo]
 rfl
section
variable [Quiet base]
theorem iF:Gb ["modulus", "tops", "bottom"] ["modulus", "tops", "bottom"] (aj cR):=.i
theorem E3(F:Fun K "without_noughts" "without_noughts" cR f fd)(ndict:mg "dict" = none)(JE:`FnB 3 "cancelled" Df):`Gd CX0 4 f fd ["modulus", "tops", "bottom"] FF:=by
 erw[F.o iF λ_ _ _ _ H _ Q _ hr h=>?_]
 ·let#[47,P,d,m,T,1,P0,P1,hd,l64,hT,T1,q]:=h
  erw[_,(af (aL (aw gh (pv 0) ah (au _))
(ai (ar (aN #[6,(mY (j6 ndict #[9,aR (N:=["key", "top", "modulus"]) (src:=[none,none,some 0]) rfl rfl rfl #[9,lQ K rfl (pv 1)] (λ_ _ _=>by rwa[by exact(bx K (i:=0) (j:=1) rfl rfl Fl rfl rfl rfl rfl),(eR (aw gh (ao aZ (pv 1) (pv 2)) ah (au _))),by exact(aN #[6,0,(ao aZ (pv 1) (pv 2))])])])),ah])))
aB)
(ai (ar (az JE hr.m #[6,(mY (j6 ndict #[9,aR (N:=["key", "top"]) (src:=[none,none]) rfl rfl rfl #[9,lQ K rfl (pv 1)] (λ_ _ _=>by rwa[by exact(bx K (i:=0) (j:=1) rfl rfl EV rfl rfl rfl rfl),(eR (aw gh (pv 1) ah (au _))),by exact(aN #[6,0,1])])])),2])))),?_]
  have go (o:Obj) (v:Addr):∀i (H1:Hp) x (H':Hp),i<m.length->(Iti d o (.dK (DK m)) ((DK m).map λp=>(kV p.1,p.2))).yld i H1 x H'->∃(p:Addr) (y:Int×Int),m[i]? = some y/\x=.ref p/\H1 p=none/\H'=upd H1 p (.tup [.int y.1,.int y.2]):=by
   intro i H1 x H' hi a7;let#[33,p,k,y,1,np,1,e]:=a7
   rw[fi,Hx] at e;cases e2:m[i]? with
   |none=>rw[e2] at e;cases e
   |some z=>
    rw[e2] at e;cases e;rwa[23,p,z,1,1,np,1]
  have a6:∀H H' v (x:Int×Int),Fix H H'->rR H v x->rR H' v x:=λH H' v x fx ⟨a,e,h⟩=>#[a,e,fx.tup h]
  have lk:((DK m).map λp=>(kV p.1,p.2)).length=m.length:=by rw[fi,z_]
  erw[0,1,0,bC (λh=>?_) (λh=>?_)]
  ·have h0:P≠0:=λz=>by rw[z] at h;cases h
   erw[1223,0,.inr (.inr (.inl #[1,.inl #[_,hd]])),d,0,1,hd,λv nv=>#[33,v,d,0,ae,Ga.new nv _ _ hd,λo=>?_]]
   have dv:d≠v:=λz=>by rw[<- z,hd] at nv;cases nv
   erw[cm (n:=m.length) (σ0:=[none,none,some (.int P)]) rfl (λσ=>∃u1 u2,σ=[u1,u2,some (.int P)]) rR a6 (λi xs=>∀p∈xs,p.2.natAbs<=T) () #[20,_,0] (λp hp=>(nomatch hp)) (λi H1 hi O=>#[O _ _ ae,by rw[lk];rwa[hi]]) (λH1 O=>#[O _ _ ae,by rw[lk];rwa[e_ _]]) ?_ ?_]
   ·rintro i σ H1 x H' xs Y N hi ⟨u1,u2,rfl⟩ O pv hy hY hN
    let#[23,p,y,ey,1,np,1]:=go o v i H1 x H' hi hy
    erw[232122,p,0,SqT.of ae,1,_,0,2,?_];erw[512411,0,0,2,(by show 0<P;lia),1,0,bC (λh=>?_) (λh=>hN _ _ #[20,_,0] (Ga.new np) pv)]
    erw[5164,0,0,0,2,(by show 0<P;lia),by show 2<=sizeLine;decide,λp2 a3=>?_]
    erw[hY _ _ (y.1,y.2%P) _ #[20,_,0] ((Ga.new np).trans (Ga.new a3)) #[p2,1,ae] λp' a1=>?_]
    rcases Ht.mp a1 with z|z
    ·rwa[pv p' z]
    ·rw[D_.mp z];have h1:=L5 y.2 h0;have h2:=LC y.2 (show 0<P by lia)
     show(y.2%P).natAbs<=T;lia
   ·rintro acc vs m1 H1 a5 O Z pr lm pv;let#[as,1,a4]:=kl pr
    let#[12,m2,e2,h2,n2]:=tN m1 []
    rw[Qh,Nat.zero_add] at n2;erw[33,acc,as,DK m1,1,Z,a4,λU a2=>#[22,U,0,ae,λo2=>?_]]
    rw[show kC [] (DK m1)=DK m2 from e2,cf]
    erw[by show 2<=sizeLine;decide,λr nr=>?_]
    have rd:r≠U:=λz=>by rw[z,ae] at nr;cases nr
    erw[q _ m2 _ (λc o' hc e=>?_) #[32,r,U,o2,1,ae,by rw[ak rd.symm];rwa[ae]] () λp hp=>pv p ((h2 p hp).resolve_left (λz=>nomatch z))]
    erw[Ga.new nr _ _ (Ga.new a2 _ _ (O _ _ ?_))];rw[ak hc];rwa[Ga.new nv _ _ e]
  ·have h0:P=0:=Decidable.byContradiction λz=>h (by rw[GN λy=>z (by injection y)];rfl)
   erw[1223,0,.inr (.inr (.inl #[1,.inl #[_,hd]])),d,0,1,hd,λv nv=>#[33,v,d,0,ae,Ga.new nv _ _ hd,λo=>?_]]
   erw[cm (n:=m.length) (σ0:=[none,none]) rfl (λσ=>∃u1 u2,σ=[u1,u2]) rR a6 (λi xs=>∀p∈xs,p.2.natAbs<=T) () #[20,_,0] (λp hp=>(nomatch hp)) (λi H1 hi O=>#[O _ _ ae,by rw[lk];rwa[hi]]) (λH1 O=>#[O _ _ ae,by rw[lk];rwa[e_ _]]) ?_ ?_]
   ·rintro i σ H1 x H' xs Y N hi ⟨u1,u2,rfl⟩ O pv hy hY hN
    let#[23,p,y,ey,1,np,1]:=go o v i H1 x H' hi hy
    erw[232122,p,0,SqT.of ae,1,_,0,2,?_];erw[0,1,0,bC (λh=>?_) (λh=>hN _ _ #[20,_,0] (Ga.new np) pv)]
    erw[52,0,0,by show 2<=sizeLine;decide,λp2 a3=>?_]
    erw[hY _ _ (y.1,y.2) _ #[20,_,0] ((Ga.new np).trans (Ga.new a3)) #[p2,1,ae] λp' a1=>?_]
    rcases Ht.mp a1 with z|z
    ·rwa[pv p' z]
    ·rw[D_.mp z];rwa[hT y (GY ey)]
   ·rintro acc vs m1 H1 a5 O Z pr lm pv;let#[as,1,a4]:=kl pr
    let#[12,m2,e2,h2,n2]:=tN m1 []
    rw[Qh,Nat.zero_add] at n2;erw[33,acc,as,DK m1,1,Z,a4,λU a2=>#[22,U,0,ae,λo2=>?_]]
    rw[show kC [] (DK m1)=DK m2 from e2,cf]
    erw[72,0,U,o2,DK m2,1,ae,λr H2 s2 hr=>?_]
    erw[q _ m2 _ (λc o' hc e=>s2 _ _ ?_) #[32,r,U,o2,1,hr,s2 _ _ ae] () λp hp=>pv p ((h2 p hp).resolve_left (λz=>nomatch z))]
    erw[Ga.new a2 _ _ (O _ _ ?_)];rw[ak hc];rwa[Ga.new nv _ _ e]
end
abbrev Shr:=Int×Int×List (Int×Int)
variable {s:Shr}{ss:List Shr}
def ShareR(H:Hp)(v:V)(s:Shr):Prop:=∃a vec,v=.ref a/\H a=some (.tup [.int s.1,.int 1,.int s.2.1,vec])/\VecAt H vec s.2.2
def LowR(H:Hp)(v:V)(s:Shr):Prop:=∃a d o,v=.ref a/\H a=some (.tup [.int s.1,.int 1,.int s.2.1,.ref d])/\H d=some (.frz o (.dK (DK s.2.2)))
def tot(ss:List Shr):Nat:=(ss.map λs=>s.2.2.length).sum
theorem VecAt.fix{m:List (Int×Int)}(fx:Fix H H')(h:VecAt H v m):VecAt H' v m:=by
 let#[32,r,d,o,e,h1,h2]:=h
 rwa[32,r,d,o,e,fx.tup h1,fx.frz h2]
theorem ShareR.fix(fx:Fix H H')(h:ShareR H v s):ShareR H' v s:=by
 let#[22,a,vec,e,h1,h2]:=h
 rwa[22,a,vec,e,fx.tup h1,h2.fix fx]
theorem LowR.fix(fx:Fix H H')(h:LowR H v s):LowR H' v s:=by
 let#[32,a,d,o,e,h1,h2]:=h
 rwa[32,a,d,o,e,fx.tup h1,fx.frz h2]
theorem AS{i:Nat}(e:ss[i]? = some s):tot (ss.take (i+1))=tot (ss.take i)+s.2.2.length:=by
 unfold tot;rw[Mw,e,L8,sum_append];simp
theorem Di(ss:List Shr)(i:Nat):tot (ss.take i)<=tot ss:=by
 have h:tot ss=tot (ss.take i)+tot (ss.drop i):=by
  unfold tot;rw[<- sum_append,<- L8,List.take_append_drop]
 lia
def zg:Sp:=λvs H Q _=>∃(P:Int) (l:Addr) (us:List V) (ss:List Shr) (A W:Nat),vs=[.int P,.ref l]/\0<=P/\P<10000/\H l=some (.lst us)/\Paired (ShareR H) us ss/\ss.length<=8/\tot ss<=64/\(∀s∈ss,s.1.natAbs<=A/\∀p∈s.2.2,p.2.natAbs<=W)/\10000<=A/\1<=W/\A<2^4300/\W<2^4300/\
 ∀v m H',Ga H H'->VecAt H' v m->m.length<=tot ss->(∀p∈m,p.2.natAbs<=64*(A*W))->Q v H'
section
variable [Quiet base]
theorem Gk:Gb ["modulus", "shares", "lowest", "top", "under", "shift", "vector", "common", "bottom", "tops", "found", "factor", "key", "own"] ["modulus", "shares"] (aj pK):=.i
theorem yY(F:Fun K "mixed" "mixed" pK f fd)(HS:`FnB 1 "greatest_divisor" pA)(HY:`FnB 2 "least_multiple" BU)(Iz:`FnB 4 "without_noughts" FF):`Gd CX0 5 f fd ["modulus", "shares"] zg:=by
 erw[F.o Gk λ_ _ _ _ H _ Q _ hr h=>?_]
 ·let#[402903,P,l,us,ss,A,W,1,P0,P1,hl,pu,l8,l64,hs,A1,W1,A43,W43,q]:=h
  erw[_,(af #[5,2,Gk,(aX ag)]
(af (be Hu rfl (aG K rfl (pv 1)) (km rfl #[9,aS #[9,aM (i:=3) Gk.nd rfl #[4]] #[9,aS #[9,aM (i:=4) Gk.nd rfl #[4]] #[9,aS #[9,aM (i:=5) Gk.nd rfl #[4]] #[9,aS #[9,aM (i:=6) Gk.nd rfl #[4]] ii]]]])
(af #[5,7,Gk,(az HS hr.m #[6,3,(ao br (pv 4) (aC (aA K rfl) (pv 6) ah (λ_ _=>rfl)))])]
(ai (cA (bmA K rfl (pv 2) #[6,(aN #[6,(ao bj (pv 3) (pv 7)),(ao bj (ao br (pv 4) (aC (aA K rfl) (pv 6) ah (λ_ _=>rfl))) (pv 7)),5,(aC (aA K rfl) (pv 6) ah (λ_ _=>rfl))])])))))
(af #[5,8,Gk,ah]
(af (be Hu rfl (aG K rfl (pv 2)) (km rfl #[9,aS #[9,aM (i:=3) Gk.nd rfl #[4]] #[9,aS #[9,aM (i:=4) Gk.nd rfl #[4]] #[9,aS #[9,aM (i:=5) Gk.nd rfl #[4]] #[9,aS #[9,aM (i:=9) Gk.nd rfl #[4]] ii]]]])
(ai #[5,8,Gk,(az HY hr.m #[6,8,4])]))
(af #[5,10,Gk,lF]
(af (be Hu rfl (aG K rfl (pv 2)) (km rfl #[9,aS #[9,aM (i:=3) Gk.nd rfl #[4]] #[9,aS #[9,aM (i:=4) Gk.nd rfl #[4]] #[9,aS #[9,aM (i:=5) Gk.nd rfl #[4]] #[9,aS #[9,aM (i:=9) Gk.nd rfl #[4]] ii]]]])
(af #[5,11,Gk,(ao br (pv 3) (ao bj (pv 8) (pv 4)))]
(ai (be Hu rfl (qk K rfl (pv 9)) (bx K (i:=12) (j:=13) rfl rfl Gk.nd rfl rfl rfl rfl)
(ai (wa (hu1 hr) (pv 10) (ao aQ (pv 12) (pv 5)) (ao aQ (Bf (hu1 hr) (pv 10) (ao aQ (pv 12) (pv 5)) ah #[1,1,1,1]) (ao br (pv 11) (pv 13))) rfl))))))
(ai (ar (az Iz hr.m #[6,0,10,8]))))))))),?_]
  have lu:us.length=ss.length:=Paired.length pu;have ad:(2:Nat)^4300<2^8800:=HF #[] #[]
  have a1:(1:Nat)<2^8800:=Hh (#[]:(1:Nat)<2^1) (Hr #[] #[])
  have f1:∀a:Int,a.fdiv 1=a:=λa=>by rw[Int.fdiv_one]
  erw[by show 0<=sizeLine;rwa[Hj _],λlo a6=>?_]
  have ac:l≠lo:=λz=>by rw[<- z,hl] at a6;cases a6
  erw[52,0,l,1,#[_,SqL.of (Ga.new a6 _ _ hl)],bw (xs:=us) (λi σ H'=>∃(x3 x4 x5 x6 x7:Option V) (ws:List V),σ=[some (.int P),some (.ref l),some (.ref lo),x3,x4,x5,x6,x7,none,none,none,none,none,none]/\Ga H H'/\H' lo=some (.lst ws)/\Paired (LowR H') ws (ss.take i)) ?_ ?_ ?_ ?_]
  ·rwa[4023,none,none,none,none,none,[],1,Ga.new a6,ae,.nil]
  ·intro i σ H' _ O;let#[4022,x3,x4,x5,x6,x7,ws,1,sm,_]:=O
   rwa[SqL.of (sm _ _ hl)]
  ·intro i v σ H2 hv O N0 C0 a4;let#[4023,x3,x4,x5,x6,x7,ws,1,sm,hw,pw]:=O
   let#[6232,y,ey,a,vec,1,ha,r,d,o,1,a5,hd]:=aD pu hv
   have lw:ws.length=(ss.take i).length:=Paired.length pw;have ha:=sm _ _ ha;have a5:=sm _ _ a5;have g1:(Int.gcd y.1 (1*1):Int)=1:=by rw[Int.one_mul,Int.gcd_one_right];rfl
   erw[2321212122,a,0,SqT.of ha,1,_,0,_,0,_,0,2,?_];erw[51842321,0,0,0,r,_,2,SqT.of a5,1,2,fu a1 a1,_,0,?_];rw[g1];erw[125123514423635145,0,.inl #[1,_,SqL.of hw],0,0,2,#[#[],a1],0,0,r,_,2,SqT.of a5,1,2,fu a1 a1,0,2,#[#[],a1],0,0,r,_,2,SqT.of a5,1,by show 4<=sizeLine;decide,λt nt=>?_]
   erw[34,lo,ws,0,1,Ga.new nt _ _ hw,by rw[lw,MY,Hc];lia,?_]
   have fx:Fix H2 (upd (upd H2 t (.tup [.int (y.1.fdiv 1),.int ((1*1:Int).fdiv 1),.int y.2.1,.ref d])) lo (.lst (ws++[.ref t]))):=λc o' no e=>by
    rw[ak (bD e hw (no _))];rwa[Ga.new nt _ _ e]
   have tl:t≠lo:=λz=>by rw[z,hw] at nt;cases nt
   erw[a4 _ _ #[4023,_,_,_,_,_,0,λc o' e=>?_,ae,?_]]
   ·rw[ak (al e a6)];rwa[Ga.new nt _ _ (sm _ _ e)]
   ·rw[Mw,ey];erw[aV #[32,t,d,o,1,?_,fx.frz (sm _ _ hd)] (aq (λ_ _ z=>z.fix fx) pw)]
    rw[ak tl,ae];show some (HO.tup [.int (y.1.fdiv 1),.int 1,.int y.2.1,.ref d])=_;rw[f1]
  ·intro σ H1 O;let#[4023,x3,x4,x5,x6,x7,ws,1,s1,hw,pw]:=O
   rw[lu,MZ] at pw;have lw:ws.length=ss.length:=Paired.length pw;erw[52,0,lo,1,#[_,SqL.of hw],bw (xs:=ws) (λi σ H'=>∃(x3 x4 x5 x6 x7 x9:Option V),σ=[some (.int P),some (.ref l),some (.ref lo),x3,x4,x5,x6,x7,some (.int 1),x9,none,none,none,none]/\H'=H1) ?_ ?_ ?_ ?_]
   ·rwa[4021,_,_,_,_,2]
   ·intro i σ H' _ O;let#[4021,x3,x4,x5,x6,x7,x9,1,1]:=O
    rwa[SqL.of hw]
   ·intro i v σ H2 hv O N0 C0 a4;let#[4021,x3,x4,x5,x6,x7,x9,1,1]:=O
    let#[72,y,ey,a,d,o,1,ha,hd]:=aD pw hv
    erw[2321212122,a,0,SqT.of ha,1,_,0,_,0,_,0,2,?_];erw[5125,0,0,(1),(1),1,#[],#[],Hh (#[]:(1:Nat)<2^1) (Hr #[] #[]),Hh (#[]:(1:Nat)<2^1) (Hr #[] #[]),?_]
    rwa[a4 _ _ #[4021,_,_,_,_,2]]
   ·intro σ H2 O;let#[4021,x3,x4,x5,x6,x7,x9,1,1]:=O
    intro fo a3;have fw:lo≠fo:=λz=>by rw[<- z,hw] at a3;cases a3
    erw[52,0,lo,1,#[_,SqL.of (Ga.new a3 _ _ hw)],bw (xs:=ws) (λi σ H'=>∃(x3 x4 x5 x6 x7 x9 a8 U Z:Option V) (m:List (Int×Int)),σ=[some (.int P),some (.ref l),some (.ref lo),x3,x4,x5,x6,x7,some (.int 1),x9,some (.ref fo),a8,U,Z]/\Ga H2 H'/\H' fo=some (.dK (DK m))/\m.length<=tot (ss.take i)/\∀p∈m,p.2.natAbs<=tot (ss.take i)*(A*W)) ?_ ?_ ?_ ?_]
    ·rwa[404024,_,_,_,_,_,_,none,none,none,[],1,Ga.new a3,ae,Hj _,λp hp=>(nomatch hp)]
    ·intro i σ H' _ O;let#[404022,x3,x4,x5,x6,x7,x9,a8,U,Z,m,1,sm,_]:=O
     rwa[SqL.of (sm _ _ hw)]
    ·intro i v σ H3 hv O N0 C0 a4;let#[404024,x3,x4,x5,x6,x7,x9,a8,U,Z,m,1,s3,hfo,lm,bm]:=O
     let#[72,y,ey,a,d,o,1,ha,hd]:=aD pw hv
     have hy:=hs y (GY ey);have tt:=AS ey;have tl:=Di ss (i+1);have ha:=s3 _ _ ha;erw[2321212122,a,0,SqT.of ha,1,_,0,_,0,_,0,2,?_];erw[516323,0,0,0,2,#[#[],a1],2,fu () #[5],?_]
     show bP 11 (V.int (y.1*(1:Int).fdiv 1)) _ _ _;rw[f1,O9];erw[73,0,d,o,0,1,s3 _ _ hd,λvw a9=>#[43,vw,d,o,0,ae,Ga.new a9 _ _ (s3 _ _ hd),?_]]
     have lk:((DK y.2.2).map λp=>(kV p.1,p.2)).length=y.2.2.length:=by rw[fi,z_]
     erw[qC (n:=y.2.2.length) (λj σ H'=>∃(U Z:Option V) (m:List (Int×Int)),σ=[some (.int P),some (.ref l),some (.ref lo),some (.int y.1),some (.int 1),some (.int y.2.1),x6,x7,some (.int 1),some (.ref d),some (.ref fo),some (.int y.1),U,Z]/\Ga H2 H'/\H' fo=some (.dK (DK m))/\m.length<=tot (ss.take i)+j/\∀p∈m,p.2.natAbs<=(tot (ss.take i)+j)*(A*W)) ?_ ?_ ?_ ?_ ?_]
     ·rwa[34,_,_,m,1,λc o' e=>Ga.new a9 _ _ (s3 _ _ e),Ga.new a9 _ _ hfo,lm,bm]
     ·intro j σ H' hj O;let#[32,U,Z,m',1,sm,_]:=O
      rwa[sm _ _ hd,by rw[lk];rwa[hj]]
     ·intro σ H' O;let#[32,U,Z,m',1,sm,_]:=O
      rwa[sm _ _ hd,by rw[lk];rwa[e_ _]]
     ·rintro j σ H4 x H' hj ⟨U,Z,m',rfl,sm,a2,a',a7⟩ ⟨p,k,u,rfl,np,rfl,e⟩ N hN;rw[fi,Hx] at e;obtain⟨z,ez⟩:∃z,y.2.2[j]? = some z:=#[_,ge hj]
      rw[ez] at e;cases e;have hz:=hy.2 z (GY ez);have fp:fo≠p:=λz=>by rw[<- z,a2] at np;cases np
      have h5:=Ga.new (o:=.tup [.int z.1,.int z.2]) np _ _ a2;erw[232122,p,0,SqT.of ae,1,_,0,2,?_];erw[5251225163,0,fo,1,.inl #[_,.inl h5],0,0,2,dZ (DK m') (.inl (z.1+y.2.1)),DGet.k (k:=.inl (z.1+y.2.1)) h5,0,0,2,fu () (),?_]
      obtain⟨g,eg,hg⟩:∃g:Int,(dZ (DK m') (.inl (z.1+y.2.1))).getD (.int 0)=.int g/\g.natAbs<=(tot (ss.take i)+j)*(A*W):=by
       rcases Ef m' (z.1+y.2.1) with e|⟨v,e,hv⟩
       ·rw[e];rwa[(0),1,Hj _]
       ·rw[e];rwa[v,1,a7 _ hv]
      rw[eg]
      let#[12,m2,e2,h2,n2]:=Ab m' (z.1+y.2.1) (g+y.1*z.2)
      erw[22516222,2,0,0,0,2,fo,0,DPut.k (k:=.inl (z.1+y.2.1)) h5 (by unfold DK;rw[z_,Hc];lia),?_]
      rw[e2];erw[hN _ _ #[34,_,_,m2,1,λc o' e=>?_,ae,(),λq hq=>?_]]
      ·rw[ak (al e a3)];rwa[Ga.new np _ _ (sm _ _ e)]
      ·have e3:(tot (ss.take i)+(j+1))*(A*W)=(tot (ss.take i)+j)*(A*W)+A*W:=by rw[<- Nat.add_assoc,Nat.add_mul (tot (ss.take i)+j) 1,Q9]
       rw[e3]
       rcases h2 q hq with z'|z'
       ·rwa[Hb (a7 q z') (Py _ _)]
       ·rw[z'];have e4:=Int.natAbs_add_le g (y.1*z.2);have e5:(y.1*z.2).natAbs<=A*W:=by rw[J_];rwa[OW hy.1 hz]
        show(g+y.1*z.2).natAbs<=_;lia
     ·intro σ H' O;let#[34,U,Z,m',1,sm,a2,a',a7]:=O
      rwa[a4 _ _ #[404024,_,_,_,_,_,_,_,_,_,m',1,sm,a2,(),by rw[tt];rwa[a7]]]
    ·intro σ H3 O;let#[404024,x3,x4,x5,x6,x7,x9,a8,U,Z,m,1,s3,hfo,lm,bm]:=O
     rw[lw,MZ] at lm bm;have big:tot ss*(A*W)<=64*(A*W):=LP _ l64;have t1:10000<=64*(A*W):=by
      have:A*1<=A*W:=Pn A W1;lia
     erw[5187,0,0,0,P,fo,m,64*(A*W),1,P0,P1,hfo,(),λp hp=>Hb (bm p hp) big,t1,λv m' H' k va ln bv=>?_]
     erw[q v m' H' (λc o' e=>k c o' (al (s1 _ _ e) a3) (s3 _ _ (s1 _ _ e))) va () bv]
end
theorem FY:(["behind", "whole"]:List Str).Nodup:=#[5]
theorem FK:(["letter"]:List Str).Nodup:=#[5]
def Dg:Sp:=λvs H Q _=>∃L z:Int,vs=[.int L,.int z]/\0<=L/\L<=4/\∀(t:Addr) (es:List Int) (H':Hp),Ga H H'->H' t=some (.tup (es.map V.int))->(es.length:Int)=L->Q (.ref t) H'
section
variable [Quiet base]
theorem sc_unpacked:Gb ["letters", "whole", "oftens"] ["letters", "whole"] (aj iN):=.i
theorem qH{t1 t2 t3:Tok}(F:Fun K "unpacked" "unpacked" iN f fd)(T:Blt mg)(nreversed:mg "reversed" = none)(cLB:mg "LETTER_BITS"=some (.int 20 t1))(cPB:mg "PLACE_BITS"=some (.int 20 t2))(cLM:mg "LETTER_MASK"=some (.int 1048575 t3)):
  Gd P w K mg base CX0 1 f fd ["letters", "whole"] Dg:=by
 erw[F.o sc_unpacked λ_ _ _ _ H _ Q _ hr h=>?_]
 ·let#[23,L,z,1,L0,L4,q]:=h
  erw[_,(af (dD (i:=2) sc_unpacked.nd rfl #[4] (N:=["behind", "whole"]) (src:=[none,some 1]) rfl rfl rfl #[9,bU rfl T.range #[6,0]] (λ_ _ _=>by rwa[by exact(bL (i:=0) FY rfl rfl),aO,by exact(ao yN (ao yy (pv 1) (ao aQ (bu (v:=.int 20) rfl cPB #[0]) (ao bH (bu (v:=.int 20) rfl cLB #[0]) (pv 0)))) (bu (v:=.int 1048575) rfl cLM #[0]))]))
(ai (ar (xv T.tuple nreversed (pv 2))))),?_]
  erw[53,0,L,1,(),(),oW (rest:=[some (.int z)]) rfl (λi:Nat=>.int (Builtin.bitAnd (z/2^((20:Int)+20*(0+(i:Int))).toNat) 1048575)) () (λi H1 R hi s1 O=>?_) λc H1 nc s1 U=>?_]
  ·rwa[5123222322,0,0,2,.inl #[#[],#[]],2,2,(by show(0:Int)<=20+20*(0+(i:Int));lia),2,O H1 (Ga.refl _)]
  ·erw[62,0,c,0,U,λt Z=>?_]
   have e:∀(n:Nat) (g:Nat->Int),(List.map (λi=>V.int (g i)) (List.range n)).reverse=(((List.range n).map g).reverse).map V.int:=λn g=>by rw[List.map_reverse,Oo];rfl
   rw[e];rwa[q t _ _ (s1.trans (Ga.new Z)) ae (by rw[LO,z_,OA];lia)]
end
def BecR(H:Hp)(v:V):Prop:=∃l us,v=.ref l/\H l=some (.lst us)/\us.length<=4/\∀u∈us,∃(a:Addr) (t s:Int),u=.ref a/\H a=some (.tup [.int t,.int s])/\t.natAbs<=2^510
structure TurnAt (CT:Addr) (H:Hp) (x g:Addr) (P L:Int) (b:Nat):Prop where
 ex:∃dx lb bs,H x=some (.ins CT dx [("own_ring",.ref g),("modulus",.int P),("bottom",.int b),("becomes",.ref lb)])/\H lb=some (.lst bs)/\(bs.length:Int)=L/\∀v∈bs,BecR H v
 b0:0<b
 b1:P≠0->b=1
 bl:b<=2^480
theorem BecR.same(s:Ga H H')(h:BecR H v):BecR H' v:=by
 let#[23,l,us,e,h1,h2,h3]:=h
 erw[23,l,us,e,s _ _ h1,h2,λu O=>?_]
 let#[32,a,t,z,e,h4,h5]:=h3 u O
 rwa[32,a,t,z,e,s _ _ h4,h5]
theorem TurnAt.same{x g:Addr}{P L:Int}{b:Nat}(s:Ga H H')(h:TurnAt CT H x g P L b):TurnAt CT H' x g P L b:=by
 let#[#[dx,lb,bs,h1,h2,O,U],Z,h6,h7]:=h;rwa[#[33,dx,lb,bs,s _ _ h1,s _ _ h2,O,λv hv=>(U v hv).same s],Z,h6,h7]
def g0(CF CR CG CT:Addr):Sp:=λvs H Q _=>∃(x dx g xn a:Addr) (P L:Int) (us:List V) (rows:List (List (Int×Int))),vs=[.ref x,.ref g,.ref a]/\H x=some (.ins CT dx [])/\xn≠x/\dJ CG H g xn L/\Gp CF CR H xn P/\Gc P/\1<=L/\L<=4/\H a=some (.lst us)/\Paired (RowN P H) us rows/\rows.length=L.toNat/\(∀xs∈rows,xs.length=L.toNat/\∀y∈xs,OkN P y/\Sz 30 y)/\
 ∀b H',(∀c o,c≠x->H c=some o->H' c=some o)->TurnAt CT H' x g P L b->Q .non H'
theorem zb{σ:L2.St}(hσ:cH src σ=none::rest)(hn:n<=60)(hd:∀(acc:Addr) (as:List Addr) H,H0 acc=none->Ga H0 H->H acc=some (.lst (as.map V.ref))->as.length=n->as.Nodup->(∀a∈as,H a=some (.lst [])/\H0 a=none/\a≠acc)->Q (.ref acc) H):
  bZ (Itr lo n) src (bP 0) kO (Cr cQ) σ H0 Q:=by
 erw[cc (n:=n) (σ0:=none::rest) hσ (λacc i zs σ H=>(∃u,σ=u::rest)/\Ga H0 H/\∃as:List Addr,zs=as.map V.ref/\as.length=i/\as.Nodup/\∀a∈as,H a=some (.lst [])/\H0 a=none/\a≠acc) (by rw[Hc];lia) (λacc O=>#[#[none,1],Ga.new O,[],1,1,nodup_nil,λa ha=>nomatch ha]) ?_ ?_ ?_ ?_]
 ·rintro acc i zs σ H O hi hz _;rwa[hi]
 ·rintro acc zs σ H O hz _;rwa[e_ _]
 ·rintro acc i zs σ H x H' O hi hz a1 ⟨⟨u,rfl⟩,sm,as,rfl,la,U,ha⟩ ⟨rfl,rfl⟩;erw[Hj _,λp Z=>?_]
  have pa:p≠acc:=λz=>by rw[z,hz] at Z;cases Z
  erw[_,Ga.new Z _ _ hz,by rw[z_,Hc];lia,_,ae,by rw[x_,z_];show _+1<=_;lia,#[0],(sm.trans (Ga.new Z)).put O,as++[p],by rw[L8];rfl,by rw[x_,la];rfl,?_,λa h=>?_]
  ·erw[List.nodup_append.mpr #[U,by simp,λb hb c hc=>?_]]
   rw[D_.mp hc];intro z;rw[z] at hb;have:=(ha p hb).1;rw[Z] at this;cases this
  ·rcases Ht.mp h with z|z
   ·let#[h1,h2,h3]:=ha a z;erw[?_,h2,h3];rw[ak h3];rwa[Ga.new Z _ _ h1]
   ·rw[D_.mp z];rwa[by rw[ak pa,ae],sm.free Z,pa]
 ·intro acc zs σ H O hz a1 a2;let#[0213,_,sm,as,1,la,U,ha]:=a2
  rwa[hd acc as H O sm hz la U ha]
def TsOk(P:Int)(n:Nat)(ts:List bc):Prop:=∀k p,ts[k]? = some p->p.1=[((k/n:Nat):Int),((k%n:Nat):Int)]/\OkN P p.2/\Sz 30 p.2
theorem TsOk.snoc{P:Int}(h:TsOk P n ts)(oy:OkN P y/\Sz 30 y):TsOk P n (ts++[([((ts.length/n:Nat):Int),((ts.length%n:Nat):Int)],y)]):=λk p e=>by
 by_cases hk:k<ts.length
 ·rw[Mh hk] at e;rwa[h k p e]
 ·have O:k=ts.length:=by
   have:=(y_.mp e).1;rw[x_,He] at this;lia
  subst O;simp only[OC,NO] at e;subst e;rwa[1,oy]
theorem TsOk.nodup{P:Int}(h:TsOk P n ts):(ts.map (·.1)).Nodup:=by
 erw[List.pairwise_iff_getElem.mpr λi j hi U a3 e=>?_]
 rw[z_] at hi U;rw[getElem_map,getElem_map] at e;have h1:=(h i _ (ge hi)).1;have h2:=(h j _ (ge U)).1;rw[h1,h2] at e;injection e with O e2
 injection e2 with e2 _
 have Z:=Nat.div_add_mod i n;have a2:=Nat.div_add_mod j n;have O:i/n=j/n:=()
 have e2:i%n=j%n:=()
 rw[O,e2] at Z;lia
theorem ym{CR x:Addr}{P:Int}(hN:Gp CF CR H x P)(ha:∀Z:VK,Z (.ref x) H->ta σ H Z)(hR:R (.int P) H):wQ (dW CF "prime" o4 [] E0 ta cQ) (dW CR "prime" (oE CR) [] E0 ta cQ) σ H R:=by
 rcases hN with⟨h0,dx,e⟩|⟨h0,dx,e⟩
 ·subst h0;rwa[.inl (ha _ #[3311,x,dx,0,e,1,.ref x,1,hR])]
 ·rwa[.inr (ha _ #[3332,x,dx,0,e,mE #[5] _,x,dx,P,1,e,hR])]
section
variable [Quiet base]
theorem Go:Gb ["self", "ring", "turn", "terms", "letter", "own", "place", "number", "fraction", "vector", "key", "top"] ["self", "ring", "turn"] (aj cE):=.i
set_option maxHeartbeats 1000000 in
theorem yD{CR:Addr}(F:Fun K "__init__" "Turning.__init__" cE f fd)(T:Blt mg)(cl:Cls K CT)(n1:Gj K CT "own_ring")(n2:Gj K CT "modulus")(n3:Gj K CT "bottom")(n4:Gj K CT "becomes")(Ix:`MtB 1 CG "numbers" (jS CG))(Iy:`MtB 1 CG "letters" (iM CG))(JJ:`MtB 1 CF "prime" o4)(JK:`MtB 1 CR "prime" (oE CR))(HX:`FnB 2 "top_and_bottom" (Cg CF CR))(Ic:`FnB 3 "over_one_bottom" DL)(J7:`FnB 1 "packed" rV)(Jg:`FnB 1 "lone_letter" As):
  Gd P w K mg base CX0 4 f fd ["self", "ring", "turn"] (g0 CF CR CG CT):=by
 erw[F.o Go λ_ _ _ _ H _ Q _ hr h=>?_]
 ·let#[40401903,x,dx,g,xn,a,P,L,us,rows,1,hx,xnx,hg,hN,hP,L1,L4,ha,pu,lr,okr,q]:=h
  let#[dg,hg]:=hg;erw[_,(af (iJ (pv 0) (pv 1) rfl)
(af (iJ (pv 0) (iP (bR JJ hr.m (bR Ix hr.m (pv 1))) (bR JK hr.m (bR Ix hr.m (pv 1)))) rfl)
(af #[5,3,Go,(aX ag)]
(af (be Hu rfl (mV K rfl rfl T.enum #[6,2]) (bx K (i:=4) (j:=5) rfl rfl Go.nd rfl rfl rfl rfl)
(ai (be Hu rfl (mV K rfl rfl T.enum #[6,5]) (bx K (i:=6) (j:=7) rfl rfl Go.nd rfl rfl rfl rfl)
(af #[5,8,Go,(az HX hr.m #[6,(bR Ix hr.m (pv 1)),7])]
(ai (cA (bmA K rfl (pv 3) #[6,(aN #[6,(aN #[6,4,6]),(aC (aA K rfl) (pv 8) ah (λ_ _=>rfl)),(aC (aA K rfl) (pv 8) ah (λ_ _=>rfl))])])))))))
(af #[5,9,Go,(az Ic hr.m #[6,3])]
(af (iJ (pv 0) (aC (aA K rfl) (pv 9) ah (λ_ _=>rfl)) rfl)
(af (iJ (pv 0) #[9,aR (N:=["letter"]) (src:=[none]) rfl rfl rfl #[9,bU rfl T.range #[6,(bR Iy hr.m (pv 1))]] (λ_ _ _=>by rwa[by exact(bL (i:=0) FK rfl rfl),aO,by exact(aX ag)])] rfl)
(ai (be Hu rfl (qG K rfl (aC (aA K rfl) (pv 9) ah (λ_ _=>rfl))) (bx K (i:=10) (j:=11) rfl rfl Go.nd rfl rfl rfl rfl)
(ai (cA (bmA K rfl (aC (aH K rfl) (dc (pv 0) rfl) (aC (aA K rfl) (pv 10) ah (λ_ _=>rfl)) (λ_ _=>rfl)) #[6,(aN #[6,11,(az J7 hr.m #[6,(az Jg hr.m #[6,(bR Iy hr.m (pv 1)),(aC (aA K rfl) (pv 10) ah (λ_ _=>rfl))])])])])))))))))))),?_]
  have lu:us.length=rows.length:=Paired.length pu;have gx:g≠x:=λz=>by
   rw[z,hx] at hg;cases hg
  have nx:∀{c:Addr} {xs:List V},H c=some (.lst xs)->c≠x:=λ{c xs} e=>bD e hx #[3]
  erw[5145,0,0,x,CT,dx,0,hx,cl,n1,#[],?_]
  have k1:∀(o:HO) c o',c≠x->H c=some o'->upd H x o c=some o':=λo c o' U e=>by rw[ak U];rwa[e]
  have d3:Gp CF CR (upd H x (.ins CT dx [("own_ring",.ref g)])) xn P:=hN.mono λo e=>k1 _ _ _ xnx e
  have c1:=k1 (.ins CT dx [("own_ring",.ref g)]) _ _ gx hg;erw[ym d3 (λZ z=>#[7332,0,g,dg,0,c1,1,g,xn,L,1,#[dg,c1],z]) ?_]
  erw[85,0,x,CT,dx,0,ae,cl,n2,by show(1:Nat)<1000;decide,?_]
  rw[cf];erw[Hj _,λtm av=>?_]
  have bb:tm≠x:=λz=>by rw[z,ae] at av;cases av
  have a4:H tm=none:=by rw[ak bb] at av;rwa[av]
  let n:=L.toNat
  have hn:n=L.toNat:=rfl;generalize hIn:(HO.ins CT dx [("own_ring",V.ref g),("modulus",V.int P)])=IN;erw[52,0,a,1,#[_,SqL.of (by rw[ak (λz=>by rw[<- z] at a4;rw[ha] at a4;cases a4)];rwa[k1 _ _ _ (nx ha) ha])],qX (xs:=us) (λi σ H'=>∃(x4 x5 x6 x7 x8:Option V) (ws:List V) (ts:List bc),σ=[some (.ref x),some (.ref g),some (.ref a),some (.ref tm),x4,x5,x6,x7,x8,none,none,none]/\(∀c o,c≠x->H c=some o->H' c=some o)/\H' x=some IN/\H' tm=some (.lst ws)/\Paired (vH H') ws ts/\TsOk P n ts/\ts.length=i*n) ?_ ?_ ?_ ?_]
  ·subst hIn;rwa[4036,none,none,none,none,none,[],[],1,λc o U e=>by rw[ak (al e a4)];rwa[k1 _ _ _ U e],by rw[ak bb.symm];rwa[ae],ae,.nil,λk p e=>by simp at e,(Nat.zero_mul n).symm]
  ·intro i σ H' _ O;let#[4032,x4,x5,x6,x7,x8,ws,ts,1,kp,_]:=O
   rwa[SqL.of (kp _ _ (nx ha) ha)]
  ·intro i v σ H2 p1 hv O di;let#[4036,x4,x5,x6,x7,x8,ws,ts,1,kp,hIx,htm,pt,tok,lt]:=O
   let#[62,row,er,l,vs,1,hl,pv]:=aD pu hv
   have a9:=okr row (GY er);have lv:vs.length=row.length:=Paired.length pv;have iL:i<n:=by
    have:=(y_.mp er).1;lia
   have s1:=Ga.new (o:=.tup [.int i,.ref l]) di;erw[232122,p1,0,SqT.of ae,1,_,0,2,?_];erw[52,0,l,1,#[_,SqL.of (s1 _ _ (kp _ _ (nx hl) hl))],qX (xs:=vs) (λj σ H'=>∃(x6 x7 x8:Option V) (ws:List V) (ts:List bc),σ=[some (.ref x),some (.ref g),some (.ref a),some (.ref tm),some (.int i),some (.ref l),x6,x7,x8,none,none,none]/\(∀c o,c≠x->H c=some o->H' c=some o)/\H' x=some IN/\H' tm=some (.lst ws)/\Paired (vH H') ws ts/\TsOk P n ts/\ts.length=i*n+j) ?_ ?_ ?_ ?_]
   ·rwa[_,_,_,ws,ts,1,λc o U e=>s1 _ _ (kp c o U e),s1 _ _ hIx,s1 _ _ htm,aq (λ_ _ ⟨b,k,e,h1,h2⟩=>#[b,k,e,s1 _ _ h1,s1 _ _ h2]) pt,tok,lt]
   ·intro j σ H' _ O;let#[4012,x6,x7,x8,ws,ts,1,kp,_]:=O
    rwa[SqL.of (kp _ _ (nx hl) hl)]
   ·intro j v σ H3 p2 d6 O dk;let#[4016,x6,x7,x8,ws,ts,1,kp,hIx,htm,pt,tok,lt]:=O
    let#[y,ey,ay]:=aD pv d6;have dl:=a9.2 y (GY ey);have jL:j<n:=by
     have:=(y_.mp ey).1;lia
    have s2:=Ga.new (o:=.tup [.int j,v]) dk;have cx:At P (upd H3 p2 (.tup [.int j,v])) v y:=ay.mono λt xs e=>s2 _ _ (kp _ _ (bD e hx #[3]) e)
    have c2:=s2 _ _ (kp _ _ gx hg);erw[232122,p2,0,SqT.of ae,1,_,0,2,?_];erw[733283,0,g,dg,0,c2,1,g,xn,L,1,#[dg,c2],0,xn,P,v,y,1,hN.mono λo e=>s2 _ _ (kp _ _ xnx e),cx,λt H4 s4 ht=>?_]
    have b2:=s2.trans s4;erw[1252,0,.inl #[1,_,SqL.of (b2 _ _ htm)],0,0,by show 2<=sizeLine;decide,λkt b9=>?_]
    have s5:=Ga.new (o:=.tup [.int i,.int j]) b9;erw[8485,0,t,_,2,SqT.of (s5 _ _ ht),1,0,t,_,2,SqT.of (s5 _ _ ht),1,by show 3<=sizeLine;decide,λtt a1=>?_]
    have s6:=Ga.new (o:=.tup [.ref kt,.int y.1,.int y.2]) a1;have b3:=(b2.trans s5).trans s6;have lw:ws.length=ts.length:=Paired.length pt;have e0:i*n+j<16:=by
     have h1:i*n<=3*n:=LP n ()
     lia
    erw[34,tm,ws,0,1,b3 _ _ htm,by rw[lw,lt,Hc];lia,?_]
    have fx:Fix H3 (upd (upd (upd H4 kt (.tup [.int i,.int j])) tt (.tup [.ref kt,.int y.1,.int y.2])) tm (.lst (ws++[.ref tt]))):=λc o no e=>by
     rw[ak (bD e htm (no _))];rwa[b3 _ _ e]
    have dy:tt≠tm:=λz=>by rw[z,(b2.trans s5) _ _ htm] at a1;cases a1
    have d7:kt≠tm:=λz=>by rw[z,b2 _ _ htm] at b9;cases b9
    have d8:kt≠tt:=λz=>by rw[<- z,ae] at a1;cases a1
    erw[_,_,_,ws++[.ref tt],ts++[([((ts.length/n:Nat):Int),((ts.length%n:Nat):Int)],y)],1,λc o U e=>?_,?_,ae,aV #[tt,kt,1,by rw[ak dy,ae],?_] (aq (λ_ _ ⟨b,k,e,h1,h2⟩=>#[b,k,e,fx.tup h1,fx.tup h2]) pt),tok.snoc dl,by rw[x_,lt];rfl]
    ·rw[ak (al e a4)];rwa[b3 _ _ (kp c o U e)]
    ·rw[ak bb.symm];rwa[b3 _ _ hIx]
    ·rw[ak d7,ak d8,ae,lt];have d1:(i*n+j)/n=i:=by rw[Pf,Nat.mul_add_div (),Nat.div_eq_of_lt jL,Nat.add_zero]
     have d2:(i*n+j)%n=j:=by rw[Pf,Nat.mul_add_mod,Nat.mod_eq_of_lt jL]
     rw[d1,d2]
     rfl
   ·intro σ H3 O;let#[4016,x6,x7,x8,ws,ts,1,kp,hIx,htm,pt,tok,lt]:=O
    erw[4036,_,_,_,_,_,ws,ts,1,kp,hIx,htm,pt,tok,?_];rw[lt,lv,a9.1,Nat.add_mul,Q9]
  ·intro σ H2 O;let#[4036,x4,x5,x6,x7,x8,ws,ts,1,kp,hIx,htm,pt,tok,lt]:=O
   have da:ts.length=n*n:=by rw[lt,lu,lr]
   have cb:n<=4:=()
   have e3:n*n<=16:=Hb (OW cb cb) #[]
   let#[12,B,B0,B1,hB]:=iS (ts.map (·.2)) λy hy=>by
    let#[p,hp,1]:=MO.mp hy;let#[k,hk]:=P8 hp;let#[_,o,z]:=tok k p hk;rwa[gY o,z]
   rw[z_,da] at B1;have bd:B<=2^480:=Hb B1 (Hr #[] ())
   have MB:2^30*B<=2^510:=by
    rw[show(2:Nat)^510=2^30*2^480 from(NG 2 30 480)]
    rwa[Pn _ bd]
   erw[99,0,tm,ws,ts,B,2^30,1,htm,pt,(),λp hp=>hB _ (List.mem_map_of_mem hp),B0,OX,Lk MB (HF #[] #[]),tok.nodup,λr d o b m H3 s3 b7 c0 b0 bB b1 mk mv=>?_]
   subst hIn;have b8:=s3 _ _ hIx;erw[8485,0,r,_,2,SqT.of b7,1,0,x,CT,dx,0,b8,cl,n3,by show(2:Nat)<1000;decide,?_]
   have rx:r≠x:=bD b7 b8 #[3]
   have bp:d≠x:=bD c0 b8 #[3]
   generalize hIn:(HO.ins CT dx (gj "bottom" _ _))=IN;have c7:∀c o,c≠x->H c=some o->upd H3 x IN c=some o:=λc o U e=>by rw[ak U];rwa[s3 _ _ (kp c o U e)]
   have c3:=c7 _ _ gx hg;erw[733213,0,g,dg,0,c3,1,g,xn,L,1,#[dg,c3],L,1,(),(),zb (rest:=[]) rfl () λacc as H5 b5 s5 bv la db a7=>?_]
   have c4:=s5 _ _ (ae (H:=H3) (a:=x) (o:=IN));subst hIn;erw[85,0,x,CT,dx,0,c4,cl,n4,by show(3:Nat)<1000;decide,?_]
   have lm:m.length=n*n:=by
    have:=LD List.length mk;rw[z_,z_] at this;lia
   have c9:∀k p,m[k]? = some p->p.1=[((k/n:Nat):Int),((k%n:Nat):Int)]:=λk p e=>by
    have e1:(m.map (·.1))[k]? = some p.1:=by rw[Hx,e];rfl
    rw[mk,Hx] at e1;cases e2:ts[k]? with
    |none=>rw[e2] at e1;cases e1
    |some z=>
     rw[e2] at e1;have e1:z.1=p.1:=by injection e1
     rw[<- e1];exact(tok k z e2).1
   have cz:P≠0->b=1:=λh0=>b1 λp hp=>by
    let#[k,hk]:=P8 hp;exact(aF (tok k p hk).2.1).2 h0
   have bl:b<=2^480:=Hb (Nd B0 bB) bd;have ax:∀a∈as,a≠x:=λa h z=>by
    have:=(a7 a h).1;rw[z,c4] at this;cases this
   have bi:acc≠x:=λz=>by rw[z,ae] at b5;cases b5
   generalize hIn:(HO.ins CT dx (gj "becomes" _ _))=IN;have a8:∀c o,c≠x->H5 c=some o->upd H5 x IN c=some o:=λc o U e=>by rw[ak U];rwa[e]
   have d5:=a8 _ _ rx (s5 _ _ (by rw[ak rx];rwa[b7]))
   have a3:=a8 _ _ bp (s5 _ _ (by rw[ak bp];rwa[c0]))
   erw[8433,0,r,_,2,SqT.of d5,1,d,o,0,1,a3,λvw cn=>#[43,vw,d,o,0,ae,Ga.new cn _ _ a3,λks pk=>?_]]
   have s7:=Ga.new (o:=cV vw d) cn;generalize hH6:upd (upd H5 x IN) vw (cV vw d)=H6 at *;have a6:∀a∈as,H6 a=some (.lst []):=λa h=>s7 _ _ (a8 _ _ (ax a h) (a7 a h).1)
   have b4:=s7 _ _ (a8 _ _ bi bv);have c5:H6 x=some IN:=s7 _ _ ae;have c8:∀c o,c≠x->H c=some o->H6 c=some o:=λc o U e=>s7 _ _ (a8 _ _ U (s5 _ _ (c7 c o U e)))
   have bo:∀c o,H c=some o->c∉as:=λc o e z=>by
    by_cases U:c=x
    ·rwa[ax c z U]
    ·have:=(a7 c z).2.1;rw[ak U,s3 _ _ (kp c o U e)] at this;cases this
   have d9:ks.length=m.length:=by
    have:=Paired.length pk;unfold DT at this;rw[z_] at this;rwa[this.symm]
   have ln:((ks.map V.ref).zip ((DT m).map (·.2))).length=n*n:=by
    unfold DT;rw[length_zip,z_,z_,z_,d9,lm,Nat.min_self]
   have a2:∀c o,H6 c=some o->(∀xs,o≠.lst xs)->c∉as:=λc o e no z=>by
    rw[a6 c z] at e;injection e with e
    rwa[no _ e.symm]
   erw[qC (n:=n*n) (λi σ H'=>∃(ac ad:Option V),σ=[some (.ref x),some (.ref g),some (.ref a),some (.ref tm),x4,x5,x6,x7,x8,some (.ref r),ac,ad]/\(∀c o,c∉as->H6 c=some o->H' c=some o)/\∀j c,as[j]? = some c->∃us,H' c=some (.lst us)/\us.length<=n/\us.length<=i-j*n/\∀u∈us,∃(b:Addr) (t s:Int),u=.ref b/\b∉as/\H' b=some (.tup [.int t,.int s])/\t.natAbs<=2^510) ?_ ?_ ?_ ?_ ?_]
   ·rwa[22,_,0,λc o _ e=>e,λj c e=>#[[],a6 c (GY e),Hj _,Hj _,λu hu=>nomatch hu]]
   ·intro i σ H' hi O;let#[22,ac,ad,1,k,_]:=O
    rwa[k _ _ (a2 _ _ (s7 _ _ a3) (λ_ z=>by cases z)) (s7 _ _ a3),by rw[ln];rwa[hi]]
   ·intro σ H' O;let#[22,ac,ad,1,k,_]:=O
    rwa[k _ _ (a2 _ _ (s7 _ _ a3) (λ_ z=>by cases z)) (s7 _ _ a3),by rw[ln];rwa[e_ _]]
   ·rintro i σ H7 v H' hi ⟨ac,ad,rfl,k,hj⟩ ⟨p,ka,yv,rfl,np,rfl,e⟩ N hN;obtain⟨z,ez⟩:∃z,m[i]? = some z:=#[_,ge ()]
    have bt:(DT m)[i]? = some (kI z.1,V.int z.2):=by unfold DT;rw[Hx,ez];rfl
    let#[kd,d0,b6]:=aD pk bt;let#[e1,e2]:=List.getElem?_zip_eq_some.mp e;rw[Hx,d0] at e1;rw[Hx,bt] at e2;cases e1;cases e2;rw[mD,c9 i z ez] at b6;have n0:0<n:=()
    have j0:i/n<n:=Nat.div_lt_of_lt_mul hi;have i0:i%n<n:=Nat.mod_lt _ n0;obtain⟨c,ec⟩:∃c,as[i/n]? = some c:=#[_,ge (by rw[la];rwa[j0])]
    have U:=GY ec
    let#[13,us',h1,h2,h3,h4]:=hj (i/n) c ec
    have xs:x∉as:=λz=>ax x z rfl
    have a5:acc∉as:=λz=>(a7 acc z).2.2 rfl
    have s8:=Ga.new (o:=.tup [.ref kd,.int z.2]) np;have c6:=s8 _ _ (k _ _ (a2 _ _ b6 (λ_ z=>by cases z)) b6)
    have dz:=s8 _ _ (k _ _ xs c5);have bg:=s8 _ _ (k _ _ a5 b4);have g8:=s8 _ _ (k _ _ (bo _ _ hg) (c8 _ _ gx hg));subst hIn;erw[232122,p,0,SqT.of ae,1,_,0,2,?_];erw[9584455133328423,0,x,CT,dx,_,0,dz,cl,n4,1,0,kd,_,2,SqT.of c6,1,acc,_,_,.ref c,1,1,SqL.of bg,bN (by rw[Hx,ec];rfl),.inl #[1,_,SqL.of (s8 _ _ h1)],0,0,g,dg,0,g8,1,g,xn,L,1,#[dg,g8],0,kd,_,2,SqT.of c6,1,L,0,(),L4,λt H8 s9 ht=>?_]
    erw[24,t,0,ht,by rw[z_,OA];lia,λe he=>?_,λnn=>#[by show 2<=sizeLine;decide,λtt a1=>?_]]
    ·let#[q',_,1]:=MO.mp he
     split<;>lia
    have dv:=Ga.new (o:=.tup [.int z.2,.int nn]) a1;have a':=(s8.trans s9).trans dv;erw[34,c,us',0,1,a' _ _ h1,by rw[Hc];lia,?_]
    have cp:tt∉as:=λw=>by
     let#[j,ej]:=P8 w;let#[cu,g1,_]:=hj j tt ej;rw[(s8.trans s9) _ _ g1] at a1;cases a1
    have keep:∀c' o',c'∉as->H7 c'=some o'->upd (upd H8 tt (.tup [.int z.2,.int nn])) c (.lst (us'++[.ref tt])) c'=some o':=λc' o' ap e=>by
     rw[ak (λw=>ap (by rw[w];rwa[U]))]
     rwa[a' _ _ e]
    erw[hN _ _ #[22,_,0,λc' o' ap e=>keep c' o' ap (k c' o' ap e),λj c' ej=>?_]]
    by_cases bz:c'=c
    ·subst bz;have d4:j=i/n:=(List.getElem?_inj (y_.mp ej).1 db).mp (ej.trans ec.symm);subst d4;have dm:=Nat.div_add_mod i n;have e5:n*(i/n)=i/n*n:=Pf _ _;erw[us'++[.ref tt],ae,by rw[x_];show us'.length+1<=n;lia,by rw[x_];show us'.length+1<=_;lia,λu hu=>?_]
     rcases Ht.mp hu with w|w
     ·let#[33,b',t',s',e,nb,h5,h6]:=h4 u w
      rwa[33,b',t',s',e,nb,keep _ _ nb h5,h6]
     ·rw[D_.mp w];erw[33,tt,z.2,nn,1,cp,?_,Hb (mv z (GY ez)) MB];rw[ak (λw=>cp (by rw[w];rwa[U])),ae]
    ·let#[13,cu,g1,g2,g3,g4]:=hj j c' ej
     erw[cu,?_,g2,(),λu hu=>?_]
     ·rw[ak bz];rwa[a' _ _ g1]
     ·let#[33,b',t',s',e,nb,h5,h6]:=g4 u hu
      rwa[33,b',t',s',e,nb,keep _ _ nb h5,h6]
   ·intro σ H' O;let#[22,ac,ad,1,k,hj]:=O
    have xs:x∉as:=λz=>ax x z rfl
    have a5:acc∉as:=λz=>(a7 acc z).2.2 rfl
    erw[q b H' (λc o U e=>k c o (bo c o e) (c8 c o U e)) #[#[33,dx,acc,as.map V.ref,?_,k _ _ a5 b4,by rw[z_,la];lia,λv hv=>?_],b0,cz,bl]]
    ·rw[k _ _ xs c5,<- hIn]
     rfl
    ·let#[c,U,1]:=MO.mp hv;let#[j,ej]:=P8 U
     let#[13,us',h1,h2,h3,h4]:=hj j c ej
     erw[23,c,us',1,h1,(),λu hu=>?_]
     let#[33,b',t,s',e,_,h5,h6]:=h4 u hu
     rwa[32,b',t,s',e,h5,h6]
end
theorem FX:(["product"]:List Str).Nodup:=#[5]
theorem FQ:(["top", "shift", "found"]:List Str).Nodup:=#[5]
theorem EZ:(["product", "top", "often"]:List Str).Nodup:=#[5]
def pJ(CG CT:Addr)(n:Nat):Sp:=λvs H Q _=>∃(x g xn d:Addr) (P L j:Int) (b:Nat) (es:List Int) (t:Int) (o:Obj),vs=[.ref x,.int j,.ref d]/\dJ CG H g xn L/\TurnAt CT H x g P L b/\0<=P/\P<10000/\L<=4/\0<=j/\j+n=L/\H d=some (.frz o (.dT (DT [(es,t)])))/\es.length=n/\(∀e∈es,0<=e)/\es.sum<=2/\t.natAbs<=1/\
 ∀v m H',Ga H H'->VecAt H' v m->m.length<=4^es.sum.toNat->(∀p∈m,p.2.natAbs<=(2^516)^(es.sum.toNat+n))->Q v H'
def yJ(CG CT:Addr):Nat->Sp
 |0=>λ_ _ _ _=>False
 |n+1=>pJ CG CT n
theorem p516{k:Nat}(h:k<=6):(2^516)^k<2^4300:=by
 rw[<- Nat.pow_mul];rwa[HF #[] ()]
theorem at0(e:Int)(es:List Int):atI ((e::es).map V.int) 0=some (.int e):=(show atI _ ((0:Nat):Int)=_ from bN rfl)
theorem rY{m:List (Int×Int)}(h:∀s∈ss,s.2.2=m):tot ss=ss.length*m.length:=by
 unfold tot
 induction ss with
 |nil=>simp
 |cons a r ih=>
  rw[NF,sum_cons,ih λs O=>h s (I_ _ O),h a LN,Mn,Nat.add_mul,Q9,Nat.add_comm]
theorem cut1(e:Int)(es:List Int):i8 ((e::es).map V.int) (some 1) none=es.map V.int:=by
 unfold i8 HT.sIx;simp;rwa[NI (by simp)]
theorem Cb(e:Int)(es:List Int):¬(HT.sIx ((e::es).map V.int).length 0 (some 1)=0/\HT.sIx ((e::es).map V.int).length ((e::es).map V.int).length none=((e::es).map V.int).length):=by
 unfold HT.sIx;simp
theorem tR:∀{es:List Int},(∀e∈es,0<=e)->0<=es.sum
 |[],_=>by simp
 |e::r,h=>by
  have h1:=h e LN;have h2:=tR λe O=>h e (I_ _ O)
  rw[sum_cons];lia
section
variable [Quiet base]
theorem GC:Gb ["self", "letter", "tops", "found", "often", "shares", "behind"] ["self", "letter", "tops"] (aj dC):=.i
set_option maxHeartbeats 2000000 in
theorem Bh{k:Nat}(hk:5<=k)(F:Fun K "put" "Turning.put" dC f fd)(T:Blt mg)(ndict:mg "dict" = none)(cl:Cls K CT)(n1:Gj K CT "own_ring")(n2:Gj K CT "modulus")(n4:Gj K CT "becomes")(Iy:`MtB 1 CG "letters" (iM CG))(Jv:`FnB 5 "mixed" zg)(JT:`MtB k CT "put" (yJ CG CT n)):
  Gd P w K mg base CX0 (k+1) f fd ["self", "letter", "tops"] (pJ CG CT n):=by
 erw[F.o GC λ_ _ _ _ H _ Q _ hr h=>?_]
 ·let#[40403904,x,g,xn,d,P,L,j,b,es,t,o,1,hg,ht,P0,P1,L4,j0,jn,hd,les,ees,sum2,t1,q]:=h
  erw[_,(af (aL (aw bf (pv 1) (bR Iy (hr.mono ()) (dc (pv 0) rfl)) (au _))
(ai (ar (aN #[6,(mY (BP (Ap ah (jt (hu1 hr) (pv 2) (aN ag) (λ_ _=>rfl)) Bs) rfl rfl (by simp) #[])),ah])))
aB)
(af (am (i:=3) GC.nd rfl (Or.inr rfl) (aN #[6,(mY lF),ah]))
(af (be Hu rfl (wx rfl T.range #[6,(Be T #[9,aR (N:=["product"]) (src:=[none]) rfl rfl rfl #[9,wX K rfl (pv 2)] (λ_ _ _=>by rwa[by exact(bL (i:=0) FX rfl rfl),aO,by exact(aC (aA K rfl) (pv 0) ah (λ_ _=>rfl))])] false),(rQ iE ah),(rQ iE ah)]) (aM (i:=4) GC.nd rfl (Or.inr rfl))
(af (dD (i:=5) GC.nd rfl #[4] (N:=["top", "shift", "found"]) (src:=[none,none,some 3]) rfl rfl rfl #[9,aG K rfl (aC (aH K rfl) (dc (pv 0) rfl) (pv 1) (λ_ _=>rfl))] (λ_ _ _=>by rwa[by exact(bx K (i:=0) (j:=1) rfl rfl FQ rfl rfl rfl rfl),aO,by exact(aN #[6,0,ah,1,2])]))
(af #[5,6,GC,(vO (oM ndict (hu2 hr) #[9,aR (N:=["product", "top", "often"]) (src:=[none,none,some 4]) rfl rfl rfl #[9,qG K rfl (pv 2)] (λ_ _ _=>by rwa[by exact(bx K (i:=0) (j:=1) rfl rfl EZ rfl rfl rfl rfl),(eR (aw bf (aC (aA K rfl) (pv 0) ah (λ_ _=>rfl)) (pv 2) (au _))),by exact(aN #[6,(ji (BJ K rfl) (pv 0) (kY ah) bG),1])])]))]
(af (aL (aw (Bj hr.units) (pv 6) (mY lF) (au _))
(ai (cA (bmA K rfl (pv 5) #[6,(aN #[6,ah,ah,ah,(jk JT (hr.mono ()) (pv 0) #[6,(ao aQ (pv 1) ah),6])])])))
aB)
(ai (am (i:=3) GC.nd rfl (Or.inr rfl) (az Jv (hr.mono ()) #[6,(dc (pv 0) rfl),5])))))))
(ai (ar (pv 3)))))),?_]
  let#[dg,hg]:=hg;let#[#[dx,lb,bs,hx,c3,d1,c0],b0,b1,bl]:=id ht;erw[1195333311,0,0,x,CT,dx,_,0,hx,cl,n1,1,g,dg,0,hg,1,g,xn,L,1,#[dg,hg],1,0,?_];cases es with
  |nil=>
   obtain rfl:n=0:=by rw[<- les];rfl
   rw[q_ (show V.int j=V.int L by rw[show j=L by lia])]
   erw[aU ?_];intro dd ax;erw[0,Hj _,λq1 a7=>#[22,d,.int t,1,?_,?_]]
   ·rwa[.inr #[33,_,[],q1,.inr #[o,Ga.new a7 _ _ (Ga.new ax _ _ hd)],1,ae,1]]
   ·have qd:dd≠q1:=λz=>by rw[<- z,ae] at a7;cases a7
    erw[011222,by rw[ak qd,ae],[(.inl 0,.int t)],1,by show 1<=15;decide,dd,0,ae,λo2=>#[by show 2<=sizeLine;decide,λr nr=>?_]]
    rw[cf] at nr ⊢;have rd:dd≠r:=λz=>by rw[<- z,ae] at nr;cases nr
    erw[q _ [(0,t)] _ (λc o' e=>?_) #[32,r,dd,o2,1,ae,by rw[ak rd];rwa[ae]] (e_ _) λp hp=>?_]
    ·erw[Ga.new nr _ _ ?_];rw[ak (al e ax)];rwa[Ga.new a7 _ _ (Ga.new ax _ _ e)]
    ·rw[D_.mp hp];rwa[Hb t1 (OX (n:=0))]
  |cons e es=>
   obtain⟨n,rfl⟩:∃m,n=m+1:=#[es.length,by rw[<- les];rfl]
   have jL:j≠L:=()
   rw[GN (show ¬V.int j=V.int L from λz=>jL (by injection z))]
   erw[bO ?_];have e0:=ees e LN;have a9:∀e∈es,0<=e:=λe he=>ees e (I_ _ he)
   have s0:=tR a9;rw[sum_cons] at sum2 q;have b6:es.length=n:=by rw[Mn] at les;lia
   intro d0 b8;erw[22,d0,[],1,ae,λo0=>#[by show 2<=sizeLine;decide,λr0 a3=>?_]]
   rw[cf] at a3 ⊢;have b':d0≠r0:=λz=>by rw[<- z,ae] at a3;cases a3
   have sA:Ga H (upd (upd H d0 (.frz o0 (.dK []))) r0 (.tup [.ref d0,.int 1])):=(Ga.new b8).trans (Ga.new a3);have v0:VecAt (upd (upd H d0 (.frz o0 (.dK []))) r0 (.tup [.ref d0,.int 1])) (.ref r0) []:=#[32,r0,d0,o0,1,ae,by rw[ak b'];rwa[ae]]
   generalize upd (upd H d0 (.frz o0 (.dK []))) r0 (.tup [.ref d0,.int 1])=HA at sA v0 ⊢;clear a3 b' b8;erw[72,0,d,o,0,sA _ _ hd,λas a8=>?_]
   obtain⟨ka,rfl,c1⟩:∃ka,as=[ka]/\HA ka=some (.tup ((e::es).map V.int)):=by
    cases a8 with
    |cons h r=>
     cases r;rwa[0,by rw[h,mD]]
   erw[cm (n:=1) (σ0:=[none]) rfl (λσ=>∃u,σ=[u]) (λ_ v (z:Int)=>v=.int z) (λ_ _ _ _ _ h=>h) (λi xs=>xs=[e].take i) #[] #[0] rfl (λi H1 hi O=>#[O _ _ (sA _ _ hd),hi]) (λH1 O=>#[O _ _ (sA _ _ hd),e_ _]) ?_ ?_]
   ·rintro i σ H1 v H' xs Y N hi ⟨u,rfl⟩ O rfl ⟨rfl,hv⟩ hY hN;obtain rfl:i=0:=()
    cases hv;unfold bP;erw[ul ?_];rwa[84,0,ka,_,_,.int e,1,1,SqT.of (O _ _ c1),at0 _ _,hY _ _ e _ #[0] (Ga.refl _) rfl rfl]
   ·rintro acc us xs H1 cu O bz pr _ rfl;obtain rfl:us=[.int e]:=by
     cases pr with
     |cons h r=>
      cases r;rw[h]
    erw[23,acc,[e],1,fI (SqL.of bz),by simp,λZ hm _=>?_]
    obtain rfl:=D_.mp hm;erw[5122,(1),1,(1),1,Z,-1,1,#[(),(),(),()],?_]
    have sB:=sA.trans O;erw[qC (n:=(Z - -1).toNat) (λi σ H'=>∃(fv:V) (m:List (Int×Int)) (x4 x5 x6:Option V),σ=[some (.ref x),some (.int j),some (.ref d),some fv,x4,x5,x6]/\Ga H1 H'/\VecAt H' fv m/\(i=0->m=[])/\(0<i->m.length<=4^(es.sum.toNat+(i-1))/\∀p∈m,p.2.natAbs<=(2^516)^(es.sum.toNat+n+i))) ?_ ?_ ?_ ?_ ?_]
    ·rwa[4014,_,[],_,_,0,Ga.refl _,v0.fix (λc o' _ e=>O c o' e),λ_=>rfl,λz=>absurd z (ME _)]
    ·rintro i σ H' hi _;rwa[hi]
    ·rintro σ H' _;rwa[e_ _]
    ·rintro i σ H2 v H' hi ⟨fv,m,x4,x5,x6,rfl,s2,va,b4,c4⟩ ⟨rfl,rfl⟩ N hN;have sC:=sB.trans s2;have cz:=ht.same sC;obtain⟨bv,b2⟩:∃bv,bs[j.toNat]? = some bv:=#[_,ge ()]
     let#[23,l,us,1,hl,l4,hus]:=(c0 bv (GY b2)).same sC
     have ej:atI bs j=some (.ref l):=by rw[show j=((j.toNat:Nat):Int) by lia];rwa[bN b2]
     erw[958412,0,x,CT,dx,_,0,sC _ _ hx,cl,n4,1,0,lb,bs,_,.ref l,1,1,SqL.of (sC _ _ c3),ej,l,1,#[_,SqL.of hl],?_];erw[cm (n:=us.length) (σ0:=[none,none,some fv]) rfl (λσ=>∃u1 u2,σ=[u1,u2,some fv]) ShareR (λ_ _ _ _ fx h=>h.fix fx) (λi ss=>ss.length=i/\∀s∈ss,s.1.natAbs<=2^510/\s.2.2=m) () #[20,_,0] #[1,λs hs=>nomatch hs] (λi H1 hi O=>#[21,us,_,SqL.of (O _ _ hl),ge hi]) (λH1 O=>#[us,SqL.of (O _ _ hl),e_ _]) ?_ ?_]
     ·rintro i σ H3 v H' ss Y N hi ⟨u1,u2,rfl⟩ O ⟨ls,a1⟩ ⟨rfl,hv⟩ hY hN;have hv:=hv us (SqL.of (O _ _ hl))
      let#[32,a,tp,sh,1,ha,htp]:=hus v (GY hv)
      erw[232122,a,0,SqT.of (O _ _ ha),1,_,0,2,ul ?_];erw[5112,0,0,0,by show 4<=sizeLine;decide,λp np=>?_]
      erw[hY _ _ (tp,sh,m) _ #[20,_,0] (Ga.new np) #[22,p,fv,1,ae,va.fix λc o' _ e=>Ga.new np _ _ (O c o' e)] #[by rw[x_,ls];rfl,λs hs=>?_]]
      rcases Ht.mp hs with z|z
      ·rwa[a1 s z]
      ·rw[D_.mp z];rwa[htp,1]
     ·rintro sh vs ss H3 c' s3 c5 cb _ ⟨av,a1⟩;have sD:=sC.trans s3;erw[73,0,d,o,0,1,sD _ _ hd,λvw a4=>#[43,vw,d,o,0,ae,Ga.new a4 _ _ (sD _ _ hd),λas a8=>?_]]
      have sE:=sD.trans (Ga.new (o:=cV vw d) a4);have a':=Ga.new (o:=cV vw d) a4 _ _ c5;have ad:Paired (ShareR (upd H3 vw (cV vw d))) vs ss:=aq (λ_ _ z=>z.fix λc o' _ e=>Ga.new a4 c o' e) cb
      have bg:=s3.trans (Ga.new (o:=cV vw d) a4);generalize upd H3 vw (cV vw d)=H4 at a8 sE a' ad bg ⊢;obtain⟨kb,rfl,c2⟩:∃ka,as=[ka]/\H4 ka=some (.tup ((Z::es).map V.int)):=by
       cases a8 with
       |cons h r=>
        cases r;rwa[0,by rw[h,mD]]
      erw[cm (n:=1) (σ0:=[none,none,some (.int (Z-i))]) rfl (λσ=>∃u1 u2,σ=[u1,u2,some (.int (Z-i))]) AM (λH H' v x fx ⟨a,k,e,h1,h2⟩=>#[a,k,e,fx.tup h1,fx.tup h2]) (λc xs=>xs=(if i=0 then[(es,t)] else[]).take c) #[] #[_,0] rfl (λi H1 hi O=>#[O _ _ (sE _ _ hd),hi]) (λH1 O=>#[O _ _ (sE _ _ hd),e_ _]) ?_ ?_]
      ·rintro c σ H5 v H' xs Y N hc ⟨u1,u2,rfl⟩ O rfl ⟨p,k',y',rfl,np,rfl,ek⟩ hY hN;obtain rfl:c=0:=()
       cases ek;have b5:=Ga.new (o:=.tup [.ref kb,.int t]) np _ _ (O _ _ c2);erw[232122,p,0,SqT.of ae,1,_,0,2,?_];erw[841211,0,kb,_,_,.int Z,1,1,SqT.of b5,at0 _ _,0,1,0,?_]
       by_cases h0:i=0
       ·rw[q_ (show V.int Z=V.int (Z-i) by rw[h0];simp)]
        rw[C_ h0] at hY;erw[aU #[5123,0,(1),1,kb,0,SqT.of b5,Cb Z es,λp2 c9=>#[0,by show 2<=sizeLine;decide,λp3 ay=>?_]]]
        rw[cut1] at ay ⊢;rwa[hY _ _ (es,t) _ #[20,_,0] (((Ga.new np).trans (Ga.new c9)).trans (Ga.new ay)) #[22,p3,p2,1,ae,Ga.new ay _ _ ae] rfl]
       ·rw[GN (show ¬V.int Z=V.int (Z-i) from λz=>h0 (by injection z;lia))]
        erw[bO (hN _ _ #[20,_,0] (Ga.new np) ?_)];rw[w_ h0]
        rfl
      ·rintro bl d4 xs H5 c7 s5 b3 pb _ rfl;let#[bi,1,ac]:=lS pb;erw[33,bl,bi,0,b3,ac,λbd b7=>#[22,bd,0,ae,λob=>?_]]
       have e1:je [] (DT ((if i=0 then[(es,t)] else[]).take 1))=DT (if i=0 then[(es,t)] else[]):=by
        by_cases h0:i=0
        ·rw[C_ h0]
         rfl
        ·rw[w_ h0]
         rfl
       rw[e1,cf];have sF:Ga H4 (upd H5 bd (.frz ob (.dT (DT (if i=0 then[(es,t)] else[]))))):=s5.trans (Ga.new b7)
       have a6:upd H5 bd (.frz ob (.dT (DT (if i=0 then[(es,t)] else[])))) bd=some (.frz ob (.dT (DT (if i=0 then[(es,t)] else[])))):=ae
       generalize upd H5 bd (.frz ob (.dT (DT (if i=0 then[(es,t)] else[]))))=H6 at sF a6 ⊢
       clear b7 ac b3 s5 c7 e1;have bb:=bg.trans sF;have sG:=sE.trans sF;have U:=sF _ _ a';have a5:Paired (ShareR H6) vs ss:=aq (λ_ _ z=>z.fix λc o' _ e=>sF c o' e) ad
       have lv:vs.length=ss.length:=Paired.length a5;have im:i<=Z.toNat:=()
       have cx:(4:Nat)^(es.sum.toNat+i)<=16:=Hb (Hr #[] (show es.sum.toNat+i<=2 by lia)) #[]
       dsimp only;erw[vQ (t:=wT _ _ _) (λσ' HH=>∃(vs:List V) (ss:List Shr),σ'=[some (.ref x),some (.int j),some (.ref d),some fv,some (.int (Z-i)),some (.ref sh),some (.ref bd)]/\Ga H' HH/\HH sh=some (.lst vs)/\Paired (ShareR HH) vs ss/\ss.length<=8/\tot ss<=4^(es.sum.toNat+i)/\∀s∈ss,s.1.natAbs<=2^510/\∀p∈s.2.2,p.2.natAbs<=(2^516)^(es.sum.toNat+n+i)) (λR hR=>?_) ?_]
       ·erw[0,λd2 c8=>#[22,d2,[],1,ae,λo2=>?_]]
        rw[cf];have sI:=Ga.new (o:=.frz o2 (.dK [])) c8;erw[3411,bd,d2,0,1,.inr #[ob,sI _ _ a6],.inr #[o2,ae],0,?_]
        by_cases h0:i=0
        ·rw[C_ h0] at a6 ⊢;erw[aU ?_];have sJ:=sG.trans sI;subst h0;have tz:tot ss=0:=by rw[rY λs hs=>(a1 s hs).2,b4 rfl];rfl
         erw[12736290402904,0,.inl #[1,_,SqL.of (sI _ _ U)],0,x,dx,0,sJ _ _ hx,1,0,2,0,x,g,xn,bd,P,L,j+1,b,es,t,ob,1,#[dg,sJ _ _ hg],ht.same sJ,P0,P1,L4,(),(),sI _ _ a6,b6,a9,(),t1,λv m1 H7 s7 cn c6 bo=>#[by show 4<=sizeLine;decide,λp np=>?_]]
         have a2:=Ga.new (o:=.tup [.int 1,.int 1,.int 0,v]) np _ _ (s7 _ _ (sI _ _ U));erw[34,sh,vs,0,1,a2,by rw[lv,av,Hc];lia,?_]
         have fx:Fix H6 (upd (upd H7 p (.tup [.int 1,.int 1,.int 0,v])) sh (.lst (vs++[.ref p]))):=λc o' no e=>by
          rw[ak (bD e U (no _))];rwa[Ga.new np _ _ (s7 _ _ (sI _ _ e))]
         have bt:Fix H7 (upd (upd H7 p (.tup [.int 1,.int 1,.int 0,v])) sh (.lst (vs++[.ref p]))):=λc o' no e=>by
          rw[ak (bD e (s7 _ _ (sI _ _ U)) (no _))];rwa[Ga.new np _ _ e]
         have b9:p≠sh:=λz=>by rw[z,s7 _ _ (sI _ _ U)] at np;cases np
         erw[hR _ _ #[26,vs++[.ref p],ss++[(1,0,m1)],1,λc o' e=>?_,ae,aV #[22,p,v,1,by rw[ak b9,ae],cn.fix bt] (aq (λ_ _ z=>z.fix fx) a5),by rw[x_,av];show us.length+1<=8;lia,?_,λs hs=>?_]]
         ·rw[ak (al e c')];rwa[Ga.new np _ _ (s7 _ _ (sI _ _ (bb _ _ e)))]
         ·have e2:tot (ss++[(1,0,m1)])=tot ss+m1.length:=by
           unfold tot;rw[L8,sum_append];simp
          rw[e2,tz,Nat.zero_add,Nat.add_zero];rwa[c6]
         ·rcases Ht.mp hs with z|z
          ·erw[(a1 s z).1,λp hp=>?_]
           rw[(a1 s z).2,b4 rfl] at hp;cases hp
          ·rw[D_.mp z];rwa[OX,λp hp=>by rw[Nat.add_zero];rwa[bo p hp]]
        ·rw[w_ h0];let#[g1,g2]:=c4 ()
         erw[bO (hR _ _ #[26,vs,ss,1,bb.trans sI,sI _ _ U,aq (λ_ _ z=>z.fix λc o' _ e=>sI c o' e) a5,(),?_,λs hs=>#[(a1 s hs).1,λp hp=>?_]])]
         ·rw[rY λs hs=>(a1 s hs).2,av]
          have e3:(4:Nat)^(es.sum.toNat+i)=4*4^(es.sum.toNat+(i-1)):=by rw[show es.sum.toNat+i=(es.sum.toNat+(i-1))+1 by lia,Pe,Pf]
          rw[e3];rwa[OW l4 g1]
         ·rw[(a1 s hs).2] at hp;rwa[g2 p hp]
       ·intro σ' H7 ap;let#[26,vs',ss',1,s7,a2,psh7,l8,lt7,bs7]:=ap
        have sK:=sC.trans s7;have w1:1<=(2^516)^(es.sum.toNat+n+i):=Nat.pow_pos (Nat.pow_pos #[])
        erw[95901903,0,x,CT,dx,_,0,sK _ _ hx,cl,n2,1,0,P,sh,vs',ss',2^510,(2^516)^(es.sum.toNat+n+i),1,P0,P1,a2,psh7,l8,(),bs7,#[5],w1,HF #[] #[],p516 (),λv m' H8 s8 cp d3 bp=>?_]
        erw[hN _ _ #[4014,v,m',_,_,0,s2.trans (s7.trans s8),cp,λz=>absurd z (Nat.succ_ne_zero _),λ_=>#[by rw[Nat.add_sub_cancel];lia,λp hp=>?_]]]
        erw[Hb (bp p hp) (PU ?_)];rw[show es.sum.toNat+n+(i+1)=(es.sum.toNat+n+i)+1 by lia,Pe (2^516),<- Qa,show 64*2^510=2^516 from #[5],Pf]
    ·intro σ H2 ap;let#[4014,fv,m,x4,x5,x6,1,s2,va,_,hm]:=ap
     have hi:(Z - -1).toNat=Z.toNat+1:=()
     rw[hi] at hm;let#[m1,m2]:=hm (Nat.succ_pos _);have e1:(Z+es.sum).toNat=es.sum.toNat+Z.toNat:=()
     erw[0,q fv m _ (sB.trans s2) va ?_ λp hp=>?_]
     ·rw[e1];rwa[m1]
     ·rw[e1];have:=m2 p hp;rw[show es.sum.toNat+Z.toNat+(n+1)=es.sum.toNat+n+(Z.toNat+1) by lia]
      rwa[this]
end
def gS(CN:Addr):Sp:=λvs H Q E=>∃(x:V) (a b:Int),vs=[x,.int a,.int b]/\(b=0->E (.ref CN) none H)/\(b≠0->b.natAbs<2^8800/\∀t,H t=none->Q (.ref t) (upd H t (.tup [.int (nrm a b).1,.int (nrm a b).2])))
section
variable [Quiet base]
theorem GW:Gb ["self", "top", "bottom", "common"] ["self", "top", "bottom"] (aj aK):=.i
theorem vm(F:FunD K "of" "Fractions.of" aK f fd)(HS:`FnB 1 "greatest_divisor" pA)(ANoNumber:mg "NoNumber"=some (.ref HR))(xc:XCl K HR):
  Gd P w K mg base (CXE P w base.life) 2 f fd ["self", "top", "bottom"] (gS HR):=by
 erw[F.okX GW (λvs H Q E h=>?_) (λcdv A outer s H vs Q E hr h=>?_)]
 ·let#[31,x,a,b,1,_]:=h
  rfl
 ·let#[32,x,a,b,1,hz,hq]:=h
  erw[_,(af (aL (aw bf (pv 2) ah (au _))
(ai (fy xc.ek ANoNumber #[6,iH]))
aB)
(af (aL (aw bf (pv 2) ah (au _))
(ai (ar (aN #[6,1,ah])))
aB)
(af #[5,3,GW,(az HS hr.m #[6,1,2])]
(af (aL (aw gJ (pv 2) ah (au _))
(ai #[5,3,GW,(rQ iE (pv 3))])
aB)
(ai (ar (aN #[6,(ao bj (pv 1) (pv 3)),(ao bj (pv 2) (pv 3))]))))))),?_]
  erw[0,1,0,?_]
  by_cases hb:b=0
  ·subst hb;rw[q_ rfl];rwa[aU #[(by show 1<=sizeLine;decide),hz rfl]]
  let#[a1,q]:=hq hb;rw[GN (show ¬V.int b=V.int 0 from λz=>hb (by injection z))]
  erw[bO #[0,1,0,bC (λh=>?_) (λh=>?_)]]
  ·have h1:b=1:=by
    have:=E_ h;injection this
   subst h1;erw[0,(by show 2<=sizeLine;decide),λt Z=>?_]
   have z:=q t Z;rw[(fm a 1 #[]).mpr (Int.gcd_one_right ..)] at z
   rwa[z]
  ·erw[5121,0,0,a,b,1,?_];have a3:0<Int.gcd a b:=Int.gcd_pos_of_ne_zero_right a hb;have a2:Int.gcd a b<=b.natAbs:=Nd () (Nat.gcd_dvd_right a.natAbs b.natAbs)
   have sm:(Int.gcd a b)<2^8800:=Lk a2 a1;erw[6211,0,2,0,bC (λh=>?_) (λh=>?_)]
   ·have U:b<0:=E_ h;erw[51,0,0,?_];have O:CDivA a (-(Int.gcd a b:Int)):=#[(),by rw[Int.natAbs_neg,HM];rwa[sm]]
    erw[51235124,0,0,2,O,0,0,2,O,(by show 2<=sizeLine;decide),λt Z=>?_]
    have z:=q t Z;unfold nrm at z;rw[C_ U] at z;rwa[z]
   ·have U:¬b<0:=λz=>h (q_ z)
    have O:CDivA a (Int.gcd a b:Int):=#[(),by rw[HM];rwa[sm]]
    erw[51235124,0,0,2,O,0,0,2,O,(by show 2<=sizeLine;decide),λt Z=>?_]
    have z:=q t Z;unfold nrm at z;rw[w_ U] at z;rwa[z]
end
def zG(CF:Addr)(g:Int×Int->Int×Int->Int×Int):Sp:=λvs H Q _=>∃(x dx s t:Addr) (a b:Int×Int),vs=[.ref x,.ref s,.ref t]/\H x=some (.ins CF dx [])/\H s=some (.tup [.int a.1,.int a.2])/\H t=some (.tup [.int b.1,.int b.2])/\0<a.2/\0<b.2/\Sz 4300 a/\Sz 4300 b/\
 ∀r,H r=none->Q (.ref r) (upd H r (.tup [.int (nrm (g a b).1 (g a b).2).1,.int (nrm (g a b).1 (g a b).2).2]))
def vL(CR:Addr)(g:Int->Int->Int):Sp:=λvs H Q _=>∃(x dx:Addr) (p a b:Int),vs=[.ref x,.int a,.int b]/\H x=some (.ins CR dx [("modulus",.int p)])/\0<p/\p<=9973/\0<=a/\a<p/\0<=b/\b<p/\Q (.int (g a b%p)) H
section
variable [Quiet base]
theorem jH:Gb ["self", "one", "other"] ["self", "one", "other"] (aj cW):=.i
theorem AH(F:Fun K "plus" "Fractions.plus" cW f fd)(KG:`nk 2 CF "of" [] (gS HR)):`Gd CX0 3 f fd ["self", "one", "other"] (zG CF λa b=>(a.1*b.2+b.1*a.2,a.2*b.2)):=by
 erw[F.o jH λ_ _ _ _ H _ Q _ O h=>?_]
 ·let#[4028,x,dx,s,t,a,b,1,hx,hs,ht,ha,hb,sa,sb,q]:=h
  erw[_,(ai (ar (lL KG O.m iO (pv 0) #[6,(ao aQ (ao br (aC (aA K rfl) (pv 1) ah (λ_ _=>rfl)) (aC (aA K rfl) (pv 2) ah (λ_ _=>rfl))) (ao br (aC (aA K rfl) (pv 2) ah (λ_ _=>rfl)) (aC (aA K rfl) (pv 1) ah (λ_ _=>rfl)))),(ao br (aC (aA K rfl) (pv 1) ah (λ_ _=>rfl)) (aC (aA K rfl) (pv 2) ah (λ_ _=>rfl)))]))),?_]
  erw[7384842384842322,0,x,dx,[],1,hx,1,0,s,_,2,SqT.of hs,1,0,t,_,2,SqT.of ht,1,2,kK sa.1 sb.2,0,t,_,2,SqT.of ht,1,0,s,_,2,SqT.of hs,1,2,kK sb.1 sa.2,2,?_];erw[84842332,0,s,_,2,SqT.of hs,1,0,t,_,2,SqT.of ht,1,2,kK sa.2 sb.2,_,_,0,λz=>absurd z (i3 ha hb),λ_=>#[uc sa.2 sb.2,q]]
theorem ny:Gb ["self", "one", "other"] ["self", "one", "other"] (aj gc):=.i
theorem yA{CR:Addr}(F:Fun K "plus" "Rests.plus" gc f fd)(cl:Cls K CR)(nM:Gj K CR "modulus"):`Gd CX0 1 f fd ["self", "one", "other"] (vL CR (· + ·)):=by
 erw[F.o ny λ_ _ _ _ H _ Q _ O h=>?_]
 ·let#[4018,x,dx,p,a,b,1,hx,hp,hp9,a0,a1,b0,b1,q]:=h
  erw[_,(ai (ar (ao aZ (ao aQ (pv 1) (pv 2)) (dc (pv 0) rfl)))),?_];rwa[51229523,0,0,2,0,x,CR,dx,_,0,hx,cl,nM,1,2,hp,q]
end
theorem mh{b p:Int}(h:p ∣ a-b):a%p=b%p:=Int.emod_eq_emod_iff_emod_sub_eq_zero.mpr (Int.emod_eq_zero_of_dvd h)
theorem lE(a p:Int):p ∣ a-a%p:=#[a/p,by rw[Int.emod_def];lia]
def Da:Sp:=λvs H Q _=>∃(w p:Int),vs=[.int w,.int p]/\2<=p/\p<=9973/\iG p=true/\w%p≠0/\∀r:Int,0<=r->r<p->(r*w)%p=1->Q (.int r) H
section
variable [Quiet base]
theorem Gs:Gb ["whole", "prime", "rest", "share", "following", "following_share", "often", "further", "further_share"] ["whole", "prime"] (aj j7):=.i
theorem sY(F:Fun K "inverse" "inverse" j7 f fd):`Gd CX0 1 f fd ["whole", "prime"] Da:=by
 erw[F.o Gs λ_ _ _ _ H _ Q _ hr h=>?_]
 ·let#[25,a,p,1,h2,h9,hp,ha,q]:=h
  erw[_,(af #[5,2,Gs,(pv 1)]
(af #[5,3,Gs,ah]
(af #[5,4,Gs,(ao aZ (pv 0) (pv 1))]
(af #[5,5,Gs,ah]
(af (gK Hu (aw gh (pv 4) ah (au _))
(af #[5,6,Gs,(ao bj (pv 2) (pv 4))]
(af #[5,7,Gs,(ao cS (pv 2) (ao bH (pv 6) (pv 4)))]
(af #[5,8,Gs,(ao cS (pv 3) (ao bH (pv 6) (pv 5)))]
(af #[5,2,Gs,(pv 4)]
(af #[5,3,Gs,(pv 5)]
(af #[5,4,Gs,(pv 7)]
(ai #[5,5,Gs,(pv 8)]))))))))
(ai (ar (ao aZ (pv 5) (pv 1))))))))),?_]
  erw[5163,0,0,0,2,(by show(0:Int)<p;lia),?_]
  have m0:=L5 a (show p≠0 by lia)
  have m1:=LC a (show 0<p by lia)
  erw[gz (λσ H'=>∃(R S F G:Int) (u6 u7 u8:Option V),σ=[some (.int a),some (.int p),some (.int R),some (.int S),some (.int F),some (.int G),u6,u7,u8]/\H'=H/\1<=F/\F<R/\R<=p/\Int.gcd R F=1/\p ∣ S*a-R/\p ∣ G*a-F)
   (λσ _=>match σ with|[_,_,_,_,some (.int F),_,_,_,_]=>F.toNat|_=>0) #[4037,p,(0),a%p,(1),none,none,none,1,1,(),m1,Int.le_refl p,yb h2 h9 hp () m1,#[-1,()],by rw[Int.one_mul];rwa[lE a p]] ?_ ?_]
  ·intro σ H2 O;let#[4037,R,S,F,G,u6,u7,u8,1,1,f1,fR,Rp,hg,d1,d2]:=O
   erw[0,1,0,?_]
   by_cases hF:F=1
   ·subst hF;erw[vt rfl ?_];erw[5123,0,0,2,(by show(0:Int)<p;lia),?_]
    erw[q _ (L5 _ ()) (LC _ ()) ?_]
    have U:(G%p*a)%p=1%p:=by
     apply mh;let#[k1,U]:=d2;let#[k2,e2]:=lE G p;erw[k1-k2*a,?_];have Z:G%p=G-p*k2:=()
     rw[Z,Int.sub_mul,Int.mul_sub,Nv];lia
    rw[U];rwa[Op #[] ()]
   ·rw[GN (show ¬V.int F=V.int 1 from λz=>hF (by injection z))]
    have eq:R.fdiv F=R/F:=Int.fdiv_eq_ediv_of_nonneg _ ()
    have q0:0<=R/F:=Int.ediv_nonneg () ()
    have q1:R/F<=R:=Int.ediv_le_self F ()
    erw[aU #[5123,0,0,2,ja () (),?_]]
    erw[516322,0,0,0,2,.inr #[(),()],2,?_]
    erw[516322,0,0,0,2,.inl #[(),()],2,?_]
    rw[eq];have eF:R-R/F*F=R%F:=by rw[Int.emod_def,Qx]
    have r0:=L5 R (show F≠0 by lia)
    have r1:=LC R (show 0<F by lia)
    have rn:R%F≠0:=λz=>by
     have hd:F ∣ R:=Int.dvd_of_emod_eq_zero z;have:Nat.gcd R.natAbs F.natAbs=F.natAbs:=Nat.gcd_eq_right (Int.natAbs_dvd_natAbs.mpr hd);have a1:Nat.gcd R.natAbs F.natAbs=1:=hg;lia
    erw[5152,0,0,0,0,#[4037,F,G,R-R/F*F,S-R/F*G,_,2,(),(),(),?_,d2,?_],?_]
    ·rw[eF,Int.emod_def,Int.gcd_comm];rw[Int.gcd_sub_mul_left_left];rwa[hg]
    ·let#[k1,U]:=d1;let#[k2,e2]:=d2;erw[k1-R/F*k2,?_];have Z:(S-R/F*G)*a-(R-R/F*F)=(S*a-R)-R/F*(G*a-F):=by
      rw[Int.sub_mul,Int.mul_sub,Nv];lia
     rw[Z,U,e2,Int.mul_sub,Int.mul_left_comm]
    ·show(R-R/F*F).toNat<F.toNat;lia
  ·intro σ H Q Q' hq O;let#[1211,x,hx,U,b,hb,h]:=O
   rwa[x,hx,U,b,hb,hq _ _ h]
end
def iR(CR CN:Addr):Sp:=λvs H Q E=>∃(x dx:Addr) (p a b:Int),vs=[.ref x,.int a,.int b]/\H x=some (.ins CR dx [("modulus",.int p)])/\2<=p/\p<=9973/\iG p=true/\
 (b%p=0->E (.ref CN) none H)/\(b%p≠0->∀r:Int,0<=r->r<p->(r*b)%p=a%p->Q (.int r) H)
section
variable [Quiet base]
theorem qP:Gb ["self", "top", "bottom"] ["self", "top", "bottom"] (aj bA):=.i
theorem vD{CR:Addr}(F:FunD K "of" "Rests.of" bA f fd)(cl:Cls K CR)(nM:Gj K CR "modulus")(JF:`FnB 1 "inverse" Da)(ANoNumber:mg "NoNumber"=some (.ref HR))(xc:XCl K HR):
  Gd P w K mg base (CXE P w base.life) 2 f fd ["self", "top", "bottom"] (iR CR HR):=by
 erw[F.okX qP (λvs H Q E h=>?_) (λcdv A outer s H vs Q E hr h=>?_)]
 ·let#[4011,x,dx,p,a,b,1,_]:=h
  rfl
 ·let#[4016,x,dx,p,a,b,1,hx,h2,h9,hp,qn,qy]:=h
  erw[_,(af (aL (aw bf (ao aZ (pv 2) (dc (pv 0) rfl)) ah (au _))
(ai (fy xc.ek ANoNumber #[6,iH]))
aB)
(ai (ar (ao aZ (ao bH (pv 1) (az JF hr.m #[6,2,(dc (pv 0) rfl)])) (dc (pv 0) rfl))))),?_]
  have Z:(0:Int)<p:=()
  erw[11952411,0,0,x,CR,dx,_,0,hx,cl,nM,1,2,Z,1,0,?_]
  by_cases O:b%p=0
  ·rw[q_ (LD V.int O)];rwa[aU #[(by show 1<=sizeLine;decide),qn O]]
  ·rw[GN (show ¬V.int (b%p)=V.int 0 from λz=>O (by injection z))]
   erw[bO #[519525,0,0,0,x,CR,dx,_,0,hx,cl,nM,1,b,p,1,h2,h9,hp,O,λr r0 r1 U=>?_]]
   erw[239523,2,.inr #[(),()],0,x,CR,dx,_,0,hx,cl,nM,1,2,Z,?_]
   erw[qy O _ (L5 _ ()) (LC _ Z) ?_]
   apply mh;let#[k1,e1]:=lE (a*r) p;let#[k2,e2]:=lE (r*b) p;rw[U] at e2;erw[a*k2-k1*b,?_];have e3:a*r%p=a*r-p*k1:=()
   have e4:r*b=1+p*k2:=()
   rw[e3,Int.sub_mul,Nv,e4,Int.mul_add,Int.mul_sub,O9,Int.mul_left_comm,Nv];lia
end
theorem FT{CR x:Addr}{P:Int}{u:V}{a b:Int×Int}{t:TA}{m:Str}(gF:Int×Int->Int×Int->Int×Int)(gR:Int->Int->Int)(res:Int×Int)(hres:res=if P=0 then nrm (gF a b).1 (gF a b).2 else(gR a.1 b.1%P,1))(hm:(m==("modulus" : Str))=false)(hP:Gc P)(hN:Gp CF CR H x P)(h1:At P H u a)(h2:At P H v b)(o1:OkN P a)(o2:OkN P b)(s1:Sz 4300 a)(s2:Sz 4300 b)(ha:∀Z:VK,Z (.ref x) H->ta σ H Z)(ht:∀Z:List V->Hp->Prop,Z [u,v] H->t σ H Z)(hR:∀r H',Ga H H'->At P H' r res->R r H'):
  wQ (dW CF m (zG CF gF) [] E0 ta t) (dW CR m (vL CR gR) [] E0 ta t) σ H R:=by
 subst hres
 rcases hN with⟨h0,dx,e⟩|⟨h0,dx,e⟩
 ·rcases h1 with⟨_,s,rfl,hs⟩|⟨z,_⟩
  ·rcases h2 with⟨_,t',rfl,ht'⟩|⟨z,_⟩
   ·rw[C_ h0] at hR;rwa[.inl (ha _ #[33,x,dx,[],1,e,1,ht _ #[4028,x,dx,s,t',a,b,1,e,hs,ht',o1.den,o2.den,s1,s2,λr U=>hR _ _ (Ga.new U) (.inl #[h0,r,1,ae])]])]
   ·rwa[absurd h0 z]
  ·rwa[absurd h0 z]
 ·rcases h1 with⟨z,_⟩|⟨_,rfl,_⟩
  ·rwa[absurd z h0]
  ·rcases h2 with⟨z,_⟩|⟨_,rfl,_⟩
   ·rwa[absurd z h0]
   ·rw[w_ h0] at hR;have O:=hP.b
    rcases o1 with⟨z,_⟩|⟨_,x0,x1,_⟩
    ·rwa[absurd z h0]
    rcases o2 with⟨z,_⟩|⟨_,y0,y1,_⟩
    ·rwa[absurd z h0]
    rwa[.inr (ha _ #[33,x,dx,0,e,mE hm _,ht _ #[4018,x,dx,P,_,0,e,(),O.2.1,x0,x1,y0,y1,hR _ _ (Ga.refl H) (.inr #[h0,1,1])]])]
theorem CU{CR x:Addr}{P:Int}{vs:List V}{t:TA}(hP:Gc P)(hN:Gp CF CR H x P)(hv:vs++dvs=[.int a,.int 1])(ha:∀Z:VK,Z (.ref x) H->ta σ H Z)(ht:∀Z:List V->Hp->Prop,Z vs H->t σ H Z)(hR:∀r H',Ga H H'->At P H' r (if P=0 then(a,1) else(a%P,1))->R r H'):
  wQ (dW CF "of" (gS HR) dvs E0 ta t) (dW CR "of" (iR CR HR) dvs E0 ta t) σ H R:=by
 rcases hN with⟨h0,dx,e⟩|⟨h0,dx,e⟩
 ·rw[C_ h0] at hR;erw[.inl (ha _ #[33,x,dx,[],1,e,1,ht _ #[32,.ref x,a,(1),by rw[hv],λz=>absurd z #[],λ_=>#[#[5],λr nr=>?_]]])]
  rw[(fm a 1 #[]).mpr (Int.gcd_one_right ..)]
  rwa[hR _ _ (Ga.new nr) (.inl #[h0,r,1,ae])]
 ·rw[w_ h0] at hR
  rcases hP with z|⟨h2,h9,hp⟩
  ·rwa[absurd z h0]
  have U:(1:Int)%P=1:=Op #[] ()
  erw[.inr (ha _ #[33,x,dx,0,e,mE #[5] _,ht _ #[4016,x,dx,P,a,(1),by rw[hv],e,h2,h9,hp,(λz=>absurd (U.symm.trans z) #[]),λ_ r r0 r1 O=>?_]])]
  rw[O9,Op r0 r1] at O;rw[O];rwa[hR _ _ (Ga.refl H) (.inr #[h0,1,1])]
def zw(K:Frag):Sp:=λvs H Q _=>∃(a:Addr) (ns:List Int),vs=[.ref a]/\SqT K H a (ns.map V.int)/\Q (.int ns.sum) H
section
variable [Quiet base]
theorem wR:Gb ["one"] ["one"] (aj lH):=.i
theorem xj(F:Fun K "degree" "degree" lH f fd)(T:Blt mg):`Gd CX0 1 f fd ["one"] (zw K):=by
 erw[F.o wR λ_ _ _ _ H _ Q _ O h=>?_]
 ·let#[22,a,ns,1,ha,q]:=h
  erw[_,(ai (ar (BK K T (pv 0) true))),?_];rwa[62,0,a,ns,1,sqvT ha,q]
end
def qN(K:Frag):Sp:=λvs H Q _=>∃(a:Addr) (ns:List Int),vs=[.ref a]/\SqT K H a (ns.map V.int)/\∀t,H t=none->Q (.ref t) (upd H t (.tup [.int ns.sum,.ref a]))
section
variable [Quiet base]
theorem wt:Gb ["one"] ["one"] (aj mP):=.i
theorem wP(F:Fun K "height" "height" mP f fd)(IM:`FnB 1 "degree" (zw K)):`Gd CX0 2 f fd ["one"] (qN K):=by
 erw[F.o wt λ_ _ _ _ H _ Q _ O h=>?_]
 ·let#[22,a,ns,1,ha,q]:=h
  erw[_,(ai (ar (aN #[6,(az IM O.m #[6,0]),0]))),?_];rwa[6212,0,a,ns,1,ha,0,by show 2<=sizeLine;decide,q]
end
theorem FI:(["product", "found", "nought"]:List Str).Nodup:=#[5]
def C7(CF CR CG:Addr):Sp:=λvs H Q _=>∃(g x l:Addr) (P L:Int) (ts:List V) (ps:List bc),vs=[.ref g,.ref l]/\Gc P/\dJ CG H g x L/\Gp CF CR H x P/\H l=some (.lst ts)/\Gx P H ts ps/\ps.length<=60/\CK P ps/\
 ∀(d:Addr) (rs:List V) (out:List bc) (H':Hp),H d=none->Ga H H'->H' d=some (.lst rs)->Gx P H' rs out->Dc P ps out->Q (.ref d) H'
section
variable [Quiet base]
theorem GV:Gb ["ring", "parts", "numbers", "found", "product", "number", "nought", "falling"] ["ring", "parts"] (aj lM):=.i
theorem AQ{CR:Addr}(F:Fun K "sum_of" "sum_of" lM f fd)(T:Blt mg)(J8:`FnB 2 "height" (qN K))(Ix:`MtB 1 CG "numbers" (jS CG))(KW:`MtB 3 CF "plus" (zG CF λa b=>(a.1*b.2+b.1*a.2,a.2*b.2)))(KY:`MtB 3 CR "plus" (vL CR (· + ·)))(KH:`nk 2 CF "of" [.int 1] (gS HR))(KJ:`nk 2 CR "of" [.int 1] (iR CR HR)):
  Gd P w K mg base CX0 5 f fd ["ring", "parts"] (C7 CF CR CG):=by
 erw[F.o GV λ_ _ _ _ H _ Q _ hr h=>?_]
 ·let#[4038,g,x,l,P,L,ts,ps,1,hP,hg,hN,hl,hps,hn,hok,q]:=h
  have hB:=hP.b;erw[_,(af #[5,2,GV,(bR Ix hr.m (pv 0))]
(af (am (i:=3) GV.nd rfl (Or.inr rfl) yH)
(af (be Hu rfl (aG K rfl (pv 1)) (bx K (i:=4) (j:=5) rfl rfl GV.nd rfl rfl rfl rfl)
(ai (wa (hu1 hr) (pv 3) (pv 4) (mM (DX (D5 (hu1 hr) (pv 4) (pv 3))) (iP (jk KW hr.m (pv 2) #[6,(jt (hu1 hr) (pv 3) (pv 4) (λ_ _=>rfl)),5]) (jk KY hr.m (pv 2) #[6,(jt (hu1 hr) (pv 3) (pv 4) (λ_ _=>rfl)),5])) (pv 5)) rfl)))
(af (am (i:=6) GV.nd rfl (Or.inr rfl) (iP (lL KH hr.m iO (pv 2) #[6,ah]) (lL KJ hr.m iO (pv 2) #[6,ah])))
(af #[5,7,GV,(yQ T J8 hr.m (pv 3))]
(ai (ar #[9,aR (N:=["product", "found", "nought"]) (src:=[none,some 3,some 6]) rfl rfl rfl #[9,aG K rfl (pv 7)] (λ_ _ _=>by rwa[by exact(bL (i:=0) FI rfl rfl),(eR (aw (zK K rfl hr.units) (jt (hu1 hr) (pv 1) (pv 0) (λ_ _=>rfl)) (pv 2) (au _))),by exact(aN #[6,0,(jt (hu1 hr) (pv 1) (pv 0) (λ_ _=>rfl))])])]))))))),?_]
  have lt:ts.length=ps.length:=Paired.length hps;let#[ax,ay]:=id hg;erw[7332,0,g,ax,0,ay,1,g,x,L,1,hg,?_];intro d hd;have dl:d≠l:=λz=>by rw[z,hl] at hd;cases hd
  erw[52,0,l,1,#[_,SqL.of (by rw[ak dl.symm];rwa[hl])],rF (xs:=ts) (λi σ H'=>∃(x4 x5:Option V) (kvs:List (List Key×V)),σ=[some (.ref g),some (.ref l),some (.ref x),some (.ref d),x4,x5,none,none]/\Ga H H'/\H' d=some (.dT kvs)/\Gw (At P H') kvs (acc P (ps.take i))) ?_ ?_ ?_ ?_]
  ·rwa[33,none,none,[],1,Ga.new hd,ae,.nil]
  ·intro i σ H' _ U;let#[32,x3,x4,kvs,1,sm,_]:=U
   rwa[SqL.of (sm _ _ hl)]
  ·intro i v σ H1 hx U;let#[33,x3,x4,kvs,1,sm,hd1,dr]:=U
   let#[73,p,ep,t,k,u,1,ht,hk,hu]:=hps.at_ hx
   erw[232122,t,0,SqT.of (sm _ _ ht),1,_,0,2,?_];have a5:H1 k=some (.tup ((kI p.1).map kV)):=by rw[mD];rwa[sm _ _ hk]
   have mp:p∈ps:=GY ep;let#[op,zp]:=hok.1 p mp;have a6:∀q∈acc P (ps.take i),OkN P q.2:=zX hB.1 hB.2.2 λq hq=>(hok.1 q (mem_of_mem_take hq)).1
   have a':kvs.length<sizeLine:=by
    have h1:kvs.length=(acc P (ps.take i)).length:=Paired.length dr;have h2:=uT P (ps.take i);rw[MY] at h2;rw[h1,Hc];lia
   have fin:∀r3 H3,Ga H1 H3->At P H3 r3 (bT P ((eX (acc P (ps.take i)) p.1).getD (0,1)) p.2)->∃(x4 x5:Option V) (kvs':List (List Key×V)),[some (V.ref g),some (.ref l),some (.ref x),some (.ref d),some (.ref k),some u,none,none]=[some (.ref g),some (.ref l),some (.ref x),some (.ref d),x4,x5,none,none]/\Ga H (upd H3 d (.dT (cj kvs (kI p.1) r3)))/\(upd H3 d (.dT (cj kvs (kI p.1) r3))) d=some (.dT kvs')/\Gw (At P (upd H3 d (.dT (cj kvs (kI p.1) r3)))) kvs' (acc P (ps.take (i+1))):=λr3 H3 s3 a3=>by
    have d3:H3 d=some (.dT kvs):=s3 _ _ hd1;have keep:∀c o,H3 c=some o->c≠d->upd H3 d (.dT (cj kvs (kI p.1) r3)) c=some o:=λc o e hc=>by rw[ak hc];rwa[e]
    have ap:∀t xs,H3 t=some (.tup xs)->upd H3 d (.dT (cj kvs (kI p.1) r3)) t=some (.tup xs):=λt xs e=>keep t _ e (bD e d3 #[3])
    erw[33,_,_,0,λc o e=>keep c o (s3 _ _ (sm c o e)) (al e hd),ae,?_]
    rw[qZ ep];rwa[Gw.put (a3.mono ap) (dr.mono λv x z=>(z.same s3).mono ap)]
   have put:∀r3 H3,Ga H1 H3->DPut H3 d (.ref k) r3 (upd H3 d (.dT (cj kvs (kI p.1) r3))):=λr3 H3 s3=>DPut.t (k:=kI p.1) (s3 _ _ hd1) (s3 _ _ a5) a'
   erw[512211,0,0,d,0,DGet.t hd1 a5,0,?_]
   rcases dr.val p.1 with⟨e1,e2⟩|⟨v,y,e1,e2,ra⟩
   ·rw[e1];rw[e2] at fin;erw[bO #[5162,0,0,0,d,0,put _ H1 (Ga.refl _),fin _ H1 (Ga.refl _) ?_]];show At P H1 u (bT P (0,1) p.2);rw[iB op];rwa[hu.same sm]
   ·rw[e1];rw[e2] at fin;erw[aU (FT _ _ (bT P y p.2) (by unfold bT;rfl) #[5] hP (hN.mono λo e=>sm _ _ e) ra (hu.same sm) (a6 _ (gO e2)) op (hok.2 i _ (gO e2)) zp (λZ z=>#[0,z]) (λZ z=>#[512211,0,0,d,v,1,(by rw[<- e1];rwa[DGet.t hd1 a5]),0,z]) λr3 H3 s3 a3=>?_)]
    rwa[5122,0,0,d,0,put _ H3 s3,fin _ H3 s3 a3]
  ·intro σ H1 U;let#[33,x3,x4,kvs,1,sm,hd1,dr]:=U
   rw[lt,MZ] at dr;have nd:=wS P ps;have lm:=uT P ps;have a6:∀q∈acc P ps,OkN P q.2:=zX hB.1 hB.2.2 λq hq=>(hok.1 q hq).1
   unfold Dc at q;generalize acc P ps=m at *;erw[CU (a:=0) hP (hN.mono λo e=>sm _ _ e) rfl (λZ z=>#[0,z]) (λZ z=>z) λr H2 s2 A2=>?_]
   rw[Bq] at A2;have a9:=s2 _ _ hd1;have a7:Gw (At P H2) kvs m:=dr.mono λv x z=>z.same s2
   have ad:=sm.trans s2;erw[0,.inr #[22,d,kvs,1,a9,λas pk=>?_]]
   have tp:=vK (a7.tups pk);have la:(as.map V.ref).length=m.length:=Paired.length tp;generalize as.map V.ref=vs at *;erw[(),xV H2,by rw[jQ tp];rwa[yW nd],λy hy H3 s3=>?_,λD H3 zs nD s3 hD pm pw=>?_]
   ·let#[51,p,hp,a,1,ha]:=qM tp hy
    erw[22,a,p.1,1,SqT.of (s3 _ _ ha),λt nt=>#[0122,Ga.new nt,t,a,1,?_,?_]]
    ·rw[ae];unfold xV;rw[pP ha]
    ·unfold xV;rw[pP ha];rwa[SqT.of (Ga.new nt _ _ (s3 _ _ ha))]
   ·let#[qs,pe,pq]:=qF pm m tp;have lq:zs.length=qs.length:=Paired.length pq;have lz:qs.length=m.length:=pe.length_eq;have a8:qs.Pairwise λa b=>klt (hk b) (hk a)=true:=by
     have z:(zs.map (xV H2)).Pairwise (λa b=>klt b a=true):=List.pairwise_map.mpr pw
     rw[jQ pq] at z;rwa[List.pairwise_map.mp z]
    erw[52,0,D,1,#[_,SqL.of hD],cc (n:=zs.length) (σ0:=[none,some (.ref d),some r]) rfl (λacc i ws σ H'=>∃u:Option V,σ=[u,some (.ref d),some r]/\Ga H3 H'/\Gx P H' ws ((qs.take i).filter nz)) (by rw[Hc];lia) (λacc O=>#[none,1,Ga.new O,.nil]) ?_ ?_ ?_ ?_]
    ·intro acc i ws σ H' O hi hz U;let#[12,u,1,a1,_]:=U
     rwa[21,zs,_,SqL.of (a1 _ _ hD),ge hi]
    ·intro acc ws σ H' O hz U;let#[12,u,1,a1,_]:=U
     rwa[zs,SqL.of (a1 _ _ hD),e_ _]
    ·rintro acc i ws σ H9 x' H' O hi hz b2 ⟨u,rfl,a1,pr⟩ ⟨rfl,hx⟩;have hx:=hx zs (SqL.of (a1 _ _ hD));obtain⟨p,ep⟩:∃p,qs[i]? = some p:=#[_,ge ()]
     let#[a,1,ha]:=(oV (R:=rc H2) pq hx ep);have mp:p∈m:=pe.mem_iff.mp (GY ep);have a2:=s3.trans a1;obtain⟨v,e1,av⟩:∃v,dZ kvs (kI p.1)=some v/\At P H2 v p.2:=by
      rcases a7.val p.1 with⟨_,e2⟩|⟨v,y,e1,e2,ra⟩
      ·rw[pS nd (show(p.1,p.2)∈m from mp)] at e2;cases e2
      ·rw[pS nd (show(p.1,p.2)∈m from mp)] at e2
       cases e2;rwa[v,e1,ra]
     have dg:DGet H' d (.ref a) (some v):=.inr #[33,kvs,kI p.1,a,.inl (a2 _ _ a9),1,by rw[mD];rwa[a2 _ _ ha],e1.symm]
     erw[512264,0,0,d,v,1,dg,0,dN P p.2,dN P (0,1),vE (av.same a2),vE (A2.same a2),ia _ _,ia _ _,?_];rw[vB (a6 p mp) (dG hB.1 hB.2.2)];have en:(!decide (p.2=(0,1)))=nz p:=by unfold nz;rw[decide_not]
     rw[en];erw[0,bC (λh=>?_) (λh=>?_)]
     ·erw[5163,0,0,0,d,v,1,dg,by show 2<=sizeLine;decide,λt nt=>?_]
      have s4:=Ga.new (o:=.tup [.ref a,v]) nt;have ac:=s4 _ _ hz;have a4:∀c u,(upd H' t (.tup [.ref a,v])) c=some u->c≠acc->upd (upd H' t (.tup [.ref a,v])) acc (.lst (ws++[.ref t])) c=some u:=λc u e hc=>by rw[ak hc];rwa[e]
      have b3:∀c xs,(upd H' t (.tup [.ref a,v])) c=some (.tup xs)->upd (upd H' t (.tup [.ref a,v])) acc (.lst (ws++[.ref t])) c=some (.tup xs):=λc xs e=>a4 c _ e (bD e ac #[3])
      erw[ws,ac,by rw[Hc];lia,_,ae,by rw[x_,He];lia,0,λc u e=>a4 c u (s4 _ _ (a1 c u e)) (al e O),?_]
      rw[kB ep,C_ h];exact(Gx.snoc (p:=p) #[33,t,a,v,1,ae,s4 _ _ (a2 _ _ ha),(av.same a2).same s4] (pr.mono λt xs e=>s4 _ _ e)).mono b3
     ·erw[ws,hz,(),0,a1,?_]
      rw[kB ep,w_ h,Pg];rwa[pr]
    ·intro acc ws σ H' O hz b2 U;let#[12,u,1,a1,pr]:=U
     rw[lq,MZ] at pr;erw[q acc ws _ H' ?_ ((ad.trans s3).trans a1) hz pr #[pe.filter _,a8.filter _]];exact(ad.trans s3).free O
end
theorem Fc:(["key", "top", "self", "numbers", "bottom"]:List Str).Nodup:=#[5]
theorem EM{CR x:Addr}{P:Int}{b:Nat}{vs:List V}{t:TA}(hP:Gc P)(hN:Gp CF CR H x P)(hv:vs++dvs=[.int a,.int b])(b0:0<b)(b8:b<2^8800)(b1:P≠0->b=1)(ha:∀Z:VK,Z (.ref x) H->ta σ H Z)(ht:∀Z:List V->Hp->Prop,Z vs H->t σ H Z)(hR:∀r H',Ga H H'->At P H' r (if P=0 then nrm a b else(a%P,1))->R r H'):
  wQ (dW CF "of" (gS HR) dvs E0 ta t) (dW CR "of" (iR CR HR) dvs E0 ta t) σ H R:=by
 by_cases h0:P=0
 ·rcases hN with⟨_,dx,e⟩|⟨z,_⟩
  ·rw[C_ h0] at hR;erw[.inl (ha _ #[33,x,dx,[],1,e,1,ht _ #[32,.ref x,a,b,by rw[hv],λz=>absurd z (),λ_=>#[by rw[HM];rwa[b8],λr nr=>?_]]])]
   rwa[hR _ _ (Ga.new nr) (.inl #[h0,r,1,ae])]
  ·rwa[absurd h0 z]
 ·have U:=b1 h0;subst U;erw[CU (a:=a) hP hN hv ha ht λr H' s' O=>hR r H' s' ?_]
  rw[w_ h0] at O ⊢;rwa[O]
theorem Eb{P:Int}{b:Nat}(hP:Gc P)(b0:0<b)(hM:2^14<=M)(ha:a.natAbs<=M):OkN P (if P=0 then nrm a b else(a%P,1))/\Rw b M (if P=0 then nrm a b else(a%P,1)):=by
 have O:=hP.b
 by_cases h0:P=0
 ·rw[C_ h0];subst h0;erw[i9 (),DS (x:=(a,(b:Int))) #[by show(0:Int)<(b:Int);lia,by show(b:Int).natAbs ∣ b;rw[HM];rwa[Nat.dvd_refl _],?_]]
  show a.natAbs<=M*(b:Int).natAbs;rw[HM];rwa[Hb ha (Nat.le_mul_of_pos_right _ b0)]
 ·rw[w_ h0];have h1:=L5 a h0;have h2:=LC a (show 0<P by lia)
  rwa[.inr #[h0,h1,h2,1],zS O.1 h0 O.2.1 hM]
def FH(CF CR CG CT:Addr):Sp:=λvs H Q _=>∃(x g xn pl:Addr) (P L:Int) (b:Nat) (es:List Int) (u:V),vs=[.ref x,.ref pl,.int es.sum]/\Gc P/\dJ CG H g xn L/\Gp CF CR H xn P/\TurnAt CT H x g P L b/\1<=L/\L<=4/\H pl=some (.lst [u])/\PartR P H u (es,(1,1))/\(es.length:Int)=L/\(∀e∈es,0<=e)/\es.sum<=2/\
 ∀(d:Addr) (rs:List V) (ps:List bc) (B:Nat) (H':Hp),Ga H H'->H' d=some (.lst rs)->H d=none->Gx P H' rs ps->ps.length<=16->0<B->B<=2^960->(∀p∈ps,OkN P p.2/\Rw B (2^3200) p.2)->Q (.ref d) H'
section
variable [Quiet base]
theorem Gh:Gb ["self", "parts", "own", "numbers", "terms", "product", "number", "fraction", "vector", "bottom", "step", "turned"] ["self", "parts", "own"] (aj bQ):=.i
set_option maxHeartbeats 1000000 in
theorem Cm{CR:Addr}(F:Fun K "turned_level" "Turning.turned_level" bQ f fd)(T:Blt mg)(cl:Cls K CT)(n1:Gj K CT "own_ring")(n3:Gj K CT "bottom")(Ix:`MtB 1 CG "numbers" (jS CG))(Iy:`MtB 1 CG "letters" (iM CG))(HX:`FnB 2 "top_and_bottom" (Cg CF CR))(Ic:`FnB 3 "over_one_bottom" DL)(JL:`FnB 1 "unpacked" Dg)(JT:∀n,n<=4->`MtB 10 CT "put" (pJ CG CT n))(Li:`nk 2 CF "of" [] (gS HR))(Lj:`nk 2 CR "of" [] (iR CR HR)):
  Gd P w K mg base CX0 11 f fd ["self", "parts", "own"] (FH CF CR CG CT):=by
 erw[F.o Gh λ_ _ _ _ H _ Q _ hr h=>?_]
 ·let#[40401903,x,g,xn,pl,P,L,b,es,u,1,hP,hg,hN,ht,L1,L4,hpl,#[t,k,v,1,htt,hk,hv],les,ees,sum2,q]:=h
  have b2:=JT L.toNat ()
  erw[_,(af (am (i:=3) Gh.nd rfl (Or.inr rfl) (bR Ix hr.m (k8 K rfl #[9,pv 0] rfl)))
(af #[5,4,Gh,(aX ag)]
(af (be Hu rfl (aG K rfl (pv 1)) (bx K (i:=5) (j:=6) rfl rfl Gh.nd rfl rfl rfl rfl)
(af #[5,7,Gh,(az HX hr.m #[6,3,6])]
(ai (cA (bmA K rfl (pv 4) #[6,#[9,aN #[6,5,(aC (aA K rfl) (pv 7) ah (λ_ _=>rfl)),(aC (aA K rfl) (pv 7) ah (λ_ _=>rfl))]]])))))
(af #[5,8,Gh,(az Ic hr.m #[6,4])]
(af (am (i:=9) Gh.nd rfl (Or.inr rfl) (aC (aA K rfl) (pv 8) ah (λ_ _=>rfl)))
(af (be Hu rfl (bU rfl T.range #[6,2]) (aM (i:=10) Gh.nd rfl #[4])
(ai (am (i:=9) Gh.nd rfl (Or.inr rfl) (ao br (pv 9) (k8 K rfl #[9,pv 0] rfl)))))
(af #[5,11,Gh,(jk b2 hr.m (pv 0) #[6,ah,(aC (aA K rfl) (pv 8) ah (λ_ _=>rfl))])]
(ai (ar #[9,aR (N:=["key", "top", "self", "numbers", "bottom"]) (src:=[none,none,some 0,some 3,some 9]) rfl rfl rfl #[9,qk K rfl (aC (aA K rfl) (pv 11) ah (λ_ _=>rfl))] (λ_ _ _=>by rwa[by exact(bx K (i:=0) (j:=1) rfl rfl Fc rfl rfl rfl rfl),aO,by exact(aN #[6,#[9,az JL hr.m #[6,#[9,bR Iy hr.m (k8 K rfl #[9,pv 2] rfl)],0]],#[9,iP (lL Li hr.m iO (pv 3) #[6,1,4]) (lL Lj hr.m iO (pv 3) #[6,1,4])]])])]))))))))),?_]
  let#[dg,hg]:=hg;let#[#[dx,lb,bs,hx,bz,c0,bv],b0,b1,bl]:=id ht;have hB:=hP.b;have s0:=tR ees;erw[953332,0,x,CT,dx,_,0,hx,cl,n1,1,g,dg,0,hg,1,g,xn,L,1,#[dg,hg],?_];erw[Hj _,λtm a'=>?_]
  erw[52,0,pl,1,#[_,SqL.of (Ga.new a' _ _ hpl)],bw (xs:=[.ref t]) (λi σ H'=>∃(x5 x6 x7:Option V) (ws:List V),σ=[some (.ref x),some (.ref pl),some (.int es.sum),some (.ref xn),some (.ref tm),x5,x6,x7,none,none,none,none]/\Ga H H'/\H' tm=some (.lst ws)/\Paired (vH H') ws ([(es,((1:Int),(1:Int)))].take i)) ?_ ?_ ?_ ?_]
  ·rwa[43,none,none,none,[],1,Ga.new a',ae,.nil]
  ·intro i σ H' _ U;let#[42,x5,x6,x7,ws,1,O,_]:=U
   rwa[SqL.of (O _ _ hpl)]
  ·intro i y σ H1 hy U N0 C0 a5;let#[43,x5,x6,x7,ws,1,O,htm,pt]:=U
   obtain rfl:i=0:=by
    have:=(y_.mp hy).1;rw[He] at this;lia
   cases hy;cases pt;erw[232122,t,0,SqT.of (O _ _ htt),1,_,0,2,?_];erw[5143,0,0,xn,P,v,(1,1),1,hN.mono λo e=>O _ _ e,hv.same O,λt2 H2 s2 av=>?_]
   erw[12514485,0,.inl #[1,_,SqL.of (s2 _ _ htm)],0,0,t2,_,2,SqT.of av,1,0,t2,_,2,SqT.of av,1,by show 3<=sizeLine;decide,λtt a1=>?_]
   erw[34,tm,[],0,1,Ga.new a1 _ _ (s2 _ _ htm),#[],?_]
   have tn:tt≠tm:=λz=>by rw[z,s2 _ _ htm] at a1;cases a1
   erw[a5 _ _ #[43,_,_,_,[.ref tt],1,λc o e=>?_,ae,.cons #[22,tt,k,1,by rw[ak tn,ae],?_] .nil]]
   ·rw[ak (al e a')];rwa[Ga.new a1 _ _ (s2 _ _ (O _ _ e))]
   ·have ad:=O _ _ hk;rw[ak (bD ad htm #[3])]
    rwa[Ga.new a1 _ _ (s2 _ _ ad)]
  ·intro σ H1 U;let#[43,x5,x6,x7,ws,1,s1,htm,pt]:=U
   erw[99,0,tm,ws,[(es,(1,1))],(1),(1),1,htm,pt,by show 1<=16;decide,λp hp=>?_,#[],#[],Nat.one_lt_two_pow #[],by simp,λr d o b' m H2 s2 ap b8 bo bB b3 mk mv=>?_]
   ·rw[D_.mp hp];rwa[(#[]:(0:Int)<1),Nat.dvd_refl 1,e_ 1]
   obtain rfl:b'=1:=b3 λp hp=>by rw[D_.mp hp]
   obtain⟨t0,rfl⟩:∃t0,m=[(es,t0)]:=by
    match m,mk with
    |[z],mk=>
     have:z.1=es:=by injection mk
     rwa[z.2,by rw[<- this]]
   have bg:=mv _ LN;have a2:=s1.trans s2;erw[84,0,r,_,2,SqT.of ap,1,?_];have bp:∀i,i<=2->b^i<=2^960:=λi hi=>by
    erw[Hb (Nat.pow_le_pow_left bl i) ?_];rw[<- Nat.pow_mul];rwa[Hr #[] ()]
   have c3:(2:Nat)^960<2^8800:=HF #[] #[]
   have c2:(2:Nat)^480<2^8800:=HF #[] #[]
   erw[53,0,es.sum,1,(),(),l0 (n:=es.sum.toNat) (λi σ H'=>∃(ac:Option V),σ=[some (.ref x),some (.ref pl),some (.int es.sum),some (.ref xn),some (.ref tm),x5,x6,x7,some (.ref r),some (.int ((b^i:Nat):Int)),ac,none]/\H'=H2) ?_ ?_ ?_]
   ·rwa[0,1]
   ·rintro i σ H' hi ⟨ac,rfl,rfl⟩ N0 C0 a5;have h1:=bp i ()
    erw[119523,0,0,x,CT,dx,_,0,a2 _ _ hx,cl,n3,1,2,fu (by rw[HM];lia) (by rw[HM];lia),a5 _ _ #[some (.int (0+(i:Int))),?_,1]]
    rw[Pe,MQ]
    rfl
   ·rintro σ H' ⟨ac,rfl,rfl⟩;have sx:=a2 _ _ hx;have b5:=bp es.sum.toNat ()
    have a4:0<b^es.sum.toNat:=Nat.pow_pos b0;have b6:P≠0->b^es.sum.toNat=1:=λh0=>by rw[b1 h0,Nat.one_pow]
    generalize b^es.sum.toNat=bt at *;erw[738440403904,0,x,dx,0,sx,1,0,r,_,2,SqT.of ap,1,x,g,xn,d,P,L,(0),b,es,t0,o,1,#[dg,a2 _ _ hg],ht.same a2,hB.1,(),L4,#[],(),b8,(),ees,sum2,bg,λv2 m2 H3 s3 va lm bm=>?_]
    let#[32,r3,d3,o3,1,hr3,hd3]:=va
    have bd:=a2.trans s3;have lk:((DK m2).map λp=>(kV p.1,p.2)).length=m2.length:=by rw[fi,z_]
    have bi:m2.length<=16:=Hb lm (Hb (Hr #[] (show es.sum.toNat<=2 by lia)) #[])
    have b4:∀p∈m2,p.2.natAbs<=2^3200:=λp hp=>by
     erw[Hb (bm p hp) ?_];rw[<- Nat.pow_mul];rwa[Hr #[] ()]
    erw[8433,0,r3,_,2,SqT.of hr3,1,d3,o3,0,1,hd3,λvw ay=>#[43,vw,d3,o3,0,ae,Ga.new ay _ _ hd3,?_]]
    have s4:=Ga.new (o:=cV vw d3) ay;have a3:=bd.trans s4;have a6:=s4 _ _ hd3;generalize upd H3 vw (cV vw d3)=H4 at s4 a3 a6 ⊢;erw[cm (n:=m2.length) (σ0:=[none,none,some (.ref x),some (.ref xn),some (.int bt)]) rfl (λσ=>∃u1 u2,σ=[u1,u2,some (.ref x),some (.ref xn),some (.int bt)]) (PartR P) (λH H' v p fx h=>h.mono λt xs e=>fx.tup e) (λi ps=>∀p∈ps,OkN P p.2/\Rw bt (2^3200) p.2) () #[20,_,0] (λp hp=>nomatch hp) (λi H1 hi O=>#[O _ _ a6,by rw[lk];rwa[hi]]) (λH1 O=>#[O _ _ a6,by rw[lk];rwa[e_ _]]) ?_ ?_]
    ·rintro i σ H5 y H' ps Y N hi ⟨u1,u2,rfl⟩ O a8 ⟨p,ky,vy,rfl,np,rfl,e⟩ hY _;rw[fi,Hx] at e;obtain⟨z,ez⟩:∃z,m2[i]? = some z:=#[_,ge hi]
     rw[ez] at e;cases e;have s5:=(a3.trans O).trans (Ga.new (o:=.tup [.int z.1,.int z.2]) np);erw[232122,p,0,SqT.of ae,1,_,0,2,ul ?_];erw[95333263,0,x,CT,dx,_,0,s5 _ _ hx,cl,n1,1,g,dg,0,s5 _ _ hg,1,g,xn,L,1,#[dg,s5 _ _ hg],0,L,z.1,1,(),L4,λtu eu H6 s6 bb c1=>?_]
     erw[EM (a:=z.2) (b:=bt) hP (hN.mono λo' e=>s6 _ _ (s5 _ _ e)) rfl a4 () b6 (λZ z=>#[0,z]) (λZ z=>#[51,0,0,z]) λr7 H7 s7 a7=>?_]
     erw[by show 2<=sizeLine;decide,λp8 a9=>?_]
     have nr:=Eb (a:=z.2) (b:=bt) (M:=2^3200) hP a4 (Hr #[] #[]) (b4 z (GY ez))
     erw[hY _ _ (eu,_) _ #[20,_,0] (((Ga.new np).trans (s6.trans s7)).trans (Ga.new a9)) #[33,p8,tu,r7,1,ae,Ga.new a9 _ _ (s7 _ _ bb),a7.same (Ga.new a9)] λp' b9=>?_]
     rcases Ht.mp b9 with w|w
     ·rwa[a8 p' w]
     ·rw[D_.mp w];rwa[nr]
    ·rintro acc us ps H5 ax O b7 pr lp a8;rwa[q acc us ps bt H5 (a3.trans O) b7 (a3.free ax) pr () a4 b5 a8]
end
theorem Fs:(["product", "number"]:List Str).Nodup:=#[5]
theorem Fd:(["part", "own"]:List Str).Nodup:=#[5]
theorem uI:∀{vs:List V} {zs:List Int},Paired (λv z=>v=V.int z) vs zs->vs=zs.map V.int
 |_,_,.nil=>rfl
 |_,_,.cons h t=>by rw[h,uI t];rfl
def OneAt(P:Int)(L:Int)(H:Hp)(us:List V):Prop:=us=[]\/∃u es,us=[u]/\PartR P H u (es,(1,1))/\(es.length:Int)=L/\(∀e∈es,0<=e)/\es.sum<=2
theorem OneAt.same{P L:Int}(s:Ga H H')(h:OneAt P L H us):OneAt P L H' us:=by
 rcases h with h|⟨u,es,e,O,h⟩
 ·rwa[.inl h]
 ·rwa[.inr #[22,u,es,e,O.mono λt xs e=>s _ _ e,h]]
def Ai(CF CR CG CT:Addr):Sp:=λvs H Q _=>∃(x g xn l:Addr) (P L:Int) (b:Nat) (us:List V),vs=[.ref x,.ref l]/\Gc P/\dJ CG H g xn L/\Gp CF CR H xn P/\TurnAt CT H x g P L b/\1<=L/\L<=4/\H l=some (.lst us)/\OneAt P L H us/\∀(d:Addr) (rs:List V) (H':Hp),Ga H H'->H d=none->H' d=some (.lst rs)->Q (.ref d) H'
theorem yc{P:Int}(hP:Gc P)(B0:0<B)(B9:B<=2^960){ps:List bc}(l16:ps.length<=16)(h:∀p∈ps,OkN P p.2/\Rw B (2^3200) p.2):CK P ps:=by
 have U:2^14<=2^3200:=Hr #[] #[]
 have big:∀i,i<=16->i*2^3200*B<2^4300:=λi hi=>by
  have h1:i*2^3200*B<=16*2^3200*2^960:=OW (LP _ hi) B9;have h2:16*2^3200*2^960=2^4164:=by rw[show(16:Nat)=2^4 from rfl,<- NG,<- NG]
  have h3:(2:Nat)^4164<2^4300:=HF #[] #[]
  lia
 erw[λp O=>#[(h p O).1,(h p O).2.sz B0 OX (by have:=big 1 #[];rw[Q9] at this;rwa[this])],λi p O=>?_]
 have hi:min i ps.length<=16:=()
 rw[List.take_eq_take_min] at O;have r:=yZ hP U h (min i ps.length) (Nat.min_le_right _ _) p O;have Z:0<min i ps.length:=Nat.pos_of_ne_zero λz=>by
  rw[z] at O;cases O
 rwa[r.sz B0 (Hb OX (Mu _ Z)) (big _ hi)]
section
variable [Quiet base]
theorem GP:Gb ["self", "one", "found", "own"] ["self", "one"] (aj cX):=.i
theorem xy{CR:Addr}(F:Fun K "turned" "Turning.turned" cX f fd)(T:Blt mg)(cl:Cls K CT)(n1:Gj K CT "own_ring")(IM:`FnB 1 "degree" (zw K))(J9:`FnB 5 "sum_of" (C7 CF CR CG))(KZ:`MtB 11 CT "turned_level" (FH CF CR CG CT)):
  Gd P w K mg base CX0 12 f fd ["self", "one"] (Ai CF CR CG CT):=by
 erw[F.o GP λ_ _ _ _ H _ Q _ hr h=>?_]
 ·let#[4049,x,g,xn,l,P,L,b,us,1,hP,hg,hN,ht,L1,L4,hl,ho,q]:=h
  erw[_,(af #[5,2,GP,(aX ag)]
(af (be Hu rfl (aG K rfl (wy (w:=w) T (yL (w:=w) T.set #[9,aR (N:=["product", "number"]) (src:=[none,none]) rfl rfl rfl #[9,aG K rfl (pv 1)] (λ_ _ _=>by rwa[by exact(bx K (i:=0) (j:=1) rfl rfl Fs rfl rfl rfl rfl),aO,by exact(az IM hr.m #[6,0])])]))) (aM (i:=3) GP.nd rfl (Or.inr rfl))
(ai (cA (bmE K rfl (pv 2) #[6,#[9,jk KZ hr.m (pv 0) #[6,#[9,aR (N:=["part", "own"]) (src:=[none,some 3]) rfl rfl rfl #[9,aG K rfl (pv 1)] (λ_ _ _=>by rwa[by exact(bL (i:=0) Fd rfl rfl),(eR (aw bf (az IM hr.m #[6,(aC (aA K rfl) (pv 0) ah (λ_ _=>rfl))]) (pv 1) (au _))),by exact(pv 0)])],3]]]))))
(ai (ar (az J9 hr.m #[6,(k8 K rfl #[9,pv 0] rfl),2]))))),?_]
  let#[#[dx,lb,bs,hx,bp,bv,bo],b0,b1,bl]:=id ht;erw[Hj _,λfo a3=>?_]
  have s1:=Ga.new (o:=.lst []) a3;have l1:us.length<=1:=by
   rcases ho with rfl|⟨u,es,rfl,_⟩
   ·rwa[Hj _]
   ·rwa[e_ _]
  erw[52,0,l,1,#[_,SqL.of (s1 _ _ hl)],?_];erw[cm (n:=us.length) (σ0:=[none,none]) rfl (λσ=>∃u1 u2,σ=[u1,u2]) (λ_ v (z:Int)=>v=.int z) (λ_ _ _ _ _ h=>h) (λi zs=>zs.length=i/\∀z∈zs,∃u es,us=[u]/\PartR P H u (es,(1,1))/\z=es.sum) () #[20,_,0] #[1,λz hz=>nomatch hz] (λi H1 hi O=>#[21,us,_,SqL.of (O _ _ (s1 _ _ hl)),ge hi]) (λH1 O=>#[us,SqL.of (O _ _ (s1 _ _ hl)),e_ _]) ?_ ?_]
  ·rintro i σ H2 v H' zs Y N hi ⟨u1,u2,rfl⟩ O ⟨lz,hz⟩ ⟨rfl,hv⟩ hY _;have hv:=hv us (SqL.of (O _ _ (s1 _ _ hl)))
   rcases ho with rfl|⟨u,es,rfl,hp,_⟩
   ·cases hi
   obtain rfl:i=0:=by rw[He] at hi;lia
   cases hv
   let#[33,t,k,y,1,htt,hk,hy]:=id hp
   erw[232122,t,0,SqT.of (O _ _ (s1 _ _ htt)),1,_,0,2,ul ?_];erw[62,0,k,es,1,SqT.of (O _ _ (s1 _ _ hk)),hY _ _ es.sum _ #[20,_,0] (Ga.refl _) rfl #[by rw[x_,lz];rfl,λz b7=>?_]]
   rcases Ht.mp b7 with w|w
   ·rwa[hz z w]
   ·rwa[22,_,es,1,hp,D_.mp w]
  ·rintro acc vs zs H2 bi s2 b4 pr _ ⟨lz,hz⟩;obtain rfl:=uI pr;erw[23,acc,zs,1,SqL.of b4,(),λa na=>?_]
   erw[.ref a,1,.inr (.inl #[23,a,zs,1,ae,(),λD ys nD pm _=>?_])]
   have s3:=(s1.trans s2).trans ((Ga.new (o:=nh w a zs) na).trans (Ga.new (o:=.lst (ys.map V.int)) nD));have av:D≠fo:=λz=>by rw[z,Ga.new na _ _ (s2 _ _ ae)] at nD;cases nD
   have hD:upd (upd H2 a (nh w a zs)) D (.lst (ys.map V.int)) D=some (.lst (ys.map V.int)):=ae;have a7:upd (upd H2 a (nh w a zs)) D (.lst (ys.map V.int)) fo=some (.lst []):=Ga.new nD _ _ (Ga.new na _ _ (s2 _ _ ae));generalize upd (upd H2 a (nh w a zs)) D (.lst (ys.map V.int))=H3 at s3 hD a7 ⊢;have ly:ys.length=us.length:=by rw[pm.length_eq,lz]
   erw[D,1,#[_,SqL.of hD],bw (xs:=ys.map V.int) (λi σ H'=>∃(x3:Option V) (rs:List V) (ps:List bc) (B:Nat),σ=[some (.ref x),some (.ref l),some (.ref fo),x3]/\(∀c o,c≠fo->H3 c=some o->H' c=some o)/\H' fo=some (.lst rs)/\Gx P H' rs ps/\ps.length<=16*i/\0<B/\B<=2^960/\∀p∈ps,OkN P p.2/\Rw B (2^3200) p.2) ?_ ?_ ?_ ?_]
   ·rwa[47,_,[],[],(1),1,λc o _ e=>e,a7,.nil,e_ _,#[],OX,λp hp=>nomatch hp]
   ·intro i σ H' _ Z;let#[42,x3,rs,ps,B,1,k,_]:=Z
    rwa[SqL.of (k _ _ av hD)]
   ·intro i v σ H4 hv Z N0 C0 b3;let#[47,x3,rs,ps,B,1,k,hf4,pp,lp,B0,B9,hps]:=Z
    let#[z,ez,1]:=fP hv;have mz:z∈zs:=pm.mem_iff.mp (GY ez)
    let#[22,u,es,1,hp,1]:=hz z mz
    have hi:i=0:=by
     have:=(y_.mp ez).1;rw[ly,He] at this;lia
    subst hi;have b9:ps.length=0:=()
    obtain rfl:=eq_nil_of_length_eq_zero b9;cases pp
    rcases ho with e|⟨u',a4,e,b6,b8,ax,bb⟩
    ·cases e
    cases e
    let#[33,t,kk,y,1,htt,hk,hy]:=id hp
    let#[33,t',kk',y',e,htt',hk',hy']:=id b6
    cases e;rw[htt] at htt';cases htt';rw[hk] at hk';have ay:es=a4:=by
     have:es.map V.int=a4.map V.int:=by injection hk' with h;injection h
     rwa[List.map_inj_right (λ_ _ h=>by injection h) |>.mp this]
    subst ay;have b2:∀c o,H c=some o->c≠fo:=λc o e=>al e a3
    have U:∀c o,H c=some o->H4 c=some o:=λc o e=>k _ _ (b2 c o e) (s3 _ _ e)
    erw[127352,0,.inl #[1,_,SqL.of hf4],0,x,dx,0,U _ _ hx,1,0,l,1,#[_,SqL.of (U _ _ hl)],?_];erw[cm (n:=1) (σ0:=[none,some (.int es.sum)]) rfl (λσ=>∃u1,σ=[u1,some (.int es.sum)]) (λ_ v (z:V)=>v=z) (λ_ _ _ _ _ h=>h) (λi zs=>zs=[V.ref t].take i) #[] #[0] rfl (λi H1 hi O=>#[21,_,_,SqL.of (O _ _ (U _ _ hl)),ge hi]) (λH1 O=>#[_,SqL.of (O _ _ (U _ _ hl)),e_ _]) ?_ ?_]
    ·rintro i σ H5 v H' bg Y N hi ⟨u1,rfl⟩ O rfl ⟨rfl,a2⟩ hY _;have a2:=a2 _ (SqL.of (O _ _ (U _ _ hl)));obtain rfl:i=0:=()
     cases a2;erw[84221211,0,t,_,2,SqT.of (O _ _ (U _ _ htt)),1,kk,es,1,SqT.of (O _ _ (U _ _ hk)),0,1,0,?_];rw[q_ rfl];rwa[aU #[0,hY _ _ _ _ #[0] (Ga.refl _) rfl rfl]]
    ·rintro ac bd bg H5 bz s5 a5 b' _ rfl;obtain rfl:bd=[.ref t]:=by
      cases b' with
      |cons h r=>
       cases r;rw[h]
     have k5:Ga H H5:=λc o e=>s5 _ _ (U c o e)
     erw[904903,0,x,g,xn,ac,P,L,b,es,.ref t,1,hP,?_,hN.mono λo e=>k5 _ _ e,ht.same k5,L1,L4,a5,hp.mono λc xs e=>k5 _ _ e,b8,ax,bb,λd a1 a' B2 H6 s6 b5 c0 a9 bt ad ap a8=>?_]
     ·let#[dg,hg]:=hg;rwa[dg,k5 _ _ hg]
     have a6:=s6 _ _ (s5 _ _ hf4);have l6:a1.length=a'.length:=Paired.length a9;erw[45,fo,d,[],a1,1,1,a6,b5,by rw[Hc,l6];show 0+_<=_;lia,?_]
     have fx:Fix H6 (upd H6 fo (.lst ([]++a1))):=λc o no e=>by rw[ak (bD e a6 (no _))];rwa[e]
     erw[b3 _ _ #[47,_,a1,a',B2,1,λc o hc e=>?_,ae,aq (λ_ _ z=>z.mono λt xs e=>fx.tup e) a9,(),ad,ap,a8]]
     rw[ak hc];rwa[s6 _ _ (s5 _ _ (k c o hc e))]
   ·intro σ H4 Z;let#[47,x3,rs,ps,B,1,k,hf4,pp,lp,B0,B9,hps]:=Z
    have U:Ga H H4:=λc o e=>k _ _ (al e a3) (s3 _ _ e)
    rw[z_,ly] at lp;let#[dg,hg]:=hg;erw[959028,0,x,CT,dx,_,0,U _ _ hx,cl,n1,1,0,g,xn,fo,P,L,rs,ps,1,hP,#[dg,U _ _ hg],hN.mono λo e=>U _ _ e,hf4,pp,(),yc hP B0 B9 () hps,λd rs out H' nd O hd _ _=>?_]
    rwa[q d rs H' (U.trans O) (U.free nd) hd]
end
theorem FS:(["row", "turning"]:List Str).Nodup:=#[5]
theorem F3:(["entry", "turning"]:List Str).Nodup:=#[5]
abbrev eU(b:Bool)(sp:Sp):Sp:=λvs H Q E=>b=true/\sp vs H Q E
theorem wz{x dx C:Addr}(nx:H x=none)(nd:H dx=none)(ne:dx≠x):Ga H (upd (upd H dx (.own x)) x (.ins C dx [])):=
 (Ga.new nd).trans (Ga.new (by rw[ak (Ne.symm ne)];rwa[nx]))
theorem md{CR g xn:Addr}{P L:Int}{hP:Gc P}{b:Bool}{t:TA}(K:Frag)(hb:b=true)(hg:dJ CG H g xn L)(hN:Gp CF CR H xn P)(L1:1<=L)(L4:L<=4)(hv:Dv p H 3 v d)(ht:GD hP L.toNat d)(ha:∀Z:List V->Hp->Prop,Z [.ref g,v] H->t σ H Z)(hR:∀x c H',Ga H H'->TurnAt CT H' x g P L c->R (.ref x) H'):vA CT (eU b (g0 CF CR CG CT)) [] E0 t σ H R:=by
 erw[ha _ λx dx nx nd ne=>#[hb,?_]]
 have s1:=wz (C:=CT) nx nd ne
 rcases hv.split (K:=K) with⟨_,_,_,hn⟩|⟨a,us,ds,m,em,rfl,rfl,_,hl,_,r⟩
 ·let#[rows,1,_]:=ht;rwa[absurd rfl (hn _)]
 obtain rfl:m=2:=()
 have O:=ht.rows;have O:(decide (ds.length=L.toNat)&&ds.all (gr P L.toNat))=true:=O;rw[Lw] at O
 let#[12,rows,pr,e,ok]:=gW hP r O.2
 have len:=E_ O.1;rw[e,z_] at len;let#[dg,U]:=id hg;erw[40401903,x,dx,g,xn,a,P,L,us,rows,1,ae,λz=>?_,#[dg,s1 _ _ U],hN.mono λo e=>s1 _ _ e,hP,L1,L4,s1 _ _ hl,pr.mono λ_ _ h=>h.same s1,len,ok,λc H' k ta=>#[1,hR x c H' (λq o e=>?_) ta]]
 ·rw[z] at hN
  rcases hN with⟨_,_,h⟩|⟨_,_,h⟩<;>(rw[nx] at h;cases h)
 ·rwa[k q o (λz=>by rw[z,nx] at e;cases e) (s1 q o e)]
def EC(CN CF CR CG:Addr):Sp:=λvs H Q E=>∃(p:List Addr) (g xn l:Addr) (P L:Int) (hP:Gc P) (v:V) (d:PyData) (us:List V),vs=[.ref g,v,.ref l]/\dJ CG H g xn L/\Gp CF CR H xn P/\1<=L/\L<=4/\Dv p H 3 v d/\H l=some (.lst us)/\OneAt P L H us/\
 (¬GD hP L.toNat d->Rz CN E H)/\(GD hP L.toNat d->∀v' H',Ga H H'->Q v' H')
def TabR(P L:Int)(H:Hp)(rs:List V):Prop:=rs=[]\/∃r l us,rs=[V.ref r]/\H r=some (.lst [.ref l])/\H l=some (.lst us)/\OneAt P L H us
def yd(b:Bool)(CN CF CR CG:Addr):Sp:=λvs H Q E=>∃(p:List Addr) (g xn l:Addr) (P L:Int) (hP:Gc P) (v:V) (d:PyData) (rs:List V),vs=[.ref g,v,.ref l]/\dJ CG H g xn L/\Gp CF CR H xn P/\1<=L/\L<=4/\Dv p H 3 v d/\H l=some (.lst rs)/\TabR P L H rs/\
 (¬GD hP L.toNat d->Rz CN E H)/\(GD hP L.toNat d->b=true/\∀v' H',Ga H H'->Q v' H')
section
theorem nO:Gb ["ring", "turn", "one"] ["ring", "turn", "one"] (aj fC):=.i
theorem B5{CN CR:Addr}(F:Fun K "turned_sum" "turned_sum" fC f fd)(Jm:`jY 5 "check_turn" (lg CN CF CR CG))(IP:`MkB 4 CT "Turning" (eU true (g0 CF CR CG CT)))(Ka:`MtB 12 CT "turned" (eU true (Ai CF CR CG CT))):
  Gd P w K mg base (CXE P w base.life) 13 f fd ["ring", "turn", "one"] (EC CN CF CR CG):=by
 erw[F.okX nO (λvs H Q E h=>?_) (λcdv A outer s H vs Q E hr h=>?_)]
 ·let#[4020,p,g,xn,l,P,L,#[hP,v,d,us,1,_]]:=h
  rfl
 ·let#[4020,p,g,xn,l,P,L,#[hP,v,d,us,1,hg,hN,L1,L4,hv,hl,ho,hz,q]]:=h
  erw[_,(af (cA (uk Jm hr.m oG #[6,0,1]))
(ai (ar (jk Ka hr.m (t8 IP hr.m #[6,0,1]) #[6,2])))),?_]
  by_cases ht:GD hP L.toNat d
  case neg=>rwa[1190,0,0,p,g,xn,P,L,#[hP,v,d,1,hg,hN,L1,L4,hv,hz,λz=>absurd z ht]]
  erw[1190,0,0,p,g,xn,P,L,#[hP,v,d,1,hg,hN,L1,L4,hv,hz,λ_ H1 s1=>?_]]
  let#[dg,O]:=id hg;dsimp only[E8,dW];erw[md (p:=p) (hP:=hP) K rfl #[dg,s1 _ _ O] (hN.mono λo e=>s1 _ _ e) L1 L4 (hv.same s1) ht (λZ z=>#[51,0,0,z]) λx c H2 s2 tA=>?_]
  let#[#[dx,lb,bs,hx,_],_]:=id tA;have U:=s1.trans s2;rwa[33124049,x,dx,0,hx,1,0,1,x,g,xn,l,P,L,c,us,1,hP,#[dg,U _ _ O],hN.mono λo e=>U _ _ e,tA,L1,L4,U _ _ hl,ho.same U,λdd rs H3 s4 _ _=>q ht _ _ (U.trans s4)]
theorem sc_turned_table:Gb ["ring", "turn", "table", "turning"] ["ring", "turn", "table"] (aj eA):=.i
theorem vV{b:Bool}{CN CR:Addr}(F:Fun K "turned_table" "turned_table" eA f fd)(Jm:`jY 5 "check_turn" (lg CN CF CR CG))(IP:`MkB 4 CT "Turning" (eU b (g0 CF CR CG CT)))(Ka:`MtB 12 CT "turned" (eU b (Ai CF CR CG CT))):
  Gd P w K mg base (CXE P w base.life) 13 f fd ["ring", "turn", "table"] (yd b CN CF CR CG):=by
 erw[F.okX sc_turned_table (λvs H Q E h=>?_) (λcdv A outer s H vs Q E hr h=>?_)]
 ·let#[4020,p,g,xn,l,P,L,#[hP,v,d,us,1,_]]:=h
  rfl
 ·let#[4020,p,g,xn,l,P,L,#[hP,v,d,rs,1,hg,hN,L1,L4,hv,hl,ho,hz,q]]:=h
  erw[_,(af (cA (uk Jm hr.m oG #[6,0,1]))
(af (am (i:=3) sc_turned_table.nd rfl (Or.inr rfl) (t8 IP hr.m #[6,0,1]))
(ai (ar #[9,aR (N:=["row", "turning"]) (src:=[none,some 3]) rfl rfl rfl #[9,aG K rfl (pv 2)] (λ_ _ _=>by rwa[by exact(bL (i:=0) FS rfl rfl),aO,by exact#[9,aR (N:=["entry", "turning"]) (src:=[none,some 1]) rfl rfl rfl #[9,aG K rfl (pv 0)] (λ_ _ _=>by rwa[by exact(bL (i:=0) F3 rfl rfl),aO,by exact(jk Ka hr.m (pv 1) #[6,0])])]])])))),?_]
  by_cases ht:GD hP L.toNat d
  case neg=>rwa[1190,0,0,p,g,xn,P,L,#[hP,v,d,1,hg,hN,L1,L4,hv,hz,λz=>absurd z ht]]
  let#[hb,q]:=q ht;erw[1190,0,0,p,g,xn,P,L,#[hP,v,d,1,hg,hN,L1,L4,hv,hz,λ_ H1 s1=>?_]]
  let#[dg,a3]:=id hg;dsimp only[ip,BH];erw[md (p:=p) (hP:=hP) K hb #[dg,s1 _ _ a3] (hN.mono λo e=>s1 _ _ e) L1 L4 (hv.same s1) ht (λZ z=>#[51,0,0,z]) λx c H2 s2 tA=>?_]
  let#[#[dx,lb,bs,hx,_],_]:=id tA;have s3:=s1.trans s2;erw[52,0,l,1,#[_,SqL.of (s3 _ _ hl)],?_];have l1:rs.length<=1:=by
   rcases ho with rfl|⟨_,_,_,rfl,_⟩
   ·rwa[Hj _]
   ·rwa[e_ _]
  erw[cm (n:=rs.length) (σ0:=[none,some (.ref x)]) rfl (λσ=>∃u,σ=[u,some (.ref x)]) (λ_ _ (_:Unit)=>True) (λ_ _ _ _ _ _=>trivial) (λ_ _=>True) () #[0] trivial (λi H3 hi sm=>#[21,rs,_,SqL.of (sm _ _ (s3 _ _ hl)),ge hi]) (λH3 sm=>#[rs,SqL.of (sm _ _ (s3 _ _ hl)),e_ _]) ?_ ?_]
  ·rintro i σ H3 v' H' zs Y N hi ⟨u1,rfl⟩ sm _ ⟨rfl,a1⟩ hY _;have a1:=a1 rs (SqL.of (sm _ _ (s3 _ _ hl)))
   rcases ho with rfl|⟨r,l',us,rfl,U,a8,ho⟩
   ·cases hi
   obtain rfl:i=0:=by rw[He] at hi;lia
   cases a1;have s4:=s3.trans sm;dsimp only[bP];erw[ul ?_];erw[52,0,r,1,#[_,SqL.of (s4 _ _ U)],?_];erw[cm (n:=1) (σ0:=[none,some (.ref x)]) rfl (λσ=>∃u,σ=[u,some (.ref x)]) (λ_ _ (_:Unit)=>True) (λ_ _ _ _ _ _=>trivial) (λ_ _=>True) #[] #[0] trivial (λi H5 hi O=>#[21,[.ref l'],_,SqL.of (O _ _ (s4 _ _ U)),ge hi]) (λH5 O=>#[[.ref l'],SqL.of (O _ _ (s4 _ _ U)),e_ _]) ?_ ?_]
   ·rintro j σ5 H5 v5 a9 a' Y5 N5 hj ⟨u5,rfl⟩ O _ ⟨rfl,a2⟩ a6 _;have a2:=a2 _ (SqL.of (O _ _ (s4 _ _ U)));obtain rfl:j=0:=()
    cases a2;have s5:=s4.trans O;have a5:=sm.trans O;dsimp only[bP];erw[ul ?_];rwa[73124049,0,x,dx,0,a5 _ _ hx,1,0,hb,x,g,xn,l',P,L,c,us,1,hP,#[dg,s5 _ _ a3],hN.mono λo e=>s5 _ _ e,tA.same a5,L1,L4,s5 _ _ a8,ho.same s5,λdd rs H6 s6 _ _=>a6 _ _ ⟨⟩ _ #[0] s6 trivial trivial]
   ·rintro acc vs zs H5 a4 s5 a7 pr _ _;erw[hY _ _ ⟨⟩ _ ?_ s5 trivial trivial];rwa[0]
  ·rintro acc vs zs H3 a4 s4 a7 pr _ _;rwa[q _ _ (s3.trans s4)]
end
theorem yr{H2:Hp}{x:Addr}{o:HO}(hx:H x=none)(s:Ga (upd H x o) H2):Ga H (del H2 x):=λb u e=>by
 rw[gu (al e hx)];rwa[s b u (by rw[ak (al e hx)];rwa[e])]
def vk(CF CR CG:Addr):Sp:=λvs H Q _=>∃(p:List Addr) (g xn l tl:Addr) (P L:Int) (hP:Gc P) (v:V) (d:PyData) (us rs:List V),vs=[.ref g,v,.ref l,.ref tl]/\dJ CG H g xn L/\Gp CF CR H xn P/\1<=L/\L<=4/\Dv p H 3 v d/\H l=some (.lst us)/\OneAt P L H us/\H tl=some (.lst rs)/\TabR P L H rs/\
 ∀(b:Bool) H',(b=true↔¬GD hP L.toNat d)->Ga H H'->Q (.bl b) H'
theorem TabR.same{P L:Int}{rs:List V}(s:Ga H H')(h:TabR P L H rs):TabR P L H' rs:=by
 rcases h with h|⟨r,l,us,e,h1,h2,O⟩
 ·rwa[.inl h]
 ·rwa[.inr #[33,r,l,us,e,s _ _ h1,s _ _ h2,O.same s]]
section
variable [Quiet base]
theorem GX:Gb ["_law_ring", "_law_turn", "_law_one", "_law_table", "_law_e", "more"] ["_law_ring", "_law_turn", "_law_one", "_law_table"] (aj eM):=.i
theorem tG{CN CR:Addr}(F:Fun K "_law_refused" "_law_refused" eM f fd)(Jn:`jY 13 "turned_sum" (EC CN CF CR CG))(IU:`jY 13 "turned_table" (yd true CN CF CR CG))(Nturned_table:∀O:Heap,K.In O->O.Ns mainGlobals mg->jY P w K mg O 13 "turned_table" (yd false CN CF CR CG))(IR:`CI 1 "_law_class" (qb CN))(ALadderError:mg "LadderError"=some (.ref Im))(ml:PySem.W.exmOne K (.ref CN) (.ref Im)=some true):
  Gd P w K mg base CX0 14 f fd ["_law_ring", "_law_turn", "_law_one", "_law_table"] (vk CF CR CG):=by
 erw[F.o GX λ_ _ _ _ H _ Q _ hr h=>?_]
 ·let#[4030,p,g,xn,l,tl,P,L,#[hP,v,d,us,rs,1,hg,hN,L1,L4,hv,hl,ho,htl,hT,q]]:=h
  let#[dg,a1]:=id hg;erw[_,(af (zq (i:=4) rfl GX.nd rfl ALadderError (sO (DN Jn hr.m #[9,aa (pv 0) #[6,1,2]])) (λ_=>by exact(af (aL (cF (bW (yk IR (hr.m.marked _) #[6,4])))
(ai (ar um))
aB)
(af (zq (i:=5) rfl GX.nd rfl ALadderError (sO (BQ Nturned_table (hr.m.marked _) #[9,aa (pv 0) #[6,1,3]])) (λ_=>by exact(ai (ar (yk IR (hr.m.marked2 _ _) #[6,5])))))
(ai (ar um))))))
(af (cA (uk IU hr.m iO #[6,0,1,3]))
(ai (ar dU)))),?_]
  by_cases U:GD hP L.toNat d
  ·erw[519010,0,0,0,p,g,xn,l,P,L,#[hP,v,d,us,1,hg,hN,L1,L4,hv,hl,ho,λz=>absurd U z,λ_ v' H1 s1=>?_]]
   erw[519010,0,0,0,p,g,xn,tl,P,L,#[hP,v,d,rs,1,#[dg,s1 _ _ a1],hN.mono λo e=>s1 _ _ e,L1,L4,hv.same s1,s1 _ _ htl,hT.same s1,λz=>absurd U z,λ_=>#[1,λv2 H2 s2=>?_]]]
   rwa[q false H2 #[λz=>(nomatch z),λz=>absurd U z] (s1.trans s2)]
  ·erw[519010,0,0,0,p,g,xn,l,P,L,#[hP,v,d,us,1,hg,hN,L1,L4,hv,hl,ho,λ_ H1 s1=>#[CN,1,ml,λx hx=>?_],λz=>absurd z U]]
   erw[62,0,x,0,ae,λH2 s2=>?_]
   have Z:=s1.trans (yr hx s2);have a2:=s2 _ _ (show upd H1 x (nY x CN base.life) x=some (nY x CN base.life) from ae)
   rw[(‹Quiet base›).q] at a2;erw[0,bO ?_];erw[51124020,0,0,0,#[CN,a2],p,g,xn,tl,P,L,#[hP,v,d,rs,1,#[dg,Z _ _ a1],hN.mono λo e=>Z _ _ e,L1,L4,hv.same Z,Z _ _ htl,hT.same Z,λ_ H3 s3=>#[CN,1,ml,λy hy=>?_],λz=>absurd z U]]
   erw[62,0,y,0,ae,λH4 s4=>?_]
   rwa[q true H4 #[λ_=>U,λ_=>rfl] (Z.trans (s3.trans ((Ga.new hy).trans s4)))]
end
def AU:Sp:=λvs H Q _=>∃(p:Addr) (L M a b:Int) (k:Nat),vs=[.int L,.int M,.ref p]/\1<=L/\L<=4/\0<=M/\M<=1000/\H p=some (.lst [.int a,.int b])/\Gn a b k/\k<=100000/\
 ∀(t:Addr) (es:List Int) (a' b':Int) (H':Hp),(es.length:Int)=L->(∀e∈es,0<=e)->es.sum=M->H' t=some (.tup (es.map V.int))->H' p=some (.lst [.int a',.int b'])->Gn a' b' (k+6)->(∀c o,H c=some o->c≠p->H' c=some o)->Q (.ref t) H'
section
variable [Quiet base]
theorem GA:Gb ["_law_letters", "_law_many", "_law_bag_here", "_law_found", "_law_left", "_law_letter", "_law_here"] ["_law_letters", "_law_many", "_law_bag_here"] (aj eO):=.i
theorem uj(F:Fun K "_law_product" "_law_product" eO f fd)(T:Blt mg)(HQ:`FnB 1 "_law_take" fD):`Gd CX0 2 f fd ["_law_letters", "_law_many", "_law_bag_here"] AU:=by
 erw[F.o GA λ_ _ _ _ H _ Q _ hr h=>?_]
 ·let#[4028,p,L,M,a,b,k,1,hL1,hL4,hM0,hM1,hp,hb,hk,q]:=h
  erw[_,(af #[5,3,GA,(aX ag)]
(af #[5,4,GA,(pv 1)]
(af (be Hu rfl (bU rfl T.range #[6,(ao cS (pv 0) ah)]) (aM (i:=5) GA.nd rfl #[4])
(af #[5,6,GA,(az HQ hr.m #[6,2,(ao aQ (pv 4) ah)])]
(af (cA (bmA K rfl (pv 3) #[6,6]))
(ai #[5,4,GA,(ao cS (pv 4) (pv 6))]))))
(ai (ar (j5 K T (ao bS (pv 3) (aX #[6,4])))))))),?_]
  erw[Hj _,λl hl=>?_]
  have pl:p≠l:=al hp hl;erw[0,?_];erw[6213,0,2,0,(),(),kg (n:=(L-1).toNat) (λi σ H'=>∃(es:List Int) (left a b:Int) (x5 x6:Option V),σ=[some (.int L),some (.int M),some (.ref p),some (.ref l),some (.int left),x5,x6]/\es.length=i/\(∀e∈es,0<=e)/\0<=left/\(left<=M/\es.sum+left=M)/\
    H' l=some (.lst (es.map V.int))/\H' p=some (.lst [.int a,.int b])/\Gn a b (k+i)/\(∀c o,H c=some o->c≠p->H' c=some o)) ?_ ?_ ?_]
  ·erw[4028,[],M,a,b,none,none,1,1,λe Z=>absurd Z (by simp),hM0,#[Int.le_refl _,by simp],ae,(by rw[ak pl];rwa[hp]),hb,λc o e U=>?_]
   rw[ak (al e hl)];rwa[e]
  ·intro i σ H2 hi O;let#[4028,es,left,a2,b2,x5,x6,1,hlen,hnn,hl0,#[hlM,hsm],hl2,hp2,hb2,kp]:=O
   erw[51224016,0,0,2,p,a2,b2,_,k+i,1,hp2,hb2,(),(),aP () (),λr3 a3 b3 a5 a6 a4=>?_]
   have a1:(upd H2 p (.lst [.int a3,.int b3])) l=some (.lst (es.map V.int)):=by rw[ak pl.symm];rwa[hl2]
   erw[1274,0,.inl #[1,_,SqL.of a1],0,l,2,a1,jU (by rw[z_];lia),?_]
   erw[5122,0,0,2,?_];erw[4028,es++[r3],left-r3,a3,b3,_,0,by rw[x_,He,hlen],λe Z=>?_,(),#[(),by rw[sum_append];simp;lia],by rw[ae,L8];rfl,by rw[ak pl,ae],by rw[show k+(i+1)=k+i+1 by lia];rwa[a4],λc o e U=>?_]
   ·rcases Ht.mp Z with z|z
    ·rwa[hnn e z]
    ·rw[D_.mp z];rwa[a5]
   ·rw[ak (al e hl),ak U];rwa[kp c o e U]
  ·intro σ H2 O;let#[4028,es,left,a2,b2,x5,x6,1,hlen,hnn,hl0,#[hlM,hsm],hl2,hp2,hb2,kp]:=O
   erw[52,0,0,(by show 1<=sizeLine;decide),λl1 n1=>?_]
   have s1:=Ga.new (o:=.lst [.int left]) n1;have h4:(10:Nat)<=sizeLine:=#[]
   erw[45,l,l1,2,s1 _ _ hl2,ae,by rw[z_,He];lia,λl2 n2=>?_]
   have s2:=Ga.new (o:=.lst (es.map V.int++[.int left])) n2;erw[22,l2,0,SqL.of ae,λt ht=>?_]
   have s3:=Ga.new (o:=.tup (es.map V.int++[.int left])) ht;have sm:=(s1.trans s2).trans s3;erw[q t (es++[left]) a2 b2 _ (by rw[x_,He];lia) (λe Z=>?_) (by rw[sum_append];simp;lia) (by rw[ae,L8];rfl) (sm _ _ hp2) (hb2.mono ()) (λc o e U=>sm c o (kp c o e U))]
   rcases Ht.mp Z with z|z
   ·rwa[hnn e z]
   ·rw[D_.mp z];rwa[hl0]
end
def mU(CG CN:Addr):Sp:=λvs H Q E=>∃(g dx:Addr) (v:V) (L:Int),vs=[.ref g,v,.int L]/\H g=some (.ins CG dx [])/\(¬(1<=L/\L<=4)->E (.ref CN) none H)/\
 (1<=L->L<=4->Q .non (upd (upd H g (.ins CG dx [("kind",v)])) g (.ins CG dx [("kind",v),("width",.int L)])))
section
variable [Quiet base]
theorem jT:Gb ["self", "numbers", "letters"] ["self", "numbers", "letters"] (aj dP):=.i
theorem AZ(F:Fun K "__init__" "Ring.__init__" dP f fd)(cl:Cls K CG)(nK:Gj K CG "kind")(nW:Gj K CG "width")(cMost:mg "MOST_LETTERS"=some (.int 4 tk))(ANoRing:mg "NoRing"=some (.ref Ia))(xc:XCl K Ia):
  Gd P w K mg base (CXE P w base.life) 2 f fd ["self", "numbers", "letters"] (mU CG Ia):=by
 erw[F.okX jT (λvs H Q E h=>?_) (λcdv A outer s H vs Q E Z h=>?_)]
 ·let#[41,g,dx,v,L,1,_]:=h
  rfl
 ·let#[43,g,dx,v,L,1,hg,qn,qy]:=h
  erw[_,(af (aL (PW.pt (gf (aw gJ (pv 2) ah (au _)) (f9 (aw gQ (pv 2) (bu (v:=.int 4) rfl cMost #[0]) (au _)))))
(ai (fy xc.ek ANoRing #[6,iH]))
aB)
(af (iJ (pv 0) (pv 1) rfl)
(ai (iJ (pv 0) (pv 2) rfl)))),?_]
  have O:¬(1<=L/\L<=4)->E (.ref Ia) none H:=qn;erw[6211,0,2,0,bC (λh=>?_) (λh=>?_)]
  ·have h1:L<1:=E_ h;rwa[aU #[(by show 1<=sizeLine;decide),O ()]]
  ·have h1:¬L<1:=λz=>h (q_ z)
   erw[6211,0,2,0,bC (λh=>?_) (λh=>?_)]
   ·have U:L>4:=E_ h;rwa[(by show 1<=sizeLine;decide),O ()]
   ·have U:¬L>4:=λz=>h (q_ z)
    rwa[51455145,0,0,g,CG,dx,0,hg,cl,nK,#[],0,0,g,CG,dx,0,ae,cl,nW,(by show(1:Nat)<1000;decide),qy () ()]
end
def v8(K:Frag):Sp:=λvs H Q _=>∃(a:Addr) (ns:List Int),vs=[.ref a]/\SqL K H a (ns.map V.int)/\ns.length<=63/\∀H',Q (.bl true) H'
section
variable [Quiet base]
theorem GB:Gb ["_law_script", "_law_bag_here", "_law_prime_here", "_law_letters", "_law_ring", "_law_product_here", "_law_one", "_law_k", "_law_turn", "_law_way", "_law_due", "_law_handed", "_law_here", "_law_table"] ["_law_script"] (aj zn):=.i
set_option maxHeartbeats 4000000 in
theorem DW{CR:Addr}(F:Fun K "law" "law" zn f fd)(T:Blt mg)(Jk:`FnB 2 "_law_bag" (C8 K))(HQ:`FnB 1 "_law_take" fD)(Jo:`FnB 2 "_law_prime" uG)(IV:`FnB 4 "_law_numbers" (AG CF CR))(KL:`CH 2 CG "Ring" (mU CG Ia))(IW:`FnB 2 "_law_product" AU)(JG:`FnB 1 "_law_unit" Ak)(Jp:`FnB 5 "_law_drawn" vZ)(IX:`FnB 5 "_law_made_of" yw)(Jh:`FnB 2 "_law_spoilt" lG)(IY:`FnB 4 "_law_is_turn" v4)(JH:`FnB 1 "_law_kept" xZ)(IZ:`FnB 14 "_law_refused" (vk CF CR CG)):
  Gd P w K mg base CX0 15 f fd ["_law_script"] (v8 K):=by
 erw[F.o GB λ_ _ _ _ H _ Q _ hr h=>?_]
 ·let#[23,a,ns,1,hS,hlen,q]:=h
  erw[_,(af #[5,1,GB,(az Jk hr.m #[6,0,ah])]
(af #[5,2,GB,(az Jo hr.m #[6,1])]
(af #[5,3,GB,(ao aQ ah (az HQ hr.m #[6,1,ah]))]
(af #[5,4,GB,(D2 KL hr.m iO #[6,(az IV hr.m #[6,2]),3])]
(af #[5,5,GB,(az IW hr.m #[6,3,(az HQ hr.m #[6,1,ah]),1])]
(af #[5,6,GB,(aX #[6,(aN #[6,5,(az JG hr.m #[6,2])])])]
(af (be Hu rfl (bU rfl T.range #[6,ah]) (aM (i:=7) GB.nd rfl #[4])
(af #[5,1,GB,(az Jk hr.m #[6,0,(ao aQ ah (pv 7))])]
(af #[5,8,GB,(az Jp hr.m #[6,2,3,1])]
(af #[5,9,GB,(az HQ hr.m #[6,1,ah])]
(af (aL (aw gJ (pv 9) ah (au _))
(ai #[5,8,GB,(az IX hr.m #[6,2,8,1])])
(ai (aL (aw gJ (pv 9) ah (au _))
(ai #[5,8,GB,(az Jh hr.m #[6,2,3,8,1])])
aB)))
(af #[5,10,GB,(tP (az IY hr.m #[6,2,3,8]))]
(af #[5,11,GB,(az JH hr.m #[6,8])]
(ai (be Hu rfl (aG K rfl (aX #[6,(aN #[6,6,(aX #[6,(aX #[6,6])])]),(aN #[6,(aX ag),(aX ag)])])) (bx K (i:=12) (j:=13) rfl rfl GB.nd rfl rfl rfl rfl)
(ai (aL (PW.pt (gf (aw gh (az IZ hr.m #[6,4,11,12,13]) (pv 10) (au _)) (f9 (aw (zK K rfl hr.units) (pv 11) (pv 8) (au _)))))
(ai (ar dU))
aB)))))))))))
(ai (ar dU))))))))),?_]
  erw[75,0,a,ns,(0),1,hS,hlen,#[],#[],λp a1 b1 np ez=>?_]
  have f4:(upd H p (.lst [.int a1,.int b1])) p=some (.lst [.int a1,.int b1]):=ae;have sp:=Ga.new (o:=.lst [.int a1,.int b1]) np;generalize upd H p (.lst [.int a1,.int b1])=H1 at *;erw[84,0,p,a1,b1,100,1,f4,ez,#[],λP a2 b2 H2 hP bp b' kp2=>?_]
  have s2:Ga H H2:=λc o e=>kp2 c o (sp _ _ e) (al e np)
  erw[96,0,p,a2,b2,(4),0,bp,b',#[],#[],aP #[] #[],λr a3 b3 r0 r1 d8=>#[22,2,?_]]
  have s3:Ga H (upd H2 p (.lst [.int a3,.int b3])):=s2.put np;have bd:(upd H2 p (.lst [.int a3,.int b3])) p=some (.lst [.int a3,.int b3]):=ae;have ac:(1:Int)<=1+r:=()
  have ad:1+r<=4:=()
  dsimp only;generalize upd H2 p (.lst [.int a3,.int b3])=H3 at *;generalize 1+r=L at *;erw[52,0,P,1,hP,λx H4 s4 hN=>#[0,λg dx ng fa ne=>?_]]
  erw[43,g,dx,.ref x,L,1,ae,λhL=>absurd #[ac,ad] hL,λ_ _=>#[1,?_]]
  have s5:Ga H4 (upd (upd (upd (upd H4 dx (.own g)) g (.ins CG dx [])) g (.ins CG dx [("kind",.ref x)])) g (.ins CG dx [("kind",.ref x),("width",.int L)])):=λc o e=>by
   have hc:c≠g:=al e ng;rw[ak hc,ak hc,ak hc,ak (al e fa)];rwa[e]
  have bo:(upd (upd (upd (upd H4 dx (.own g)) g (.ins CG dx [])) g (.ins CG dx [("kind",.ref x)])) g (.ins CG dx [("kind",.ref x),("width",.int L)])) g=some (.ins CG dx [("kind",.ref x),("width",.int L)]):=ae;generalize upd (upd (upd (upd H4 dx (.own g)) g (.ins CG dx [])) g (.ins CG dx [("kind",.ref x)])) g (.ins CG dx [("kind",.ref x),("width",.int L)])=H5 at *;have dm:=s4.trans s5;have d9:=dm _ _ bd;have dy:=hN.mono λo e=>s5 _ _ e
  have xp:x≠p:=λz=>by
   rcases hN with⟨_,d,e⟩|⟨_,d,e⟩<;>rw[z,s4 _ _ bd] at e<;>cases e
  have gp:g≠p:=λz=>by rw[z,d9] at bo;cases bo
  have en:Ga H H5:=s3.trans dm;erw[1196,0,0,p,a3,b3,(3),0,d9,d8,#[],#[],aP #[] #[],λr6 a6 b6 fo gx f1=>#[0,?_]]
  erw[4028,p,L,r6,a6,b6,0,ac,ad,fo,(),ae,f1,#[],λt es a7 b7 H7 le he hs f7 f5 f2 ee=>?_]
  have bv:∀c o,H5 c=some o->c≠p->H7 c=some o:=λc o e hc=>ee c o (by rw[ak hc];rwa[e]) hc
  have fw:Ga H H7:=λc o e=>bv c o (en c o e) (al e np)
  have e6:=bv _ _ bo gp;have dz:Gp CF CR H7 x P:=dy.mono λo e=>bv _ _ e xp
  clear ee bv f2 f5 dy bo d9 hN dm s4 s5 en;erw[5112,0,0,P,1,hP,λu H8 s8 hu=>#[by show 2<=sizeLine;decide,λtt ei=>#[by show 1<=sizeLine;decide,λlo ef=>?_]]]
  have a9:=Ga.new (o:=.tup [.ref t,u]) ei;have b9:=Ga.new (o:=.lst [.ref tt]) ef;have s9:Ga H7 (upd (upd H8 tt (.tup [.ref t,u])) lo (.lst [.ref tt])):=s8.trans (a9.trans b9);have f8:(upd (upd H8 tt (.tup [.ref t,u])) lo (.lst [.ref tt])) tt=some (.tup [.ref t,u]):=b9 _ _ ae;have e8:(upd (upd H8 tt (.tup [.ref t,u])) lo (.lst [.ref tt])) lo=some (.lst [.ref tt]):=ae;have ea:At P (upd (upd H8 tt (.tup [.ref t,u])) lo (.lst [.ref tt])) u (1,1):=hu.same (a9.trans b9);generalize upd (upd H8 tt (.tup [.ref t,u])) lo (.lst [.ref tt])=H9 at *;have f3:=s9 _ _ e6;have ey:Gp CF CR H9 x P:=dz.mono λo e=>s9 _ _ e
  have da:PartR P H9 (.ref tt) (es,(1,1)):=#[33,tt,t,u,1,f8,s9 _ _ f7,ea];have cu:OneAt P L H9 [.ref tt]:=.inr #[24,_,es,1,da,le,he,()]
  have g8:=fw.trans s9;clear a9 b9 s8 hu ea ei ef s9 dz e6;erw[0,#[],#[],l0 (n:=6) (λi σ H'=>∃x1 x7 x8 x9 c0 c8 c9 c':Option V,σ=[some (.ref a),x1,some (.int P),some (.int L),some (.ref g),some (.ref t),some (.ref lo),x7,x8,x9,c0,c8,c9,c']/\Ga H9 H') ?_ ?_ ?_]
  ·rwa[4041,_,_,_,_,_,_,_,0,Ga.refl _]
  ·intro i σ d0 hi Z N0 B0 eu;let#[4041,x1,x7,x8,x9,c0,c8,c9,c',1,s10]:=Z
   erw[512235,0,0,2,a,ns,0,(g8.trans s10).seq hS,hlen,(),(),λp2 a2 b2 eg b'=>?_]
   have bp:(upd d0 p2 (.lst [.int a2,.int b2])) p2=some (.lst [.int a2,.int b2]):=ae;have sq:=s10.trans (Ga.new (o:=.lst [.int a2,.int b2]) eg);have bt:∀c o,H9 c=some o->c≠p2:=λc o e=>al (s10 _ _ e) eg
   generalize upd d0 p2 (.lst [.int a2,.int b2])=gb at *;erw[519017,0,0,0,p2,P,L,a2,b2,100,1,hP,ac,ad,bp,b',#[],λl ws rows a3 b3 b8 nl hl pr lr bi bd d8 kp=>?_]
   have fr:Ga H9 b8:=λc o e=>kp c o (sq _ _ e) (bt c o e)
   have lp:l≠p2:=(al bp nl).symm;erw[96,0,p2,a3,b3,(5),0,bd,d8,#[],#[],aP #[] #[],λeo a4 b4 w0 w1 e5=>?_]
   have db:Ga H9 (upd b8 p2 (.lst [.int a4,.int b4])):=λc o e=>by rw[ak (bt c o e)];rwa[fr c o e]
   have bb:(upd b8 p2 (.lst [.int a4,.int b4])) l=some (.lst ws):=by rw[ak lp];rwa[hl]
   have ay:Paired (GI [p2] P (upd b8 p2 (.lst [.int a4,.int b4]))) ws rows:=pr.mono λv xs h=>h.keep bd (D_.mpr rfl) λc o e hc=>by rw[ak hc];rwa[e]
   have ax:(upd b8 p2 (.lst [.int a4,.int b4])) p2=some (.lst [.int a4,.int b4]):=ae;generalize upd b8 p2 (.lst [.int a4,.int b4])=dv at *;dsimp only;erw[sq1 λR0 e0=>?_]
   have fin:∀(v:V) (d:PyData) (a5 b5:Int) (U:Hp),Dv [p2] U 3 v d->U p2=some (.lst [.int a5,.int b5])->Ga H9 U->R0 { nx:=N0,ct:=N0,bk:=B0,rt:=Q } [some (.ref a),some (.ref p2),some (.int P),some (.int L),some (.ref g),some (.ref t),some (.ref lo),some (.int (0+i)),some v,some (.int eo),c0,c8,c9,c'] U:=by
    subst e0;intro v d a5 b5 U hv a8 fv;erw[5170,0,0,0,[p2],P,L,#[hP,v,d,1,ac,ad,hv,λb gg cp di=>#[0,?_]]]
    have cx:=hv.same di;have e':=di _ _ a8;have el:=fv.trans di;erw[73,0,[p2],v,d,1,cx,(λa ha=>by rw[D_.mp ha];rwa[_,e']),λv2 d7 ej f'=>?_]
    have ec:=cx.same ej;have em:=el.trans ej;erw[52,0,0,by show 1<=sizeLine;decide,λe1 n1=>#[by show 1<=sizeLine;decide,λe2 n2=>#[by show 2<=sizeLine;decide,λt1 m1=>#[by show 0<=sizeLine;decide,λe3 n3=>#[by show 0<=sizeLine;decide,λe4 n4=>#[by show 2<=sizeLine;decide,λt2 m2=>#[by show 2<=sizeLine;decide,λll fl=>?_]]]]]]]
    have c1:=Ga.new (o:=.lst [.ref lo]) n1;have c2:=Ga.new (o:=.lst [.ref e1]) n2;have c3:=Ga.new (o:=.tup [.ref lo,.ref e2]) m1;have c4:=Ga.new (o:=.lst []) n3;have c5:=Ga.new (o:=.lst []) n4;have c6:=Ga.new (o:=.tup [.ref e3,.ref e4]) m2;have c7:=Ga.new (o:=.lst [.ref t1,.ref t2]) fl;have d6:=c6.trans c7;have d5:=c5.trans d6;have d4:=c4.trans d5;have d3:=c3.trans d4;have d2:=c2.trans d3;have g1:=d2 _ _ (ae (H:=d7) (a:=e1) (o:=.lst [.ref lo]));have g2:=d3 _ _ (ae (a:=e2) (o:=.lst [.ref e1]));have g3:=d4 _ _ (ae (a:=t1) (o:=.tup [.ref lo,.ref e2]));have g4:=d5 _ _ (ae (a:=e3) (o:=.lst []));have g5:=d6 _ _ (ae (a:=e4) (o:=.lst []));have g6:=c7 _ _ (ae (a:=t2) (o:=.tup [.ref e3,.ref e4]));have g7:=ae (H:=upd (upd (upd (upd (upd (upd d7 e1 (.lst [.ref lo])) e2 (.lst [.ref e1])) t1 (.tup [.ref lo,.ref e2])) e3 (.lst [])) e4 (.lst [])) t2 (.tup [.ref e3,.ref e4])) (a:=ll) (o:=.lst [.ref t1,.ref t2]);have d1:=c1.trans d2;clear c1 c2 c3 c4 c5 c6 c7 d2 d3 d4 d5 d6;generalize upd (upd (upd (upd (upd (upd (upd d7 e1 (.lst [.ref lo])) e2 (.lst [.ref e1])) t1 (.tup [.ref lo,.ref e2])) e3 (.lst [])) e4 (.lst [])) t2 (.tup [.ref e3,.ref e4])) ll (.lst [.ref t1,.ref t2])=er at *;have ed:=ec.same d1;have cz:=f'.same d1;have dk:=em.trans d1;erw[ll,1,#[_,SqL.of g7],bw (xs:=[.ref t1,.ref t2]) (λi' σ H'=>∃cb cn:Option V,σ=[some (.ref a),some (.ref p2),some (.int P),some (.int L),some (.ref g),some (.ref t),some (.ref lo),some (.int (0+i)),some v,some (.int eo),some (.bl (!b)),some v2,cb,cn]/\Ga er H') ?_ ?_ ?_ ?_]
    ·rwa[21,_,0,Ga.refl _]
    ·intro i' σ a' _ Z;let#[21,cb,cn,1,s18]:=Z
     rwa[SqL.of (s18 _ _ g7)]
    ·intro i' x' σ a' ap Z N1 B1 ew;let#[21,cb,cn,1,s18]:=Z
     have oh:∃(tp av bz:Addr) (us rs:List V),x'=.ref tp/\a' tp=some (.tup [.ref av,.ref bz])/\a' av=some (.lst us)/\OneAt P L a' us/\a' bz=some (.lst rs)/\TabR P L a' rs:=by
      have O:=dk.trans s18
      match i',ap with
      |0,ap=>
       cases ap;rwa[4015,t1,lo,e2,_,0,s18 _ _ g3,O _ _ e8,cu.same O,s18 _ _ g2,.inr #[33,e1,lo,0,s18 _ _ g1,O _ _ e8,cu.same O]]
      |1,ap=>
       cases ap;rwa[4015,t2,e3,e4,_,0,s18 _ _ g6,s18 _ _ g4,.inl rfl,s18 _ _ g5,.inl rfl]
      |n+2,ap=>cases ap
     let#[4015,tp,av,bz,us,rs,1,htp,hh,ho,htb,hT]:=oh
     have O:=dk.trans s18;erw[232122,tp,0,SqT.of htp,1,_,0,2,?_];erw[51514030,0,0,0,0,[p2],g,x,av,bz,P,L,#[hP,v2,d,us,rs,1,#[dx,O _ _ f3],ey.mono λo e=>O _ _ e,ac,ad,cz.same s18,hh,ho,htb,hT,λb2 gl b' dl=>?_]]
     have eb:b2 = !b:=by
      cases b with
      |true=>
       erw[No.mpr λz=>?_]
       rwa[b'.mp z (cp.mp rfl)]
      |false=>
       erw[b'.mpr λz=>?_]
       cases cp.mpr z
     subst eb;erw[0,by cases b<;>rfl,0,vt rfl ?_]
     have w1:=(cz.same s18).same dl;have w2:=(ed.same s18).same dl;have ly:=w1.lay;erw[512411,0,0,d,d,w1.dr,w2.dr,ly.sh #[],ly.sh #[],0,?_]
     rw[SeqAt.eqv_refl d ly.1];rwa[bO (ew _ _ #[21,_,0,s18.trans dl])]
    ·intro σ a' Z;let#[21,cb,cn,1,s18]:=Z
     rwa[eu _ _ #[4041,_,_,_,_,_,_,_,0,dk.trans s18]]
   clear e0;erw[6211,0,2,0,bC (λh=>?_) (λh=>?_)]
   ·erw[51904903,0,0,0,l,p2,P,L,a4,b4,_,ws,rows,1,hP,ac,ad,lp,bb,ay,lr,bi,ax,e5,#[],λv d a5 b5 U hv a8 f0 bg=>?_]
    rwa[fin v d a5 b5 U hv a8 λc o e=>bg c o (db _ _ e) (bt c o e)]
   ·erw[6211,0,2,0,bC (λh=>?_) (λh=>?_)]
    ·erw[5111904903,0,0,0,0,l,p2,P,L,a4,b4,_,ws,rows,1,hP,ac,ad,lp,bb,ay,lr,bi,ax,e5,#[],λv d a5 b5 U hv a8 f0 bg=>?_]
     rwa[fin v d a5 b5 U hv a8 λc o e=>bg c o (db _ _ e) (bt c o e)]
    ·have f6:∀a∈[p2],∃xs,dv a=some (.lst xs):=λa ha=>by
      rw[D_.mp ha];rwa[_,ax]
     erw[fin (.ref l) (BX P rows) a4 b4 dv (.inr (.inl #[35,l,ws,0,1,by simpa using lp,bb,?_,k9 f6 ay λxs hx=>#[by rw[(bi xs hx).1];lia,λy hy=>qm hP ((bi xs hx).2 y hy).1 λz=>Sz.mono (((bi xs hx).2 y hy).2 z) #[]]])) ax db]
     have:=Paired.length ay;lia
  ·intro σ d0 Z;let#[4041,x1,x7,x8,x9,c0,c8,c9,c',1,s10]:=Z
   rwa[q _]
end
theorem Ar{b:Heap}{CX:CXT}{k:Nat}{ps:List Str}{sp:Sp}:Gd P w K mg b CX k f fd ps (eU false sp):=
 #[λ_ _ _ _ h=>absurd h.1 #[],λ_ _ _ _ _ _ _ _ _ _ _ _ _ h=>absurd h.1 #[]]
section
variable [Quiet base]
theorem Cp(F:Fun K "put" "Turning.put" dC f fd)(T:Blt mg)(ndict:mg "dict" = none)(cl:Cls K CT)(n1:Gj K CT "own_ring")(n2:Gj K CT "modulus")(n4:Gj K CT "becomes")(Iy:`MtB 1 CG "letters" (iM CG))(Jv:`FnB 5 "mixed" zg)(me:nu K CT "put" f)(bi:Gq K fd ["self", "letter", "tops"] []):
  ∀n,n<=4->`MtB 10 CT "put" (pJ CG CT n):=by
 have all:∀n,`MtB (6+n) CT "put" (pJ CG CT n):=by
  intro n
  induction n with
  |zero=>
   have z:`MtB 5 CT "put" (yJ CG CT 0):=#[#[32,f,fd,_,#[λ_ _ _ _ h=>h.elim,λ_ _ _ _ _ _ _ _ _ _ _ _ _ h=>h.elim],me,bi],cl]
   rwa[#[32,f,fd,_,Bh (n:=0) (k:=5) #[] F T ndict cl n1 n2 n4 Iy Jv z,me,bi],cl]
  |succ n ih=>rwa[#[32,f,fd,_,Bh (n:=n+1) (k:=6+n) () F T ndict cl n1 n2 n4 Iy Jv ih,me,bi],cl]
 intro n hn;let#[#[U,O,ps,h,r],c]:=all n;rwa[#[31,U,O,ps,h.mono (),r],c]
end
set_option maxHeartbeats 4000000 in
theorem all_mk{l:PySem.W.OpenLaw}{h:Heap}{fa:Addr}(X:K.In h)(G:h.Ns mainGlobals mg)(hfa:mg "law"=some (.ref fa))(d0:DefIn K "is_whole_number" cL)(d1:DefIn K "is_pair" jV)(d2:DefIn K "top_and_bottom" df)(d3:DefIn K "is_prime" iT)(d4:DefIn K "greatest_divisor" cD)(d5:DefIn K "inverse" j7)(d6:DefIn K "packed" lI)(d7:DefIn K "unpacked" iN)(d8:DefIn K "least_multiple" dj)(d9:DefIn K "common_divisor" de)(d10:DefIn K "cancelled" gB)(d11:DefIn K "over_one_bottom" cI)(d12:DefIn K "mixed" pK)(d13:DefIn K "without_noughts" cR)(d14:DefIn K "degree" lH)(d15:DefIn K "height" mP)(d16:DefIn K "sum_of" lM)(d17:DefIn K "rank" uE)(d18:DefIn K "whole_numbers" dL)(d19:DefIn K "cleared_at" fT)(d20:DefIn K "turned_sum" fC)(d21:DefIn K "turned_table" eA)(d22:DefIn K "check_turn" fS)(d23:DefIn K "is_list_of" fE)(d24:DefIn K "lone_letter" fc)(d25:DefIn K "_law_cell" gw)(d26:DefIn K "_law_bag" iQ)(d27:DefIn K "_law_take" gM)(d28:DefIn K "_law_whole" fZ)(d29:DefIn K "_law_low" iK)(d30:DefIn K "_law_is_prime" dR)(d31:DefIn K "_law_prime" fU)(d32:DefIn K "_law_numbers" et)(d33:DefIn K "_law_back" gq)(d34:DefIn K "_law_plus" gk)(d35:DefIn K "_law_times" fF)(d36:DefIn K "_law_nought" eZ)(d37:DefIn K "_law_unit" gD)(d38:DefIn K "_law_less" gs)(d39:DefIn K "_law_over" gN)(d40:DefIn K "_law_great" fA)(d41:DefIn K "_law_signed" e9)(d42:DefIn K "_law_number" eV)(d43:DefIn K "_law_product" eO)(d44:DefIn K "_law_number_like" cG)(d45:DefIn K "_law_drawn" fH)(d46:DefIn K "_law_made_of" eP)(d47:DefIn K "_law_spoilt" e7)(d48:DefIn K "_law_rank" gI)(d49:DefIn K "_law_is_turn" eC)(d50:DefIn K "_law_class" gd)(d51:DefIn K "_law_refused" eM)(d52:DefIn K "_law_kept" gP)(d53:DefIn K "law" zn){HU:Addr}(Lg:ClsIn K "Fractions" HU)(Ko:findIn K (.ref HU) "__init__"=some (some (.builtin "object.__init__")))(KR:MethIn K HU "prime" "Fractions.prime" cM)(KD:MethIn K HU "is_number" "Fractions.is_number" bX){Ip:Addr}{JN:Value}{JO:Option Addr}{Ji:Tok}{JU:Nat}{JS:Array (Option Value)}{Ij:Addr}{JV IC:Option Addr}{JW:Array (Option Value)}{JX ID IE IF Iq IG:Value}(JY:findIn K (.ref HU) "of"=some (some (.ref Ij)))(JZ:isFn K (.ref Ij)=true)(Kb:K.lookup Ij=some #[JX,JV,.func (fnOf "of" "Fractions.of" (bJ aK) (aW aK) (aj aK) (.ref Ip) ID IE IF IC Iq IG),JW])(Kc:codeIn K Iq "Fractions.of"=true)(Jw:keepIn K (.ref Ij)=true)(Jl:K.lookup Ip=some #[JN,JO,.seq #[8,.int 1 Ji] JU,JS])(K0:MethIn K HU "plus" "Fractions.plus" cW){HV:Addr}(K6:ClsIn K "Rests" HV)(Ib:findIn K (.ref HV) "modulus"=some none)(K1:MethIn K HV "__init__" "Rests.__init__" dn)(Lb:MethIn K HV "prime" "Rests.prime" ff)(KS:MethIn K HV "is_number" "Rests.is_number" cP){IS:Addr}{Kj:Value}{Kk:Option Addr}{JM:Tok}{Kt:Nat}{Kq:Array (Option Value)}{IH:Addr}{Ku Jq:Option Addr}{Kw:Array (Option Value)}{Kx Jr Js Jt IT Ju:Value}(Ky:findIn K (.ref HV) "of"=some (some (.ref IH)))(Kz:isFn K (.ref IH)=true)(KM:K.lookup IH=some #[Kx,Ku,.func (fnOf "of" "Rests.of" (bJ bA) (aW bA) (aj bA) (.ref IS) Jr Js Jt Jq IT Ju),Kw])(KN:codeIn K IT "Rests.of"=true)(J0:keepIn K (.ref IH)=true)(JR:K.lookup IS=some #[Kj,Kk,.seq #[8,.int 1 JM] Kt,Kq])(Lc:MethIn K HV "plus" "Rests.plus" gc){HZ:Addr}(Ld:ClsIn K "Ring" HZ)(Jj:findIn K (.ref HZ) "kind"=some none)(Ja:findIn K (.ref HZ) "width"=some none)(K5:MethIn K HZ "__init__" "Ring.__init__" dP)(K7:MethIn K HZ "numbers" "Ring.numbers" eI)(K8:MethIn K HZ "letters" "Ring.letters" eh){C_Turning:Addr}(e_Turning:ClsIn K "Turning" C_Turning)(na_Turning_own_ring:findIn K (.ref C_Turning) "own_ring"=some none)(na_Turning_modulus:findIn K (.ref C_Turning) "modulus"=some none)(na_Turning_bottom:findIn K (.ref C_Turning) "bottom"=some none)(na_Turning_becomes:findIn K (.ref C_Turning) "becomes"=some none)(e_Turning___init__:MethIn K C_Turning "__init__" "Turning.__init__" cE)(e_Turning_turned:MethIn K C_Turning "turned" "Turning.turned" cX)(e_Turning_turned_level:MethIn K C_Turning "turned_level" "Turning.turned_level" bQ)(e_Turning_put:MethIn K C_Turning "put" "Turning.put" dC)(Kd:nsIn K mainGlobals "LadderError"=some (some (.ref Im)))(KA:nsIn K mainGlobals "NoNumber"=some (some (.ref HR)))(Jd:XCl K HR)(KP:nsIn K mainGlobals "NoRing"=some (some (.ref Ia)))(K2:XCl K Ia)(aC_NoTurn:nsIn K mainGlobals "NoTurn"=some (some (.ref C_NoTurn)))(x_NoTurn:XCl K C_NoTurn)(KQ:nsIn K mainGlobals "NoPart"=some (some (.ref IL)))(K3:nsIn K mainGlobals "NoRow"=some (some (.ref Je)))(aC_NoRung:nsIn K mainGlobals "NoRung"=some (some (.ref C_NoRung)))(aC_NoRelation:nsIn K mainGlobals "NoRelation"=some (some (.ref C_NoRelation)))(aC_NoMap:nsIn K mainGlobals "NoMap"=some (some (.ref C_NoMap)))(aC_NoText:nsIn K mainGlobals "NoText"=some (some (.ref C_NoText)))(aC_NoName:nsIn K mainGlobals "NoName"=some (some (.ref C_NoName)))(aC_TooMany:nsIn K mainGlobals "TooMany"=some (some (.ref C_TooMany)))(ml:PySem.W.exmOne K (.ref C_NoTurn) (.ref Im)=some true)(kv:kitOne K (.ref C_NoTurn) (.type "ValueError")=some true)(ko1:kitOne K (.ref C_NoTurn) (.ref HR)=some false)(ko2:kitOne K (.ref C_NoTurn) (.ref Ia)=some false)(ko3:kitOne K (.ref C_NoTurn) (.ref IL)=some false)(ko4:kitOne K (.ref C_NoTurn) (.ref Je)=some false)(ko5:kitOne K (.ref C_NoTurn) (.ref C_NoRung)=some false)(ko6:kitOne K (.ref C_NoTurn) (.ref C_NoRelation)=some false)(ko7:kitOne K (.ref C_NoTurn) (.ref C_NoMap)=some false)(ko8:kitOne K (.ref C_NoTurn) (.ref C_NoText)=some false)(ko9:kitOne K (.ref C_NoTurn) (.ref C_NoName)=some false)(ko10:kitOne K (.ref C_NoTurn) (.ref C_TooMany)=some false)(zn_ValueError:nsIn K mainGlobals "ValueError"=some none)(zn_dict:nsIn K mainGlobals "dict"=some none)(zn_reversed:nsIn K mainGlobals "reversed"=some none){Ke:Tok}(Jb:nsIn K mainGlobals "LEAST_PRIME"=some (some (.int 2 Ke))){JP:Tok}(IA:nsIn K mainGlobals "GREATEST_PRIME"=some (some (.int 9973 JP))){J1:Tok}(IQ:nsIn K mainGlobals "MOST_LETTERS"=some (some (.int 4 J1))){Kg:Tok}(Iw:nsIn K mainGlobals "LETTER_BITS"=some (some (.int 20 Kg))){Kl:Tok}(II:nsIn K mainGlobals "PLACE_BITS"=some (some (.int 20 Kl))){Kh:Tok}(Jc:nsIn K mainGlobals "LETTER_MASK"=some (some (.int 1048575 Kh)))(z0:nsIn K mainGlobals "len"=some none)(z1:nsIn K mainGlobals "range"=some none)(z2:nsIn K mainGlobals "zip"=some none)(z3:nsIn K mainGlobals "all"=some none)(z4:nsIn K mainGlobals "sum"=some none)(z5:nsIn K mainGlobals "max"=some none)(z6:nsIn K mainGlobals "min"=some none)(z7:nsIn K mainGlobals "abs"=some none)(z8:nsIn K mainGlobals "tuple"=some none)(z9:nsIn K mainGlobals "list"=some none)(z10:nsIn K mainGlobals "int"=some none)(z11:nsIn K mainGlobals "bool"=some none)(z12:nsIn K mainGlobals "isinstance"=some none)(z13:nsIn K mainGlobals "enumerate"=some none)(z14:nsIn K mainGlobals "sorted"=some none)(z15:nsIn K mainGlobals "set"=some none)(z16:nsIn K mainGlobals "str"=some none):
  ∃fd:FuncData,(∀(s:Shared) (v:Value),BindsTo s fd #[[v],[]] [("_law_script",v)])/\∀base:Heap,base.life={}->K.In base->base.Ns mainGlobals mg->Gd l.prog w K mg base CX0 15 fa fd ["_law_script"] (v8 K):=by
 have T:Blt mg:=#[MV X G z0,MV X G z1,MV X G z2,MV X G z3,MV X G z4,MV X G z5,MV X G z6,MV X G z7,MV X G z8,MV X G z9,MV X G z10,MV X G z11,MV X G z12,MV X G z13,MV X G z14,MV X G z15,MV X G z16];erw[d53.lawQ X G hfa λ{_} {base} b3 hq _ _=>?_]
 haveI:Quiet base:=⟨hq⟩;have M {k n sp} (h:FnB l.prog w K mg base k n sp):=h;have N {k c n sp} (h:MtB l.prog w K mg base k c n sp):=h;have Ik:=Lg.cl;have KB:=P7 X G Lg.a;have Jx:=v3 (st:=aK) Kb Kc Jw;have Ki:Gq K (fnOf "of" "Fractions.of" (bJ aK) (aW aK) (aj aK) (.ref Ip) ID IE IF IC Iq IG) ["self", "top", "bottom"] []:=λs us X hl=>match us,hl with|[_,_,_],_=>BindsTo.of_defaults rfl (X _ _ Jl) rfl rfl rfl
 have J3:Gq K (fnOf "of" "Fractions.of" (bJ aK) (aW aK) (aj aK) (.ref Ip) ID IE IF IC Iq IG) ["self", "top", "bottom"] [.int 1 Ji]:=λs us X hl=>by
  let#[z1,z2,1]:=yI hl;rwa[BindsTo.of_defaults rfl (X _ _ Jl) rfl rfl rfl]
 have Jy:nu K HU "of" Ij:=#[JY,JZ,Jw];have Ie:=K6.cl;have K9:=P7 X G K6.a;have J4:=v3 (st:=bA) KM KN J0;have KO:Gq K (fnOf "of" "Rests.of" (bJ bA) (aW bA) (aj bA) (.ref IS) Jr Js Jt Jq IT Ju) ["self", "top", "bottom"] []:=λs us X hl=>match us,hl with|[_,_,_],_=>BindsTo.of_defaults rfl (X _ _ JR) rfl rfl rfl
 have KC:Gq K (fnOf "of" "Rests.of" (bJ bA) (aW bA) (aj bA) (.ref IS) Jr Js Jt Jq IT Ju) ["self", "top", "bottom"] [.int 1 JM]:=λs us X hl=>by
  let#[z1,z2,1]:=yI hl;rwa[BindsTo.of_defaults rfl (X _ _ JR) rfl rfl rfl]
 have J5:nu K HV "of" IH:=#[Ky,Kz,J0];have Is:=Ld.cl;have Le:=P7 X G Ld.a;have U:=e_Turning.cl;have a2:=P7 X G e_Turning.a;have Km:=P7 X G Kd;have IJ:=P7 X G KA;have Kr:=P7 X G KP;have a6:=P7 X G aC_NoTurn;have K4:=P7 X G KQ;have La:=P7 X G K3;have a':=P7 X G aC_NoRung;have a4:=P7 X G aC_NoRelation;have ad:=P7 X G aC_NoMap;have ac:=P7 X G aC_NoText;have a9:=P7 X G aC_NoName;have a8:=P7 X G aC_TooMany;have a5:=MV X G zn_ValueError;have a1:=MV X G zn_dict;have a7:=MV X G zn_reversed;have Jb:=P7 X G Jb;have IA:=P7 X G IA;have IQ:=P7 X G IQ;have Iw:=P7 X G Iw;have II:=P7 X G II;have Jc:=P7 X G Jc;have Jz:=M (d25.fb X G λF=>BF F T)
 have Jk:=M (d26.fb X G λF=>Ev F Jz)
 have HQ:=M (d27.fb X G λF=>B8 F)
 have Iv:=M (d28.fb X G λF=>Ay F T)
 have Io:=M (d40.fb X G λF=>Aa F HQ)
 have Jf:=M (d41.fb X G λF=>xU F HQ Io)
 have HW:=M (d29.fb X G λF=>EJ F T)
 have IK:=M (d30.fb X G λF=>rE F T)
 have Jo:=M (d31.fb X G λF=>A6 F HQ IK)
 have JI:=M (d3.fb X G λF=>tj F Jb IA)
 have HS:=M (d4.fb X G λF=>Ag F T)
 have Kn:MkB l.prog w K mg base 2 HV "Rests" (pO HV):=K1.i K6 K9 λF=>Am F Ie Ib JI
 have IV:=M (d32.fb X G λF=>CD F #[Lg.ms,Ko,Lg.kc] KB Kn)
 have Ii:=M (d42.fb X G λF=>ui F T HQ Io Jf HW)
 have Iu:=M (d44.fb X G λF=>Bu F T Iv HW)
 have Ir:=M (d34.fb X G λF=>zF F HW)
 have Ig:=M (d35.fb X G λF=>xi F HW)
 have Ih:=M (d36.fb X G λF=>wM F T)
 have JB:=M (d38.fb X G λF=>Bt F)
 have JA:=M (d33.fb X G λF=>BI F T)
 have JC:=M (d39.fb X G λF=>BR F HW JA)
 have JD:=M (d48.fb X G λF=>yO F T Ir Ig JB JC Ih)
 have IW:=M (d43.fb X G λF=>uj F T HQ)
 have JG:=M (d37.fb X G λF=>Bx F T)
 have Jp:=M (d45.fb X G λF=>ww F T Ii)
 have IX:=M (d46.fb X G λF=>Ah F T HQ Ii Ir Ig Ih)
 have Jh:=M (d47.fb X G λF=>ug F T HQ)
 have IY:=M (d49.fb X G λF=>zo F T Iu JD)
 have JH:=M (d52.fb X G λF=>yl F T)
 have JJ:=N (KR.b Ik λF=>AO F)
 have JK:=N (Lb.b Ie λF=>AX F Ie Ib)
 have Ix:=N (K7.b Is λF=>vC F Is Jj)
 have Iy:=N (K8.b Is λF=>vX F Is Ja)
 have KL:CH l.prog w K mg base 2 HZ "Ring" (mU HZ Ia):=K5.ix Ld Le λF=>AZ F Is Jj Ja IQ Kr K2
 have Z:∀O:Heap,jY l.prog w K mg O 5 "check_turn" (lg C_NoTurn HU HV HZ):=by
  intro O;have M' {k n sp} (h:FnB l.prog w K mg O k n sp):=h;have ap:=M' (d4.fb X G λF=>Ag F T)
  have ax:MtB l.prog w K mg O 1 HU "prime" o4:=KR.b Ik λF=>AO F
  have ay:MtB l.prog w K mg O 1 HV "prime" (oE HV):=Lb.b Ie λF=>AX F Ie Ib
  have bg:MtB l.prog w K mg O 1 HZ "numbers" (jS HZ):=K7.b Is λF=>vC F Is Jj
  have bd:MtB l.prog w K mg O 1 HZ "letters" (iM HZ):=K8.b Is λF=>vX F Is Ja
  have bi:=M' (d2.fb X G λF=>C2 F ax ay)
  have b6:=M' (d8.fb X G λF=>C3 F ap)
  have bp:=M' (d18.fb X G λF=>xQ F bi b6)
  have b4:=M' (d19.fb X G λF=>ye F T)
  have bb:=M' (d17.fb X G λF=>Cq F T ax ay bp b4)
  have b2:=M' (d0.fb X G λF=>tJ F T)
  have b9:=M' (d1.fb X G λF=>BY F T)
  have b5:MtB l.prog w K mg O 2 HU "is_number" (v7 K):=KD.b Ik λF=>D9 F b9 b2 ap
  have b':MtB l.prog w K mg O 2 HV "is_number" (ve K HV):=KS.b Ie λF=>DM F Ie Ib b2
  have b7:=M' (d23.fb X G λF=>xB F T)
  rwa[d22.fx X G λF=>zl F T a6 x_NoTurn bg bd b5 b' b7 bb]
 have a3:∀O:Heap,K.In O->O.Ns mainGlobals mg->jY l.prog w K mg O 13 "turned_table" (yd false C_NoTurn HU HV HZ):=by
  intro O _ _;have b8:MkB l.prog w K mg O 4 C_Turning "Turning" (eU false (g0 HU HV HZ C_Turning)):=e_Turning___init__.i e_Turning a2 λF=>Ar (ps:=["self", "ring", "turn"])
  have bo:MtB l.prog w K mg O 12 C_Turning "turned" (eU false (Ai HU HV HZ C_Turning)):=e_Turning_turned.b U λF=>Ar (ps:=["self", "one"])
  rwa[d21.fx X G λF=>vV F (Z O) b8 bo]
 have HY:=M (d8.fb X G λF=>C3 F HS)
 have HX:=M (d2.fb X G λF=>C2 F JJ JK)
 have Jg:=M (d24.fb X G λF=>Ct F T)
 have J7:=M (d6.fb X G λF=>wn F Iw II)
 have Ic:=M (d11.fb X G λF=>wA F a1 HY)
 have IB:=M (d9.fb X G λF=>Br F HS)
 have JE:=M (d10.fb X G λF=>wj F a1 IB)
 have Iz:=M (d13.fb X G λF=>E3 F a1 JE)
 have Jv:=M (d12.fb X G λF=>yY F HS HY Iz)
 have JL:=M (d7.fb X G λF=>qH F T a7 Iw II Jc)
 have JF:=M (d5.fb X G λF=>sY F)
 have IM:=M (d14.fb X G λF=>xj F T)
 have J8:=M (d15.fb X G λF=>wP F IM)
 have KG:nk l.prog w K mg base 2 HU "of" [] (gS HR):=#[#[43,_,_,_,_,vm Jx HS IJ Jd,Jy,Ki,.nil],Ik];have av:nk l.prog w K mg base 2 HV "of" [] (iR HV HR):=#[#[43,_,_,_,_,vD J4 Ie Ib JF IJ Jd,J5,KO,.nil],Ie];have KH:nk l.prog w K mg base 2 HU "of" [.int 1] (gS HR):=#[#[43,_,_,_,_,vm Jx HS IJ Jd,Jy,J3,.cons #[0] .nil],Ik];have KJ:nk l.prog w K mg base 2 HV "of" [.int 1] (iR HV HR):=#[#[43,_,_,_,_,vD J4 Ie Ib JF IJ Jd,J5,KC,.cons #[0] .nil],Ie];have KW:=N (K0.b Ik λF=>AH F KG)
 have KY:MtB l.prog w K mg base 3 HV "plus" (vL HV (· + ·)):=Lc.b Ie λF=>(yA F Ie Ib).mono #[]
 have J9:=M (d16.fb X G λF=>AQ F T J8 Ix KW KY KH KJ)
 have JT:∀n,n<=4->MtB l.prog w K mg base 10 C_Turning "put" (pJ HZ C_Turning n):=e_Turning_put.go λF M B=>Cp F T a1 U na_Turning_own_ring na_Turning_modulus na_Turning_becomes Iy Jv M B
 have KZ:=N (e_Turning_turned_level.b U λF=>Cm F T U na_Turning_own_ring na_Turning_bottom Ix Iy HX Ic JL JT KG av)
 have IP:MkB l.prog w K mg base 4 C_Turning "Turning" (eU true (g0 HU HV HZ C_Turning)):=e_Turning___init__.i e_Turning a2 λF=>(yD F T U na_Turning_own_ring na_Turning_modulus na_Turning_bottom na_Turning_becomes Ix Iy JJ JK HX Ic J7 Jg).imp λ_ _ _ _ h=>h.2
 have Ka:MtB l.prog w K mg base 12 C_Turning "turned" (eU true (Ai HU HV HZ C_Turning)):=e_Turning_turned.b U λF=>(xy F T U na_Turning_own_ring IM J9 KZ).imp λ_ _ _ _ h=>h.2
 have Jn:jY l.prog w K mg base 13 "turned_sum" (EC C_NoTurn HU HV HZ):=d20.fx X G λF=>B5 F (Z base) IP Ka
 have IU:jY l.prog w K mg base 13 "turned_table" (yd true C_NoTurn HU HV HZ):=d21.fx X G λF=>vV F (Z base) IP Ka
 have IR:CI l.prog w K mg base 1 "_law_class" (qb C_NoTurn):=defH X G d50 λF=>zk F T a6 IJ Kr K4 La a' a4 ad ac a9 a8 a5 x_NoTurn kv ko1 ko2 ko3 ko4 ko5 ko6 ko7 ko8 ko9 ko10
 have IZ:=M (d51.fb X G λF=>tG F Jn IU a3 IR Km ml)
 rwa[DW b3 T Jk HQ Jo IV KL IW JG Jp IX Jh IY JH IZ]
theorem walk{l:PySem.W.OpenLaw}{q:Program}{loose:List Str}{XP:(Str->Option Value)->Heap->Prop}{YP:World->Heap->Prop}{d:DefRec}{K:Params->Frag}(hn:l.most=some 63)(hdf:d.params.defaults=[])(hY:∀(w:World) (h:Heap),YP w h->(K w.params).In h)(F:∀(w:World) (mg:Str->Option Value) (fa:Addr) (h:Heap),(K w.params).In h->h.Ns mainGlobals mg->mg d.name=some (.ref fa)->
   ∃fd:FuncData,(∀(s:Shared) (u:Value),BindsTo s fd #[[u],[]] [("_law_script",u)])/\∀base:Heap,base.life={}->(K w.params).In base->base.Ns mainGlobals mg->Gd l.prog w (K w.params) mg base CX0 15 fa fd ["_law_script"] (v8 (K w.params))):
  PySem.W.WalkO q loose XP YP l.row.toRowW d [] (λf vs=>PySem.call f vs):=
 L2.walk_of (n:=63) (k:=15) (x := "_law_script") (CX:=λ_=>CX0) (sp:=λw=>v8 (K w.params)) hn #[] hdf (λ_=>#[#[λ_=>rfl,.inl rfl],#[],#[]]) hY F (λ_ _ a ns U _ O=>#[23,a,ns,1,O,U,λ_=>rfl]) λ_ _ _ _ _ z=>z
end K
namespace PySem.W.Fast
#print"*&rbKsbn&J;1,PDtKHS=Ch_sN};>u?F0|44nk8gP#D8?4c/Rc,<cNqcrIqY'<2Sbwf>n28G{IW>FE1+*Kmyt0()3)}(7<x<mQ.CyB2V9j,/4is?#vDCgVK>_?O-z_=*s:T8xxDnG>Fo1*z$*T)/n5KF7~(u<R.vrIjv1xt|Yi*C/QXrC+S;q<DJ8wtP>WN62wji1_v-PAM[4M*N}tPJ1-F)s>a8w8XI2wk/Mqu)'{3^Mmx3A(G%q?r98?&Gzr0w9^*%V;@#?hk0*UP.v*R(WHQd#.|~H*s(QD}2vQ/rr_Ddl.sAe*E{0BXLxSQ$lwPEq3zl2J;uu.]@n&V>|Eqq]G$ZkqEt9S%-^nK:Ru3ij*gh)eVan2*1Bd.cyGPO)&-^<Cg%QHSHR]&tqlYkV@IE}hn/g4n6>mSCp11f10ADFV%%Nh}66Ru8EDkvIMJ<<[:H9%YA&76i_T6iBK=8+j~32L-)4>_SjP*Qy38WQ}dQA1_'YZxi&Y_7c%SCm~GKalhJ)dC;{Uwo(EeiRn)q?;B0LbyY+=*3/-^`dDE~5+5=J^]@gga.YIa%MtaBKB(/;#j|#dRGkKy0EZ0'/9-,qlLNe(Ck)Kb4aw:Q%4X0Mx(,|8-+<6udkV{{dXM&](QO7^h&9,<^@&DAU4q@6q{b.O)h5+F_72QQnc_DwM5(<uvpXEoy%A1zUI72Z;w&l>s*f/4RdE>mQ5xHacQ4l~RS^Jjw$}28o}J@9Hblm2-Cb$B%S?<eej>)S'^PY2c#C2Qd5gmkjmT'5BQ$1tX'GB?/JktCZ8fDQX?V6=M8S7grB(rY+ta1>jy7~9pr_FD:>th-Y'QM'-f#QBkvV3DBT[+]1?zEe.oKG~BR.#l_;wV-Z>TMITHi]tx'(JPXL*Vr*n?&(6e/,/)<s5I#v8X$adu)E%2=G=2-+/+`'x:xq,V2{%EilIJ7R@YE$sp?)6p6c[Nzn#&X-D|]BS|L;y{?x3[l&KOr4LHCn%(jsAF?28Wsbdcg_;e`)G0qp[WFd%y~.UfMZ*T8.t`A5~jIpyrG_$F',:sU6wdvzbs5KV+L1Aj9A#'N&4Ewh-o0TO%NI5IJJ#ThCl_<Ig|*aImsq_?sv.@A-3{/uy.9Ef7?6S<#JF|FUB+q4VD83*l_J{&hH(:gF,xIM^ID[`RxF^2d)<t0bW.wYc:LZX*?<H~A+LaJ~r{Vel86$,5x[Fv1I8;dIgPL<mQ5|<CHMpxorJ)>wKsqBVD5F6sc`e-OI2U$<<[za#d5|{F.UUyzo9~.*U2bGnAJ|k7jjQ1AW.7>t-+LYd@JV*=uxj#@T*[K/YY?,=oA)9V5]qHT/2}'jPntAjFCXw:AHp[*2A.fM<8ua'm@KE-B>xsf:4PLO{.gCQ=M>%T]_?|'c3OCpWME{>z+((5#<CU+dM-pU[w(S2'CP|u&SN1'D>0.[PikpBK9qEa}4XI(*I4}RyR6DFuC0Kj{WiIY<&c8GB84'rp'1T6VuemY]IFj/|Ws';I/c+10zFB@.3lqP$,mZ@_LvnDR-be)n7C.IWu54h-3`F]<sC*jw6l=gFn3Y.$3CZU7J5PR/99H+I@v{_E>%1z_Nt9%t$*i+,i*D}-(Q?/9WvN'/L%V{0qUCDdEo+1)3Jlr[C'>1cUo1(xC>mLw*;'O)Jgwu8_2kJd%}lG9=L,#%)w]zk>X4TQM(7;etpUTCI.v~cvTc+DJ1n0=e%^,*()w1|<BJGUH{vPH]BdCO(tt<$K:6{E0CU6(|R62&<LYxQeAwF93t|Ji.oC=z,qdhf`v}&3B68c}fp+aq/83+ob`GsrC.1HKQw9>L4knuPDA&W%5nlIN>L>Bk@-XBWs#ntz<WUDZfJSsbJ*Ur^8zH94#P$}KE0=NQF=Zq?k{Di$,(67b`t$5}LJs<dm-7}O3?0z8XO#{K,O_[hZVYP4({Q9O6iSZ?+H~$8ZOE=q.`F(U_|):[)rp2:Fl5-FBsMEd0D5(9>@AEr(wVn}/-|.Eo(+8u#`p_DY5Jn&I'eL-I^GB2M8RpOA6&5dC8GEC70q@)L7=GylfRdN8b;Il4&M8S.lTWh[BjGh3lSKqSI4}'49LHx2jAN*BspkJuDY'D)6S{RO#R,RH$#9bK,'I=4>p-b;bdn&<Z%SH0l*?7*X_h)WE:^d?-U`<h|sK2E]oM~mDQDqDnGx@?ITs7.->CNU&w#@8X<;rAY{D<>Aza}5Qm=r:jS-fD^E[kDzGezUZLz)@Fp>O_cw7r>A6idu>}N:8A5d+b1;k/4)W.[p6AvB>~I@?8{KvO*h&|md&%pF7Klmk+{E$jF;:hhx[;ufCIx'QEu:nN+7d`_e#<BJ&2o2H:cyAU-lDbi&#e2B@Z_$[DHWM>&ZU,KTg6#&I/3$l5Gxg$/+9V@*`,1YCE~du3&hph>A?sLXk_<ZCSmSjwR_?K2]J1Juxz/=)N<nBE4tf55?]~B.#AwdB.Z'zS@yjREdLgs.T|onJIol+(R70;*OMY3<4SGsA?f]$p]S/M6uh#mZVhh]#/0M4%KIy|Ds@RO[_|h<3&R7~_S*%vF'9$zgfbN'&9_ZUY<xaQIj|$U5KhzN*+J7g{nhtf%Fl)_k@Hl.6I,1{*nX6$1z_olV]*8t?D?H]C&_$w8$n90P@dIoF)2dQs8nV{$A<YWU=-D.B?0g?.s|f49Er]MsEGfl+}Y~3y;_x).D2X|y'Ira<S6`[kzjou=nKf='1G,Y1<RgqI^3.kICl&hzmigE>hi}hJjEgs"
end PySem.W.Fast
open PySem PySem.W PyProof.Rows
set_option maxRecDepth 100000 in
set_option maxHeartbeats 0 in
theorem PySem.Challenge.cw_relationladder_k50_no_turns_holds : PySem.Challenge.rw_relationladder_k50_no_turns.Holds := by
 w_on;o_law;k_head;(case hw=>w_witness2)
 k_fill
 erw[K.walk (l:=PySem.Challenge.rw_relationladder_k50_no_turns) rfl rfl (λw h Y=>PySem.W.kIn_of Y) ?F]
 case F=>
  intro w mg Z h U G O;refine' K.all_mk U G O ..
  any_goals first|(refine' L2.DefIn.mk ?a ?l ?c ?k;(case a=>k_is);(case l=>k_is);(case c=>k_is);(case k=>k_is))|(refine' L2.MethIn.mk ?a ?i ?l ?c ?k;(case a=>k_is);(case i=>k_is);(case l=>k_is);(case c=>k_is);(case k=>k_is))|(refine' L2.ClsIn.mk ?a ?b ?c ?d ?e ?f ?g;(case a=>k_is);(case b=>k_is);(case c=>k_is);(case d=>k_is);(case e=>k_is);(case f=>k_is);(case g=>k_is))|(refine' L2.XCl.mk ?a ?b ?c ?d ?e ?f ?g ?h;(case a=>show PySem.W.excIn _ _ _ _=true;first|k_is|k_exc);(case b=>k_is);(case c=>k_is);(case d=>k_is);(case e=>k_is);(case f=>k_is);(case g=>k_is);(case h=>k_is))|k_is|k_exc|kit_is|kts_exm
