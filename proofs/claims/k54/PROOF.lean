import PyProof.Rows.All
import Wide.All
import OpenK.AllK
import Wide.FinOn
import Lean
import PyProof.EqAt
import PyProof.EqKinds
import PyProof.TupleCall
import KE.KMinKey
import PySem.Challenge.RW_relationladder_k54_no_texts
set_option Elab.async false
set_option linter.all false
set_option maxRecDepth 100000
open PySem.W (instObj hideAll hideAll_get of_hideAll Frag lookIn plainGet hasDictIn findIn isFn plainOver makesIn emptyDict looks_findIn Looks keepIn specialIn takesIn mroIn kitOne kia_one callWith_K fnOf codeIn excIn nsIn mg_of mg_none_of)
open List (filterMap_cons mem_cons_self mem_cons_of_mem mem_append_left getElem_inj mem_append_right length_cons map_cons length_map append_nil of_mem_zip length_take getElem?_append_right getElem?_append_left getElem?_map mem_of_getElem? length_append length_replicate zip_cons_cons length_nil map_nil length_drop size_toArray length_set length_singleton length_dropLast forIn_cons lookup_cons all_eq_true forIn_nil mem_cons not_mem_nil getD_eq_getElem?_getD getElem?_eq_getElem take_succ take_of_length_le length_range find?_cons any_cons map_append length_reverse ext_getElem getElem_map getElem_range reverse_perm ext_getElem? getElem?_eq_none map_map range_succ all_map take_add_one mem_of_mem_take take_length range'_succ filter_cons append_assoc drop_of_length_le drop_eq_getElem_cons drop_zero drop_left sum_cons flatMap_append flatMap_cons nil_append map_id map_replicate foldlM_append map_const' map_set eq_of_mem_replicate mem_of_mem_drop map_tail)
open PySem.Heap (lt_size get?_push_of_some get?_push_size size_push get?_update_self get?_update_other)
namespace L2
open PySem PySem.Spec PyProof.Rows
abbrev Key:=Sum Int Str
def pA:Key->Value->Bool
 |.inl k,v=>Value.isInt k v
 |.inr x,v=>Value.isStrOf x v
def keyH(w:World):Key->Int
 |.inl k=>hashInt k
 |.inr x=>hashStr w x
theorem cg:∀{k:Key} {v:Value},pA k v=true->(∃i t,k=Sum.inl i/\v=Value.int i t)\/(∃x t,k=Sum.inr x/\v=Value.str x t)
 |.inl i,v,h=>by
  obtain⟨t,e⟩:=Value.isInt_shape (k:=i) (v:=v) h;exact .inl ⟨i,t,rfl,e⟩
 |.inr x,v,h=>by
  obtain⟨t,e⟩:=Value.isStrOf_shape (x:=x) (v:=v) h;exact .inr ⟨x,t,rfl,e⟩
theorem wN(i:Int)(t:Tok):pA (.inl i) (.int i t)=true:=by simp[pA,Value.isInt]
theorem xX(x:Str)(t:Tok):pA (.inr x) (.str x t)=true:=by simp[pA,Value.isStrOf]
theorem Eg(a b:Int):decide ((Sum.inl a:Key)=Sum.inl b)=(a==b):=by
 by_cases e:a=b
 ·subst e;simp
 ·have h:¬(Sum.inl a:Key)=Sum.inl b:=λq=>e (Sum.inl.inj q)
  rw[decide_eq_false h];exact(beq_eq_false_iff_ne.mpr e).symm
theorem EL(a b:Str):decide ((Sum.inr a:Key)=Sum.inr b)=decide (a=b):=by
 by_cases e:a=b
 ·subst e;simp
 ·have h:¬(Sum.inr a:Key)=Sum.inr b:=λq=>e (Sum.inr.inj q)
  rw[decide_eq_false h,decide_eq_false e]
theorem D2(a:Int)(b:Str):decide ((Sum.inl a:Key)=Sum.inr b)=false:=decide_eq_false (λq=>nomatch q)
theorem EI(a:Str)(b:Int):decide ((Sum.inr a:Key)=Sum.inl b)=false:=decide_eq_false (λq=>nomatch q)
def cH(prog:Program)(w:World):PySem.KeyKind prog w Key where
 is:=pA
 hash:=keyH w
 inj:=λv a b ha hb=>by
  rcases cg ha with⟨i,t,rfl,rfl⟩|⟨x,t,rfl,rfl⟩
  ·rcases cg hb with⟨j,u,rfl,e⟩|⟨y,u,rfl,e⟩
   ·injection e with e1 _;rw[e1]
   ·exact nomatch e
  ·rcases cg hb with⟨j,u,rfl,e⟩|⟨y,u,rfl,e⟩
   ·exact nomatch e
   ·injection e with e1 _;rw[e1]
 byValue:=λk v h=>by
  rcases cg h with⟨i,t,rfl,rfl⟩|⟨x,t,rfl,rfl⟩<;>rfl
 pyHash:=λhv h=>by
  rcases cg hv with⟨i,t,rfl,rfl⟩|⟨x,t,rfl,rfl⟩
  ·exact wpAny_pyHash_int h
  ·exact wpAny_pyHash_str h
 eqBool:=λhu hv h=>by
  rcases cg hu with⟨i,t,rfl,rfl⟩|⟨x,t,rfl,rfl⟩
  ·rcases cg hv with⟨j,u,rfl,rfl⟩|⟨y,u,rfl,rfl⟩
   ·rw[Eg] at h;exact wpAny_eqBool_int h
   ·rw[D2] at h;exact SeqAt.EqAt.int_str i t y u _ _ _ _ h
  ·rcases cg hv with⟨j,u,rfl,rfl⟩|⟨y,u,rfl,rfl⟩
   ·rw[EI] at h;exact SeqAt.EqAt.str_int x t j u _ _ _ _ h
   ·rw[EL] at h;exact wpAny_eqBool_str h
 «strs»:=λk x t v h=>by
  rcases cg h with⟨i,u,rfl,e⟩|⟨y,u,rfl,e⟩
  ·exact nomatch e
  ·injection e with e1 _
   subst e1;cases v<;>rfl
theorem rh(prog:Program)(w:World)(i:Int)(t:Tok):(cH prog w).is (.inl i) (.int i t)=true:=wN i t
theorem sJ(prog:Program)(w:World)(x:Str)(t:Tok):(cH prog w).is (.inr x) (.str x t)=true:=xX x t
inductive V where
 |non|bl (b:Bool)|int (i:Int)|str (x:Str)|byt (b:Array UInt8)|flt (b:UInt64)|ref (a:Addr)|ty (n:String)
 deriving DecidableEq
def F4:V->Value->Prop
 |.non,u=>u=Value.none
 |.bl b,u=>u=Value.bool b
 |.int i,u=>∃t,u=Value.int i t
 |.str x,u=>∃t,u=Value.str x t
 |.byt b,u=>∃t,u=Value.bytes b t
 |.flt b,u=>∃t,u=Value.float b t
 |.ref a,u=>u=Value.ref a
 |.ty n,u=>u=Value.type n
abbrev F1:List V->List Value->Prop:=Paired F4
theorem F1.length{xs:List V}{us:List Value}(r:F1 xs us):xs.length=us.length:=Paired.length r
theorem F1.get:∀{xs:List V} {us:List Value} {i:Nat} {x:V},F1 xs us->xs[i]? = some x->∃u,us[i]? = some u/\F4 x u
 |_,_,_,_,.nil,e=>by simp at e
 |_,_,0,_,.cons r _,e=>by simp at e;subst e;exact⟨_,rfl,r⟩
 |_,_,i+1,x,.cons _ t,e=>by
  obtain⟨u,h1,h2⟩:=F1.get (i:=i) (x:=x) t (by simpa using e)
  exact⟨u,by simpa using h1,h2⟩
theorem F1.set{x:V}{u:Value}(r:F4 x u):∀{xs:List V} {us:List Value} (i:Nat),F1 xs us->F1 (xs.set i x) (us.set i u)
 |_,_,_,.nil=>.nil
 |_,_,0,.cons _ t=>.cons r t
 |_,_,i+1,.cons q t=>.cons q (F1.set r i t)
theorem F1.append:∀{xs ys:List V} {us ws:List Value},F1 xs us->F1 ys ws->F1 (xs++ys) (us++ws)
 |_,_,_,_,.nil,s=>s
 |_,_,_,_,.cons r t,s=>.cons r (F1.append t s)
theorem F1.take:∀{xs:List V} {us:List Value} (n:Nat),F1 xs us->F1 (xs.take n) (us.take n)
 |_,_,0,_=>.nil
 |_,_,_+1,.nil=>.nil
 |_,_,n+1,.cons r t=>.cons r (F1.take n t)
theorem F1.drop:∀{xs:List V} {us:List Value} (n:Nat),F1 xs us->F1 (xs.drop n) (us.drop n)
 |_,_,0,r=>r
 |_,_,_+1,.nil=>.nil
 |_,_,n+1,.cons _ t=>F1.drop n t
def RelO:Option V->Option Value->Prop
 |some v,some u=>F4 v u
 |none,none=>True
 |_,_=>False
def KV{κ:Type}:List (κ×V)->List (κ×Value)->Prop:=Paired λ(p:κ×V) (q:κ×Value)=>p.1=q.1/\F4 p.2 q.2
def kV:Key->V
 |.inl i=>.int i
 |.inr x=>.str x
inductive HO where
 |lst (xs:List V)
 |tup (xs:List V)
 |dK (kvs:List (Key×V))|dT (kvs:List (List Key×V))
 |set (S:Int->Bool) (n:Nat)
 |ins (C dx:Addr) (fs:List (Str×V))
 |own (x:Addr)
 |xd (fs:List (Str×V))
 |met (f x:Addr)
 |rng (lo hi:Int)
 |frz (o:Obj) (u:HO)
 |tbl (ps:Array Value)
 |ext (φ:Heap->Prop)
abbrev Hp:=Addr->Option HO
def upd(H:Hp)(a:Addr)(o:HO):Hp:=λb=>if b=a then some o else H b
theorem FY{H:Hp}{a:Addr}{o:HO}:upd H a o a=some o:=by unfold upd;rw[if_pos rfl]
theorem ar{H:Hp}{a b:Addr}{o:HO}(h:b≠a):upd H a o b=H b:=by unfold upd;rw[if_neg h]
theorem vi{H:Hp}{a:Addr}{o u:HO}:upd (upd H a o) a u=upd H a u:=by
 funext b;unfold upd;split<;>rfl
theorem iM{H:Hp}{a b:Addr}{o u:HO}(h:H a=some o)(h':H b=some u)(d:o≠u):a≠b:=by
 intro e;subst e;rw[h] at h';exact d (Option.some.inj h')
theorem al{H:Hp}{a b:Addr}{o:HO}(h:H a=some o)(h':H b=none):a≠b:=by
 intro e;subst e;rw[h] at h';cases h'
section
variable (P:Program) (w:World)
def F6(H:Hp)(h:Heap)(a:Addr):HO->Prop
 |.lst xs=>xs.length<=sizeLine/\∃(its:List Value) (n:Nat),F1 xs its/\h.get? a=some { cls:=.type "list",data:=.seq its.toArray n }
 |.tup xs=>xs.length<=sizeLine/\∃its:List Value,F1 xs its/\IsTup h a its.toArray
 |.dK kvs=>kvs.length<=sizeLine/\(a==sysModules)=false/\∃vs,KV kvs vs/\h.DictOf (cH P w) a vs
 |.dT kvs=>kvs.length<=sizeLine/\(a==sysModules)=false/\∃xs:List (List Key×Addr×Value),
   Paired (λ(p:List Key×V) (q:List Key×Addr×Value)=>p.1=q.1/\H q.2.1=some (.tup (p.1.map kV))/\F4 p.2 q.2.2) kvs xs/\
   ∃o es ep,h.get? a=some o/\o.ExactDict/\o.data=.dict es ep/\es.toList=xs.map (entryOfKey (tupleKind (cH P w)))/\(xs.map (·.1)).Nodup
 |.set S n=>h.SetOf (intKind P w) a S n
 |.ins C dx fs=>H dx=some (.own a)/\fs.length<=1000/\dx≠a/\h.get? a=some (instObj C dx)/\
   ∃mA,h.Ns1 dx mA/\(∀f,RelO (fs.lookup f) (mA f))/\PySem.Within mA (fs.map (·.1))
 |.own _=>∃o,h.get? a=some o
 |.xd fs=>∃mA,h.Ns1 a mA/\∀f,RelO (fs.lookup f) (mA f)
 |.rng lo hi=>∃t u v,h.get? a=some { cls:=.type "range",data:=.fields #[.int lo t,.int hi u,.int 1 v] }
 |.frz o u=>h.get? a=some o/\F6 H h a u
 |.tbl ps=>h.get? a=some { cls:=.none,data:=.fields ps }
 |.met f x=>h.get? a=some (PySem.W.methodObj (.ref f) (.ref x))
 |.ext φ=>φ h/\(∃o,h.get? a=some o)/\∀h1 h2:Heap,φ h1->(∀o,h1.get? a=some o->h2.get? a=some o)->φ h2
def HOk(H:Hp)(h:Heap):Prop:=∀a o,H a=some o->F6 P w H h a o
end
section
variable {P:Program} {w:World} {H H':Hp} {h h':Heap} {a:Addr} {o:HO}
theorem F6.lt(x:F6 P w H h a o):a<h.objs.size:=by
 cases o with
 |lst xs=>obtain⟨_,_,_,_,e⟩:=x;exact lt_size e
 |tup xs=>obtain⟨_,_,_,p⟩:=x;exact p.lt
 |dK kvs=>obtain⟨_,_,_,_,o,_,_,e,_⟩:=x;exact lt_size e
 |dT kvs=>obtain⟨_,_,_,_,o,_,_,e,_⟩:=x;exact lt_size e
 |set S n=>obtain⟨o,_,_,_,e,_⟩:=x;exact lt_size e
 |ins C dx fs=>obtain⟨_,_,_,e,_⟩:=x;exact lt_size e
 |own y=>obtain⟨_,e⟩:=x;exact lt_size e
 |xd fs=>obtain⟨_,⟨_,_,_,e,_⟩,_⟩:=x;exact lt_size e
 |rng lo hi=>obtain⟨_,_,_,e⟩:=x;exact lt_size e
 |frz ob u=>obtain⟨e,_⟩:=x;exact lt_size e
 |tbl ps=>exact lt_size (show h.get? a=some _ from x)
 |met f y=>exact lt_size (show h.get? a=some _ from x)
 |ext φ=>obtain⟨_,⟨_,e⟩,_⟩:=x;exact lt_size e
theorem Paired.mapP{α β:Type}{F G:α->β->Prop}:∀{l₁:List α} {l₂:List β},Paired F l₁ l₂->(∀a b,F a b->G a b)->Paired G l₁ l₂
 |_,_,.nil,_=>.nil
 |_,_,.cons r t,f=>.cons (f _ _ r) (Paired.mapP t f)
theorem F6.stay(x:F6 P w H h a o)(k:∀b u,(b=a\/H b=some (.own a))->h.get? b=some u->h'.get? b=some u)
  (ho:∀b,H b=some (.own a)->H' b=some (.own a)) (ht:∀b xs,H b=some (.tup xs)->H' b=some (.tup xs)):F6 P w H' h' a o:=by
 induction o with
 |lst xs=>obtain⟨z,its,n,r,e⟩:=x;exact⟨z,its,n,r,k _ _ (.inl rfl) e⟩
 |tup xs=>obtain⟨z,its,r,ob,e,c⟩:=x;exact⟨z,its,r,ob,k _ _ (.inl rfl) e,c⟩
 |dK kvs=>obtain⟨z,y,vs,r,ob,es,ep,e,c⟩:=x;exact⟨z,y,vs,r,ob,es,ep,k _ _ (.inl rfl) e,c⟩
 |dT kvs=>
  obtain⟨z,y,xs,r,ob,es,ep,e,c⟩:=x;exact⟨z,y,xs,Paired.mapP r λp q z=>⟨z.1,ht _ _ z.2.1,z.2.2⟩,ob,es,ep,k _ _ (.inl rfl) e,c⟩
 |set S n=>obtain⟨ob,es,ep,t,e,c⟩:=x;exact⟨ob,es,ep,t,k _ _ (.inl rfl) e,c⟩
 |ins C dx fs=>
  obtain⟨d,z,ne,e,mA,⟨od,es,ep,e2,c⟩,r⟩:=x;exact⟨ho _ d,z,ne,k _ _ (.inl rfl) e,mA,⟨od,es,ep,k _ _ (.inr d) e2,c⟩,r⟩
 |own y=>obtain⟨ob,e⟩:=x;exact⟨ob,k _ _ (.inl rfl) e⟩
 |xd fs=>obtain⟨mA,⟨od,es,ep,e,c⟩,r⟩:=x;exact⟨mA,⟨od,es,ep,k _ _ (.inl rfl) e,c⟩,r⟩
 |rng lo hi=>obtain⟨t,u,v,e⟩:=x;exact⟨t,u,v,k _ _ (.inl rfl) e⟩
 |frz ob u ih=>obtain⟨e,q⟩:=x;exact⟨k _ _ (.inl rfl) e,ih q⟩
 |tbl ps=>
  have e:h.get? a=some { cls:=.none,data:=.fields ps }:=x;show h'.get? a=some { cls:=.none,data:=.fields ps }
  exact k a _ (.inl rfl) e
 |met f y=>
  have e:h.get? a=some (PySem.W.methodObj (.ref f) (.ref y)):=x;show h'.get? a=some (PySem.W.methodObj (.ref f) (.ref y));exact k a _ (.inl rfl) e
 |ext φ=>obtain⟨p,⟨o,e⟩,st⟩:=x;exact⟨st _ _ p λo q=>k _ _ (.inl rfl) q,⟨o,k _ _ (.inl rfl) e⟩,st⟩
theorem HOk.lt(x:HOk P w H h)(e:H a=some o):a<h.objs.size:=(x a o e).lt
theorem HOk.fresh(x:HOk P w H h)(e:h.objs.size<=a):H a=none:=by
 cases q:H a with
 |none=>rfl
 |some u=>exact absurd (Nat.lt_of_lt_of_le (x.lt q) e) (Nat.lt_irrefl _)
theorem HOk.kept(x:HOk P w H h)(k:∀b u,h.get? b=some u->h'.get? b=some u):HOk P w H h':=λa o e=>
 (x a o e).stay (λb u _ q=>k b u q) (λ_ q=>q) λ_ _ q=>q
theorem HOk.laid(x:HOk P w H h)(k:∀b u,h.get? b=some u->h'.get? b=some u)(hp:h.objs.size<=a)(new:F6 P w (upd H a o) h' a o):HOk P w (upd H a o) h':=λb u e=>by
 have hn:=x.fresh hp
 by_cases hb:b=a
 ·subst hb;rw[FY] at e;cases e;exact new
 ·rw[ar hb] at e;exact(x b u e).stay (λc v _ q=>k c v q) (λc q=>by rw[ar (al q hn)];exact q) λc xs q=>by rw[ar (al q hn)];exact q
end
def Rd(H:Hp)(a:Addr)(u:HO):Prop:=H a=some u\/∃o,H a=some (.frz o u)
theorem Rd.ok{P:Program}{w:World}{H:Hp}{h:Heap}{a:Addr}{u:HO}(r:Rd H a u)(x:HOk P w H h):F6 P w H h a u:=by
 rcases r with r|⟨o,r⟩
 ·exact x a u r
 ·obtain⟨_,q⟩:=x a _ r;exact q
def Mut:Option HO->Prop
 |some (.lst _)=>True
 |some (.dK _)=>True
 |some (.dT _)=>True
 |some (.set _ _)=>True
 |some (.ins _ _ _)=>True
 |some (.ext _)=>True
 |_=>False
section
variable {P:Program} {w:World} {H:Hp} {h h':Heap} {x e:Addr} {o':HO}
theorem HOk.write(ok:HOk P w H h)(mu:Mut (H x))(he:e=x\/H e=some (.own x))(k:∀b u,b≠e->h.get? b=some u->h'.get? b=some u)(heo:∃u,h'.get? e=some u)
  (new:F6 P w (upd H x o') h' x o'):HOk P w (upd H x o') h':=λb u q=>by
 have nown:∀c y,H c=some (.own y)->c≠x:=λc y r z=>by subst z;rw[r] at mu;exact mu
 have ntup:∀c xs,H c=some (.tup xs)->c≠x:=λc xs r z=>by subst z;rw[r] at mu;exact mu
 by_cases hb:b=x
 ·subst hb;rw[FY] at q;cases q;exact new
 ·rw[ar hb] at q
  by_cases hbe:b=e
  ·have q':H b=some (.own x):=by
    rcases he with z|z
    ·exact absurd (hbe.trans z) hb
    ·rw[hbe];exact z
   rw[q] at q';cases q';obtain⟨v,hv⟩:=heo;exact⟨v,by rw[hbe];exact hv⟩
  ·refine(ok b u q).stay (λc v hc r=>k c v ?_ r) (λc r=>by rw[ar (nown c b r)];exact r) λc xs r=>by rw[ar (ntup c xs r)];exact r
   rcases hc with rfl|hc
   ·exact hbe
   ·rintro rfl
    rcases he with z|z
    ·exact nown c b hc z
    ·rw[hc] at z;cases z;exact hb rfl
end
structure Un (fs ex:List Addr) (H H':Hp) (h h':Heap):Prop where
 keep:∀b o,h.get? b=some o->H b=none->b∉fs->b∉ex->h'.get? b=some o
 slot:∀b o,h.get? b=some o->H b=none->b∈fs->b∉ex->∃sl,h'.get? b=some { o with slots:=sl }
 free:∀b o,h.get? b=some o->H b=none->b∉ex->H' b=none
 there:∀b o,h.get? b=some o->b∉ex->∃o',h'.get? b=some o'
 tups:∀b xs,H b=some (.tup xs)->H' b=some (.tup xs)
 frzs:∀b o u,H b=some (.frz o u)->H' b=some (.frz o u)
 tbls:∀b ps,H b=some (.tbl ps)->∃more,H' b=some (.tbl (ps++more))
section
variable {fs fs' ex ex':List Addr} {H H1 H2:Hp} {h h1 h2 h':Heap} {a x e:Addr} {o:HO}
theorem Un.any(u:Un fs ex H H1 h h1){b:Addr}{ob:Obj}(q:h.get? b=some ob)(n:H b=none)(hx:b∉ex):∃sl,h1.get? b=some { ob with slots:=sl }:=by
 by_cases hb:b∈fs
 ·exact u.slot b ob q n hb hx
 ·exact⟨ob.slots,u.keep b ob q n hb hx⟩
theorem Un.kept(k:∀b u,h.get? b=some u->h'.get? b=some u):Un fs ex H H h h':=
 ⟨λb ob q _ _ _=>k b ob q,λb ob q _ _ _=>⟨ob.slots,k b ob q⟩,λ_ _ _ n _=>n,λb ob q _=>⟨ob,k b ob q⟩,λ_ _ q=>q,λ_ _ _ q=>q,λ_ ps q=>⟨#[],by rw[q];simp⟩⟩
theorem Un.refl:Un fs ex H H h h:=Un.kept λ_ _ q=>q
theorem Un.laid(k:∀b u,h.get? b=some u->h'.get? b=some u)(hp:h.objs.size<=a)(hn:H a=none):Un fs ex H (upd H a o) h h' where
 keep:=λb u q _ _ _=>k b u q
 slot:=λb u q _ _ _=>⟨u.slots,k b u q⟩
 free:=λb u q n _=>by rw[ar (Nat.ne_of_lt (Nat.lt_of_lt_of_le (lt_size q) hp))];exact n
 there:=λb u q _=>⟨u,k b u q⟩
 tups:=λb xs q=>by rw[ar (al q hn)];exact q
 frzs:=λb u xs q=>by rw[ar (al q hn)];exact q
 tbls:=λb ps q=>⟨#[],by rw[ar (al q hn),q];simp⟩
theorem Un.write(mu:Mut (H x))(he:e=x\/H e=some (.own x))(k:∀b u,b≠e->h.get? b=some u->h'.get? b=some u)(heo:∃u,h'.get? e=some u):Un fs ex H (upd H x o) h h':=by
 have hx:∀b,H b=none->b≠x:=λb n z=>by subst z;rw[n] at mu;exact mu
 have hb:∀b,H b=none->b≠e:=λb n z=>by
  subst z
  rcases he with r|r
  ·exact hx b n r
  ·rw[n] at r;cases r
 have hm:∀b u,H b=some u->¬Mut (some u)->b≠x:=λb u q nm z=>by subst z;rw[q] at mu;exact nm mu
 refine⟨λb u q n _ _=>k b u (hb b n) q,λb u q n _ _=>⟨u.slots,k b u (hb b n) q⟩,λb u q n _=>by rw[ar (hx b n)];exact n,λb u q _=>?_,
  λb xs q=>by rw[ar (hm b _ q λz=>z)];exact q,λb u xs q=>by rw[ar (hm b _ q λz=>z)];exact q,λb ps q=>⟨#[],by rw[ar (hm b _ q λz=>z),q];simp⟩⟩
 by_cases hbe:b=e
 ·subst hbe;exact heo
 ·exact⟨u,k b u hbe q⟩
end
def trk(h:Heap)(H:Hp):List Addr:=(List.range h.objs.size).filter λa=>(H a).isSome
def p6(h:Heap)(H:Hp):Heap:=hideAll h (trk h H)
theorem xF(h:Heap)(H:Hp):(p6 h H).objs.size=h.objs.size:=PySem.W.hideAll_size _ _
theorem AS{h:Heap}{H:Hp}{b:Addr}{o:Obj}(e:h.get? b=some o)(n:H b=none):(p6 h H).get? b=some o:=
 hideAll_get _ e λhm=>by
  have q:(H b).isSome=true:=(List.mem_filter.mp hm).2;rw[n] at q;simp at q
theorem BD{h:Heap}{H:Hp}{b:Addr}{o:Obj}(e:(p6 h H).get? b=some o):h.get? b=some o/\H b=none:=by
 have e':h.get? b=some o:=of_hideAll (trk h H) e;refine⟨e',?_⟩;cases q:H b with
 |none=>rfl
 |some x=>
  have hm:b∈trk h H:=List.mem_filter.mpr ⟨List.mem_range.mpr (lt_size e'),by simp[q]⟩
  have z:(p6 h H).get? b=none:=PySem.W.hideAll_none (trk h H) hm;rw[z] at e;cases e
structure Mod (K:Frag) (mg:Str->Option Value) (base:Heap):Prop where
 kin:K.In base
 glob:base.Ns mainGlobals mg
 blt:∃mb,base.Ns builtinsNs mb/\∀x:Str,x≠"__name__"->mb x=bootBuiltins x
 nolimit:base.NoLimit
structure Cx where
 prog:Program
 w:World
 K:Frag
 mg:Str->Option Value
 base:Heap
 A:Around
 N:List Str
 s₀:Shared
 H₀:Hp
 env:Env
 outer:List Env
 stack:List Env
 ex:List Addr
 fn:Str->Bool
 calm:Bool
 pn:List (Addr×Obj)
 xe:Value->Shared->Prop
def frs(l:List Env):List Addr:=l.filterMap (·.frame)
abbrev Cx.fs(X:Cx):List Addr:=frs X.outer
def Vis(sc:Scope)(x:Str):Prop:=sc.names.lookup x=some .local\/sc.names.lookup x=some .cell\/sc.names.lookup x=some .free
def Loc(sc:Scope)(x:Str):Prop:=sc.names.lookup x=some .local\/sc.names.lookup x=some .cell
def Look(env:Env)(h:Heap)(m:Str->Option Value)(x:Str)(u:Value):Prop:=
 (env.kindOf x=some .local/\m x=some u)\/((env.kindOf x=some .cell\/env.kindOf x=some .free)/\∃c,env.cells.lookup x=some c/\h.IsCell c (some u))
structure Cx.Ok (X:Cx):Prop where
 mod:Mod X.K X.mg X.base
 kind:X.env.scope.kind=.function
 glob:X.env.globals=mainGlobals
 blt:X.env.builtins=builtinsNs
 above:X.s₀.heap.objs.size<=X.env.locals
 inj:∀x y c,X.env.cells.lookup x=some c->X.env.cells.lookup y=some c->x=y
 has:∀x,(X.env.kindOf x=some .cell\/X.env.kindOf x=some .free)->∃c,X.env.cells.lookup x=some c
 cab:∀x c,X.fn x=true->X.env.cells.lookup x=some c->X.s₀.heap.objs.size<=c
 hd:X.calm=true->X.A.handled=none
 frames:X.A.frames=some X.stack
 stk:X.stack=X.outer\/(X.stack=X.env::X.outer/\X.env.frame=some X.env.locals)
 exf:∀b∈X.ex,b≠X.env.locals/\∀x c,X.env.cells.lookup x=some c->c≠b
 bs:∀b o,X.base.get? b=some o->X.s₀.heap.get? b=some o/\X.H₀ b=none
 bsz:X.base.objs.size<=X.s₀.heap.objs.size
 noex:∀b o,X.base.get? b=some o->b∉X.ex
 exfs:∀b∈X.ex,b∉X.fs
 funs:X.s₀.heap.FunFrames X.base X.outer
 frf:∀b∈X.fs,X.H₀ b=none
structure Inv (X:Cx) (pins:List (Addr×Obj)) (σ:List (Option V)) (H:Hp) (s:Shared):Prop where
 ok:X.Ok
 os:s.os=X.s₀.os
 bare:AllBare s.gens
 base:Un X.fs X.ex X.H₀ H X.s₀.heap s.heap
 loc:∃m,s.heap.Ns X.env.locals m/\∀(i:Nat) (x:Str) (v:V),X.N[i]? = some x->σ[i]? = some (some v)->Vis X.env.scope x->∃u,F4 v u/\Look X.env s.heap m x u
 cell:∀x c,X.env.cells.lookup x=some c->∃v,s.heap.IsCell c v
 free:H X.env.locals=none
 freeC:∀x c,X.env.cells.lookup x=some c->H c=none
 pin:∀p∈X.pn++pins,s.heap.get? p.1=some p.2/\H p.1=none/\p.1≠X.env.locals/\p.1∉X.fs/\∀v,p.2.data≠.cell v
 hok:HOk X.prog X.w H s.heap
 len:σ.length=X.N.length
section
variable {X:Cx} {pins:List (Addr×Obj)} {σ:List (Option V)} {H H':Hp} {s:Shared} {h':Heap}
theorem Cx.Ok.nofr(ok:X.Ok){b:Addr}{o:Obj}(e:X.base.get? b=some o):b∉X.fs:=λhb=>by
 have:=(ok.funs.mem hb).1;rw[e] at this;cases this
theorem Inv.bs(I:Inv X pins σ H s):∀b o,X.base.get? b=some o->s.heap.get? b=some o/\H b=none:=λb o e=>
 ⟨I.base.keep b o (I.ok.bs b o e).1 (I.ok.bs b o e).2 (I.ok.nofr e) (I.ok.noex b o e),I.base.free b o (I.ok.bs b o e).1 (I.ok.bs b o e).2 (I.ok.noex b o e)⟩
theorem Inv.bk(I:Inv X pins σ H s):∀b o,X.base.get? b=some o->s.heap.get? b=some o:=λb o e=>(I.bs b o e).1
theorem Inv.mod(I:Inv X pins σ H s):Mod X.K X.mg X.base:=I.ok.mod
theorem Inv.kIn(I:Inv X pins σ H s):X.K.In s.heap:=I.ok.mod.kin.keeps I.bk
theorem Inv.lt(I:Inv X pins σ H s):X.env.locals<s.heap.objs.size:=let ⟨_,hn,_⟩:=I.loc;hn.lt
theorem Inv.sz(I:Inv X pins σ H s):X.s₀.heap.objs.size<=s.heap.objs.size:=Nat.le_trans I.ok.above (Nat.le_of_lt I.lt)
theorem Inv.nofs(I:Inv X pins σ H s){a:Addr}(h:s.heap.objs.size<=a):a∉X.fs:=λhb=>by
 obtain⟨_,o,ho,_⟩:=I.ok.funs.mem hb;exact absurd (Nat.lt_of_lt_of_le (lt_size ho) (Nat.le_trans I.sz h)) (Nat.lt_irrefl _)
theorem Inv.cne(I:Inv X pins σ H s):∀x c,X.env.cells.lookup x=some c->c≠X.env.locals:=λx c e z=>by
 obtain⟨v,o,ho,hd⟩:=I.cell x c e;obtain⟨m,⟨o',es,ep,ho',hd',_⟩,_⟩:=I.loc;rw[z,ho'] at ho;cases ho;rw[hd'] at hd;cases hd
theorem Inv.funs(I:Inv X pins σ H s):s.heap.FunFrames X.base X.outer:=by
 have all:∀(l:List Env),(∀b∈frs l,b∈X.fs)->X.s₀.heap.FunFrames X.base l->s.heap.FunFrames X.base l:=by
  intro l
  induction l with
  |nil=>intro _ _;trivial
  |cons env r ih=>
   intro hs hl;obtain⟨hk,⟨L,o,hf,hn,ho,hd⟩,hr⟩:=hl;have hL:L∈X.fs:=hs L (by unfold frs;rw[filterMap_cons,hf];exact mem_cons_self)
   obtain⟨sl,e⟩:=I.base.slot L o ho (I.ok.frf L hL) hL λz=>I.ok.exfs L z hL
   exact⟨hk,⟨L,_,hf,hn,e,hd⟩,ih (λb hb=>hs b (by unfold frs;rw[filterMap_cons,hf];exact mem_cons_of_mem _ hb)) hr⟩
 exact all X.outer (λ_ hb=>hb) I.ok.funs
theorem Inv.stack(I:Inv X pins σ H s):s.heap.FunFrames X.base X.stack:=by
 rcases I.ok.stk with e|⟨e,hf⟩
 ·rw[e];exact I.funs
 ·rw[e];obtain⟨m,hn,_⟩:=I.loc;refine .cons (by rw[I.ok.kind];decide) hf hn ?_ I.funs
  exact Heap.get?_none_of_le (Nat.le_trans I.ok.bsz I.ok.above)
theorem Inv.stkSub(I:Inv X pins σ H s):∀b∈frs X.stack,b∈X.env.locals::X.fs:=λb hb=>by
 rcases I.ok.stk with e|⟨e,hf⟩
 ·rw[e] at hb;exact mem_cons_of_mem _ hb
 ·rw[e] at hb;unfold frs at hb;rw[filterMap_cons,hf] at hb;exact hb
theorem Inv.stkFree(I:Inv X pins σ H s):∀b∈frs X.stack,H b=none:=λb hb=>by
 rcases List.mem_cons.mp (I.stkSub b hb) with e|hb
 ·rw[e];exact I.free
 ·obtain⟨_,o,ho,_⟩:=I.ok.funs.mem hb;exact I.base.free b o ho (I.ok.frf b hb) λz=>I.ok.exfs b z hb
theorem Inv.step{g':Array GenState}{t':Nat}{d':Drawn}{ch:List Addr}(I:Inv X pins σ H s)
  (hch:∀b∈ch,(b∈X.ex\/X.s₀.heap.objs.size<=b)/\b≠X.env.locals/\(∀x c,X.env.cells.lookup x=some c->c≠b)/\∀p∈X.pn++pins,p.1≠b)
  (keep:∀b o,b≠X.env.locals->b∉X.fs->b∉ch->s.heap.get? b=some o->H b=none->h'.get? b=some o)
  (slot:∀b o,b≠X.env.locals->b∈X.fs->b∉ch->s.heap.get? b=some o->H b=none->∃sl,h'.get? b=some { o with slots:=sl }) (free:∀b o,b∉ch->s.heap.get? b=some o->H b=none->H' b=none)
  (there:∀b o,b∉ch->s.heap.get? b=some o->∃o',h'.get? b=some o')
  (tups:∀b xs,H b=some (.tup xs)->H' b=some (.tup xs)) (frzs:∀b o u,H b=some (.frz o u)->H' b=some (.frz o u)) (tbls:∀b ps,H b=some (.tbl ps)->∃more,H' b=some (.tbl (ps++more)))
  (ns:∀m,s.heap.Ns X.env.locals m->h'.Ns X.env.locals m) (hok:HOk X.prog X.w H' h') (hg:AllBare g') :
  Inv X pins σ H' { s with heap:=h',gens:=g',drawn:=d',toks:=t' }:=by
 have neL:∀b o,X.s₀.heap.get? b=some o->b≠X.env.locals:=λb o e=>Nat.ne_of_lt (Nat.lt_of_lt_of_le (lt_size e) I.ok.above)
 have neC:∀b o,X.s₀.heap.get? b=some o->b∉X.ex->b∉ch:=λb o e hx hb=>by
  rcases(hch b hb).1 with z|z
  ·exact hx z
  ·exact absurd (Nat.lt_of_lt_of_le (lt_size e) z) (Nat.lt_irrefl _)
 have cellK:∀x c,X.env.cells.lookup x=some c->∀v,s.heap.IsCell c v->h'.IsCell c v:=λx c e v ⟨o,ho,hd⟩=>by
  have nch:c∉ch:=λz=>(hch c z).2.2.1 x c e rfl
  by_cases hc:c∈X.fs
  ·obtain⟨sl,q⟩:=slot c o (I.cne x c e) hc nch ho (I.freeC x c e);exact⟨_,q,hd⟩
  ·exact⟨o,keep c o (I.cne x c e) hc nch ho (I.freeC x c e),hd⟩
 refine⟨I.ok,I.os,hg,⟨λb o e n hb hx=>?_,λb o e n hb hx=>?_,λb o e n hx=>?_,λb o e hx=>?_,λb xs e=>tups b xs (I.base.tups b xs e),λb o xs e=>frzs b o xs (I.base.frzs b o xs e),λb ps e=>?_⟩,?_,λx c e=>?_,?_,λx c e=>?_,λp hp=>?_,hok,I.len⟩
 ·exact keep b o (neL b o e) hb (neC b o e hx) (I.base.keep b o e n hb hx) (I.base.free b o e n hx)
 ·obtain⟨sl,e1⟩:=I.base.slot b o e n hb hx;obtain⟨sl',e2⟩:=slot b _ (neL b o e) hb (neC b o e hx) e1 (I.base.free b o e n hx);exact⟨sl',e2⟩
 ·obtain⟨o',e1⟩:=I.base.there b o e hx;exact free b o' (neC b o e hx) e1 (I.base.free b o e n hx)
 ·obtain⟨o',e1⟩:=I.base.there b o e hx;exact there b o' (neC b o e hx) e1
 ·obtain⟨m1,e1⟩:=I.base.tbls b ps e;obtain⟨m2,e2⟩:=tbls b _ e1;exact⟨m1++m2,by rw[e2,Array.append_assoc]⟩
 ·obtain⟨m,hn,hl⟩:=I.loc;refine⟨m,ns m hn,λi x v e1 e2 e3=>?_⟩
  obtain⟨u,r,l⟩:=hl i x v e1 e2 e3;refine⟨u,r,?_⟩
  rcases l with l|⟨k,c,e,z⟩
  ·exact .inl l
  ·exact .inr ⟨k,c,e,cellK x c e _ z⟩
 ·obtain⟨v,z⟩:=I.cell x c e;exact⟨v,cellK x c e v z⟩
 ·obtain⟨m,⟨o,_,_,ho,_⟩,_⟩:=I.loc;exact free _ o (λz=>(hch _ z).2.1 rfl) ho I.free
 ·obtain⟨v,o,ho,hd⟩:=I.cell x c e;exact free c o (λz=>(hch c z).2.2.1 x c e rfl) ho (I.freeC x c e)
 ·obtain⟨e,n,ne,nf,d⟩:=I.pin p hp;have nch:p.1∉ch:=λz=>(hch p.1 z).2.2.2 p hp rfl
  exact⟨keep p.1 p.2 ne nf nch e n,free p.1 p.2 nch e n,ne,nf,d⟩
theorem Inv.un{t':Nat}(I:Inv X pins σ H s)(u:Un X.fs [] H H' s.heap h')(hok:HOk X.prog X.w H' h'):Inv X pins σ H' { s with heap:=h',toks:=t' }:=by
 obtain⟨m,⟨o,es,ep,ho,r⟩,_⟩:=id I.loc;obtain⟨sl,hL⟩:=u.any ho I.free (by simp)
 exact I.step (g':=s.gens) (d':=s.drawn) (ch:=[]) (λ_ z=>nomatch z) (λb o _ hb _ e n=>u.keep b o e n hb (by simp)) (λb o _ hb _ e n=>u.slot b o e n hb (by simp)) (λb o _ e n=>u.free b o e n (by simp)) (λb o _ e=>u.there b o e (by simp)) u.tups u.frzs u.tbls (λm' hm=>by
  obtain⟨o',es',ep',ho',r'⟩:=hm;rw[ho] at ho';cases ho';exact⟨_,es',ep',hL,r'⟩) hok I.bare
theorem Inv.call{g':Array GenState}{t':Nat}{d':Drawn}{ch:List Addr}(I:Inv X pins σ H s)(u:Un (frs X.stack) ch H H' s.heap h')(hok:HOk X.prog X.w H' h')(hg:AllBare g')
  (hch:∀b∈ch,(b∈X.ex\/X.s₀.heap.objs.size<=b)/\b≠X.env.locals/\(∀x c,X.env.cells.lookup x=some c->c≠b)/\∀p∈X.pn++pins,p.1≠b) :
  Inv X pins σ H' { s with heap:=h',gens:=g',drawn:=d',toks:=t' }:=by
 obtain⟨m,⟨o,es,ep,ho,r⟩,_⟩:=id I.loc;obtain⟨sl,hL⟩:=u.any ho I.free λz=>(hch _ z).2.1 rfl
 exact I.step (ch:=ch) hch (λb o hL hb hc e n=>u.keep b o e n (λz=>(List.mem_cons.mp (I.stkSub b z)).elim hL hb) hc) (λb o _ _ hc e n=>u.any e n hc) (λb o hc e n=>u.free b o e n hc) (λb o hc e=>u.there b o e hc) u.tups u.frzs u.tbls (λm' hm=>by
  obtain⟨o',es',ep',ho',r'⟩:=hm;rw[ho] at ho';cases ho';exact⟨_,es',ep',hL,r'⟩) hok hg
theorem Inv.turned{t':Nat}{it:Addr}(I:Inv X pins σ H s)(k:∀b o,b≠it->s.heap.get? b=some o->h'.get? b=some o)(hn:H it=none)(hL:it≠X.env.locals)
  (h1:it∈X.ex\/X.s₀.heap.objs.size<=it) (h2:∀x c,X.env.cells.lookup x=some c->c≠it) (h3:∀p∈X.pn++pins,p.1≠it):Inv X pins σ H { s with heap:=h',toks:=t' }:=by
 have nit:∀b u,H b=some u->b≠it:=λb u e z=>by rw[z,hn] at e;cases e
 refine I.step (g':=s.gens) (d':=s.drawn) (ch:=[it]) (λb hb=>?_) (λb o _ _ hc e _=>k b o (λz=>hc (by simp[z])) e) (λb o _ _ hc e _=>⟨o.slots,k b o (λz=>hc (by simp[z])) e⟩) (λ_ _ _ _ n=>n)
  (λb o hc e=>⟨o,k b o (λz=>hc (by simp[z])) e⟩) (λ_ _ e=>e) (λ_ _ _ e=>e) (λb ps e=>⟨#[],by rw[e];simp⟩) (λm hm=>?_) (λb u e=>?_) I.bare
 ·have e:b=it:=by simpa using hb
  subst e;exact⟨h1,hL,h2,h3⟩
 ·obtain⟨o,es,ep,ho,r⟩:=hm;exact⟨o,es,ep,k _ o (Ne.symm hL) ho,r⟩
 ·refine(I.hok b u e).stay (λc v hc q=>k c v ?_ q) (λ_ q=>q) λ_ _ q=>q
  rcases hc with z|z
  ·rw[z];exact nit b u e
  ·exact nit c _ z
theorem Inv.tok(I:Inv X pins σ H s)(t:Nat):Inv X pins σ H { s with toks:=t }:=I.un (h':=s.heap) (t':=t) Un.refl I.hok
theorem Inv.kept{t':Nat}(I:Inv X pins σ H s)(k:∀b u,s.heap.get? b=some u->h'.get? b=some u):Inv X pins σ H { s with heap:=h',toks:=t' }:=I.un (Un.kept k) (I.hok.kept k)
theorem Inv.laid{a:Addr}{o:HO}{t':Nat}(I:Inv X pins σ H s)(k:∀b u,s.heap.get? b=some u->h'.get? b=some u)(hp:s.heap.objs.size<=a)(new:F6 X.prog X.w (upd H a o) h' a o) :
  Inv X pins σ (upd H a o) { s with heap:=h',toks:=t' }:=I.un (Un.laid k hp (I.hok.fresh hp)) (I.hok.laid k hp new)
theorem Inv.write{x e:Addr}{o:HO}{t':Nat}(I:Inv X pins σ H s)(mu:Mut (H x))(he:e=x\/H e=some (.own x))(k:∀b u,b≠e->s.heap.get? b=some u->h'.get? b=some u)(heo:∃u,h'.get? e=some u)
  (new:F6 X.prog X.w (upd H x o) h' x o):Inv X pins σ (upd H x o) { s with heap:=h',toks:=t' }:=I.un (Un.write mu he k heo) (I.hok.write mu he k heo new)
theorem Inv.pins_of{pins':List (Addr×Obj)}(I:Inv X pins σ H s)(h:∀p∈pins',s.heap.get? p.1=some p.2/\H p.1=none/\p.1≠X.env.locals/\p.1∉X.fs/\∀v,p.2.data≠.cell v):Inv X pins' σ H s:=
 ⟨I.ok,I.os,I.bare,I.base,I.loc,I.cell,I.free,I.freeC,λp hp=>(List.mem_append.mp hp).elim (λz=>I.pin p (mem_append_left _ z)) (h p),I.hok,I.len⟩
theorem sL{N:List Str}(hN:N.Nodup){i j:Nat}{x:Str}(a:N[i]? = some x)(b:N[j]? = some x):i=j:=by
 obtain⟨h1,e1⟩:=List.getElem?_eq_some_iff.mp a;obtain⟨h2,e2⟩:=List.getElem?_eq_some_iff.mp b;exact(getElem_inj hN).mp (e1.trans e2.symm)
theorem j0{M:Model}{A:Around}{E:Value->Shared->Prop}{i:Nat}{x:Str}{v:V}{u:Value}{Q:Unit->Shared->Prop}(I:Inv X pins σ H s)(hN:X.N.Nodup)(hi:X.N[i]? = some x)(hx:Loc X.env.scope x)(r:F4 v u)
  (h:∀s',Inv X pins (σ.set i (some v)) H s'->(∃a,Heap.SameBut a s.heap s'.heap/\(a=X.env.locals\/X.env.cells.lookup x=some a))->Q () s') (hf:X.fn x=true\/X.env.scope.names.lookup x=some .local:=by first|exact .inl rfl|exact .inr rfl|assumption):wpAny M A (storeName X.env x u) Q E s:=by
 obtain⟨m,hn,hl⟩:=id I.loc;have hcls:(X.env.scope.kind == .class || (X.env.scope.kind == .module&&X.env.locals != X.env.globals))=false:=by rw[I.ok.kind];rfl
 have hiσ:i<σ.length:=by rw[I.len];exact(List.getElem?_eq_some_iff.mp hi).1
 have cne:=I.cne;have tracked:∀{a:Addr} {h':Heap},(∃o,s.heap.get? a=some o/\H a=none)->Heap.SameBut a s.heap h'->HOk X.prog X.w H h':=λ{a h'} ha hs b ob e=>by
  obtain⟨_,_,hfree⟩:=ha;refine(I.hok b ob e).stay (λc w' hc q=>(hs.2 c ?_).trans q) (λ_ q=>q) λ_ _ q=>q
  rintro rfl
  rcases hc with rfl|hc
  ·rw[hfree] at e;cases e
  ·rw[hfree] at hc;cases hc
 rcases hx with hk|hk
 ·refine wpAny_storeName_local hk hn (λh' hn' hs=>?_) hcls
  obtain⟨oL,_,_,hoL,_⟩:=id hn;refine h _ ⟨I.ok,I.os,I.bare,⟨λb o e n hb hx=>?_,λb o e n hb hx=>?_,I.base.free,λb o e hx=>?_,I.base.tups,I.base.frzs,I.base.tbls⟩,⟨_,hn',λj y v' e1 e2 e3=>?_⟩,λy c e=>?_,I.free,I.freeC,λp hp=>?_,tracked ⟨oL,hoL,I.free⟩ hs,by simpa using I.len⟩ ⟨_,hs,.inl rfl⟩
  ·exact(hs.2 b (Nat.ne_of_lt (Nat.lt_of_lt_of_le (lt_size e) I.ok.above))).trans (I.base.keep b o e n hb hx)
  ·obtain⟨sl,e1⟩:=I.base.slot b o e n hb hx;exact⟨sl,(hs.2 b (Nat.ne_of_lt (Nat.lt_of_lt_of_le (lt_size e) I.ok.above))).trans e1⟩
  ·obtain⟨o',e1⟩:=I.base.there b o e hx;exact⟨o',(hs.2 b (Nat.ne_of_lt (Nat.lt_of_lt_of_le (lt_size e) I.ok.above))).trans e1⟩
  ·by_cases hj:j=i
   ·subst hj;rw[hi] at e1;cases e1;rw[List.getElem?_set_self hiσ] at e2;cases e2;exact⟨u,r,.inl ⟨hk,by simp⟩⟩
   ·rw[List.getElem?_set_ne (Ne.symm hj)] at e2;obtain⟨u',r',q⟩:=hl j y v' e1 e2 e3;refine⟨u',r',?_⟩
    rcases q with⟨k,e⟩|⟨k,c,e,z⟩
    ·refine .inl ⟨k,?_⟩;have:y≠x:=λe=>hj (sL hN e1 (e▸hi))
     simp[this,e]
    ·exact .inr ⟨k,c,e,z.sameBut hs (cne y c e)⟩
  ·obtain⟨w',z⟩:=I.cell y c e;exact⟨w',z.sameBut hs (cne y c e)⟩
  ·obtain⟨e,n,ne,nf,d⟩:=I.pin p hp;exact⟨(hs.2 p.1 ne).trans e,n,ne,nf,d⟩
 ·have hfn:X.fn x=true:=by
   rcases hf with z|z
   ·exact z
   ·rw[z] at hk;cases hk
  obtain⟨c,hc⟩:=I.ok.has x (.inl hk);obtain⟨w',z⟩:=I.cell x c hc;refine wpAny_storeName_cell I.ok.kind hk hc z (λh' hc' hs=>?_)
  obtain⟨oc,hoc,hocd⟩:=id z;refine h { s with heap:=h' } ⟨I.ok,I.os,I.bare,⟨λb o e n hb hx=>?_,λb o e n hb hx=>?_,I.base.free,λb o e hx=>?_,I.base.tups,I.base.frzs,I.base.tbls⟩,⟨m,hn.sameBut hs (Ne.symm (cne x c hc)),λj y v' e1 e2 e3=>?_⟩,λy c' e=>?_,I.free,I.freeC,λp hp=>?_,tracked ⟨oc,hoc,I.freeC x c hc⟩ hs,by simpa using I.len⟩ ⟨c,hs,.inr hc⟩
  ·exact(hs.2 b (Nat.ne_of_lt (Nat.lt_of_lt_of_le (lt_size e) (I.ok.cab x c hfn hc)))).trans (I.base.keep b o e n hb hx)
  ·obtain⟨sl,e1⟩:=I.base.slot b o e n hb hx;exact⟨sl,(hs.2 b (Nat.ne_of_lt (Nat.lt_of_lt_of_le (lt_size e) (I.ok.cab x c hfn hc)))).trans e1⟩
  ·obtain⟨o',e1⟩:=I.base.there b o e hx;exact⟨o',(hs.2 b (Nat.ne_of_lt (Nat.lt_of_lt_of_le (lt_size e) (I.ok.cab x c hfn hc)))).trans e1⟩
  ·by_cases hj:j=i
   ·subst hj;rw[hi] at e1;cases e1;rw[List.getElem?_set_self hiσ] at e2;cases e2;exact⟨u,r,.inr ⟨.inl hk,c,hc,hc'⟩⟩
   ·rw[List.getElem?_set_ne (Ne.symm hj)] at e2;obtain⟨u',r',q⟩:=hl j y v' e1 e2 e3;refine⟨u',r',?_⟩
    rcases q with q|⟨k,c',e,z'⟩
    ·exact .inl q
    ·refine .inr ⟨k,c',e,z'.sameBut hs ?_⟩;rintro rfl;exact hj (sL hN e1 (I.ok.inj _ _ _ e hc▸hi))
  ·by_cases hcc:c'=c
   ·subst hcc;exact⟨_,hc'⟩
   ·obtain⟨w2,z2⟩:=I.cell y c' e;exact⟨w2,z2.sameBut hs hcc⟩
  ·obtain⟨e,n,ne,nf,d⟩:=I.pin p hp;refine⟨(hs.2 p.1 ?_).trans e,n,ne,nf,d⟩;intro q;rw[q,hoc] at e;have q':oc=p.2:=Option.some.inj e;exact d w' (by rw[<- q'];exact hocd)
theorem nu{M:Model}{A:Around}{E:Value->Shared->Prop}{i:Nat}{x:Str}{v:V}{u:Value}{Q:Unit->Shared->Prop}(I:Inv X pins σ H s)(hN:X.N.Nodup)(hi:X.N[i]? = some x)(hx:Loc X.env.scope x)(r:F4 v u)
  (h:∀s',Inv X pins (σ.set i (some v)) H s'->Q () s') (hf:X.fn x=true\/X.env.scope.names.lookup x=some .local:=by first|exact .inl rfl|exact .inr rfl|assumption):wpAny M A (storeName X.env x u) Q E s:=
 j0 I hN hi hx r (λs' I' _=>h s' I') hf
theorem Inv.call'{s':Shared}{ch:List Addr}(I:Inv X pins σ H s)(ho:s'.os=s.os)(u:Un (frs X.stack) ch H H' s.heap s'.heap)(hok:HOk X.prog X.w H' s'.heap)(hg:AllBare s'.gens)
  (hch:∀b∈ch,(b∈X.ex\/X.s₀.heap.objs.size<=b)/\b≠X.env.locals/\(∀x c,X.env.cells.lookup x=some c->c≠b)/\∀p∈X.pn++pins,p.1≠b):Inv X pins σ H' s':=by
 obtain⟨h',g',d',t',o'⟩:=s';have e:o'=s.os:=ho;subst e;exact I.call (g':=g') (t':=t') (d':=d') u hok hg hch
end
abbrev XK:=Value->Option Addr->Hp->Prop
abbrev St:=List (Option V)
abbrev VK:=V->Hp->Prop
abbrev TE:=St->Hp->VK->Prop
abbrev TT:=St->Hp->(Bool->Hp->Prop)->Prop
abbrev TA:=St->Hp->(List V->Hp->Prop)->Prop
structure fJ where
 nx:St->Hp->Prop
 rt:VK
 bk:St->Hp->Prop:=λ_ _=>False
 ct:St->Hp->Prop:=λ_ _=>False
abbrev TS:=fJ->St->Hp->Prop
def EP(X:Cx)(pins:List (Addr×Obj))(σ:St)(Q:VK)(u:Value)(s':Shared):Prop:=∃v H',Inv X pins σ H' s'/\F4 v u/\Q v H'
def TP(X:Cx)(pins:List (Addr×Obj))(σ:St)(Q:Bool->Hp->Prop)(b:Bool)(s':Shared):Prop:=∃H',Inv X pins σ H' s'/\Q b H'
def AP(X:Cx)(pins:List (Addr×Obj))(σ:St)(Q:List V->Hp->Prop)(us:List Value)(s':Shared):Prop:=∃vs H',Inv X pins σ H' s'/\F1 vs us/\Q vs H'
def SP(X:Cx)(pins:List (Addr×Obj))(D:fJ)(f:Flow)(s':Shared):Prop:=
 match f with
 |.next=>∃σ' H',Inv X pins σ' H' s'/\D.nx σ' H'
 |.brk=>∃σ' H',Inv X pins σ' H' s'/\D.bk σ' H'
 |.cont=>∃σ' H',Inv X pins σ' H' s'/\D.ct σ' H'
 |.ret u=>∃v σ' H',Inv X pins σ' H' s'/\F4 v u/\D.rt v H'
def PE(X:Cx)(e:Expr)(t:TE):Prop:=
 ∀(pins:List (Addr×Obj)) (s:Shared) (σ:St) (H:Hp) (Q:VK),Inv X pins σ H s->t σ H Q->wpAny (model X.prog X.w) X.A (eval e X.env) (EP X pins σ Q) X.xe s
def PT(X:Cx)(e:Expr)(t:TT):Prop:=
 ∀(pins:List (Addr×Obj)) (s:Shared) (σ:St) (H:Hp) (Q:Bool->Hp->Prop),Inv X pins σ H s->t σ H Q->wpAny (model X.prog X.w) X.A (isTrue e X.env (eval e X.env)) (TP X pins σ Q) X.xe s
def PW(X:Cx)(e:Expr)(t:TT):Prop:=
 ∀(whole:Sem Value) (pins:List (Addr×Obj)) (s:Shared) (σ:St) (H:Hp) (Q:Bool->Hp->Prop),Inv X pins σ H s->t σ H Q->wpAny (model X.prog X.w) X.A (isTrue e X.env whole) (TP X pins σ Q) X.xe s
theorem PW.pt{X:Cx}{e:Expr}{t:TT}(h:PW X e t):PT X e t:=h _
def PA(X:Cx)(es:List Expr)(t:TA):Prop:=
 ∀(pos:Pos) (pins:List (Addr×Obj)) (s:Shared) (σ:St) (H:Hp) (Q:List V->Hp->Prop),Inv X pins σ H s->t σ H Q->wpAny (model X.prog X.w) X.A (spliced (backTo pos (starEach es X.env))) (AP X pins σ Q) X.xe s
def PS(X:Cx)(st:Stmt)(t:TS):Prop:=
 ∀(pins:List (Addr×Obj)) (s:Shared) (σ:St) (H:Hp) (D:fJ),Inv X pins σ H s->t D σ H->wpAny (model X.prog X.w) X.A (exec st X.env) (SP X pins D) X.xe s
def PSs(X:Cx)(st:List Stmt)(t:TS):Prop:=
 ∀(pins:List (Addr×Obj)) (s:Shared) (σ:St) (H:Hp) (D:fJ),Inv X pins σ H s->t D σ H->wpAny (model X.prog X.w) X.A (execs st X.env) (SP X pins D) X.xe s
theorem thn{α:Type}{t:Sem α}{Q Q':α->Shared->Prop}{M:Model}{A:Around}{E:Value->Shared->Prop}{s:Shared}(h:wpAny M A t Q E s)(hQ:∀a s,Q a s->Q' a s):wpAny M A t Q' E s:=wpAny_mono h hQ λ_ _ x=>x
section
variable {X:Cx}
def uE(i:Nat):TE:=λσ H Q=>∃v,σ[i]? = some (some v)/\Q v H
def tC(v:V):TE:=λ_ H Q=>Q v H
theorem Ey{i:Nat}{x:Str}{pos:Pos}(hN:X.N[i]? = some x)(hv:Vis X.env.scope x)(hd:(x==("__debug__" : Str))=false:=by decide)(hcd:(x==("__classdict__" : Str))=false:=by decide):PE X (.Name x pos) (uE i):=by
 intro pins s σ H Q I h;obtain⟨v,e,h⟩:=h;obtain⟨m,hn,hl⟩:=I.loc;obtain⟨u,r,l⟩:=hl i x v hN e hv;have fin:EP X pins σ Q u s:=⟨v,H,I,r,h⟩
 rcases l with⟨hk,hm⟩|⟨hk,c,hc,hcell⟩
 ·exact wpAny_Name (wpAny_loadName_local I.ok.kind hk hn hm fin) hd
 ·rcases hk with hk|hk
  ·exact wpAny_Name (wpAny_loadName_cell I.ok.kind hk hc hcell fin) hd
  ·exact wpAny_Name (wpAny_loadName_free I.ok.kind hk hc hcell fin hcd) hd
theorem ag{i j pos}:PE X (.Constant (.int i) j pos) (tC (.int i)):=λ_ _ _ H _ I h=>wpAny_Constant_int ⟨.int i,H,I.tok _,⟨_,rfl⟩,h⟩
theorem fN{b j pos}:PE X (.Constant (.bool b) j pos) (tC (.bl b)):=λ_ _ _ H _ I h=>Constant_bool ⟨.bl b,H,I,rfl,h⟩
theorem qB{j pos}:PE X (.Constant .none j pos) (tC .non):=λ_ _ _ H _ I h=>Constant_none ⟨.non,H,I,rfl,h⟩
theorem aI{x j pos}:PE X (.Constant (.str x) j pos) (tC (.str x)):=λ_ _ _ H _ I h=>Calls.Constant_str ⟨.str x,H,I.tok _,⟨_,rfl⟩,h⟩
def Gl(X:Cx)(x:Str):Prop:=X.env.kindOf x=some .globalImplicit
theorem fh{E:Value->Shared->Prop}{pins:List (Addr×Obj)}{s:Shared}{σ:St}{H:Hp}{x:Str}{u:Value}{pos:Pos}{Q:Value->Shared->Prop}(I:Inv X pins σ H s)(hg:Gl X x)(hm:X.mg x=some u)(h:Q u s)
  (hd:(x==("__debug__" : Str))=false:=by decide):wpAny (model X.prog X.w) X.A (eval (.Name x pos) X.env) Q E s:=
 Calls.Name_function_global I.ok.kind hg (Calls.loadGlobal_global (by rw[I.ok.glob];exact I.mod.glob.keeps I.bk) hm h) hd
theorem io{E:Value->Shared->Prop}{pins:List (Addr×Obj)}{s:Shared}{σ:St}{H:Hp}{x:Str}{u:Value}{pos:Pos}{Q:Value->Shared->Prop}(I:Inv X pins σ H s)(hg:Gl X x)(hm:X.mg x=none)(hv:bootBuiltins x=some u)(h:Q u s)
  (hn:x≠"__name__":=by decide) (hd:(x==("__debug__" : Str))=false:=by decide):wpAny (model X.prog X.w) X.A (eval (.Name x pos) X.env) Q E s:=by
 obtain⟨mb,h1,h2⟩:=I.mod.blt;exact Calls.Name_function_global I.ok.kind hg (Calls.loadGlobal_builtin (by rw[I.ok.glob];exact I.mod.glob.keeps I.bk) hm (by rw[I.ok.blt];exact h1.keeps I.bk) ((h2 x hn).trans hv) h) hd
theorem bG{x:Str}{v:V}{u:Value}{pos:Pos}(hg:Gl X x)(hm:X.mg x=some u)(r:F4 v u)(hd:(x==("__debug__" : Str))=false:=by decide):PE X (.Name x pos) (tC v):=
 λ_ _ _ H _ I h=>fh I hg hm ⟨v,H,I,r,h⟩ hd
theorem vf{x:Str}{v:V}{u:Value}{pos:Pos}(hg:Gl X x)(hm:X.mg x=none)(hv:bootBuiltins x=some u)(r:F4 v u)(hn:x≠"__name__":=by decide)(hd:(x==("__debug__" : Str))=false:=by decide):PE X (.Name x pos) (tC v):=
 λ_ _ _ H _ I h=>io I hg hm hv ⟨v,H,I,r,h⟩ hn hd
variable {a b:Expr} {ta tb:TE} {pos:Pos}
def PC(X:Cx)(op:CmpOp)(a b:Expr)(t:TE):Prop:=
 ∀(pins:List (Addr×Obj)) (s:Shared) (σ:St) (H:Hp) (Q:VK),Inv X pins σ H s->t σ H Q->
  wpAny (model X.prog X.w) X.A (eval a X.env) (λv s₁=>wpAny (model X.prog X.w) X.A (eval b X.env) (λu s₂=>wpAny (model X.prog X.w) X.A (compareOp op v u) (EP X pins σ Q) X.xe s₂) X.xe s₁) X.xe s
def tB(t:TE):TT:=λσ H Q=>t σ H λx H1=>∃c,x=.bl c/\Q c H1
theorem DK{op:CmpOp}{t:TE}(h:PC X op a b t)(h1:behindInMarks op b=false:=by first|exact nobehind _ (by decide) (by decide)|rfl):PT X (.Compare a [op] [b] pos) (tB t):=by
 intro pins s σ H Q I hw;refine wpAny_isTrue_Compare1 (thn (h pins s σ H _ I hw) λv s1 h1=>thn h1 λu s2 h2=>thn h2 λc s3 ⟨x,H1,I1,r1,q1⟩=>?_) h1
 obtain⟨d,rfl,q⟩:=q1;cases r1;exact wpAny_truthy_bool ⟨H1,I1,q⟩
theorem bH{e:Expr}{t:TE}(h:PE X e t)(he:∀whole,isTrue e X.env whole=(do let v <- whole;standAt e.pos;holding [v] (truthy v)):=by intro _;rfl):PT X e (tB t):=by
 intro pins s σ H Q I hw;refine isTrue_plain (thn (h pins s σ H _ I hw) λv s1 ⟨x,H1,I1,r1,q1⟩=>?_) (he _)
 obtain⟨d,rfl,q⟩:=q1;cases r1;exact wpAny_truthy_bool ⟨H1,I1,q⟩
variable {tA tB':TT} {rest:List Expr}
def tAnd(t u:TT):TT:=λσ H Q=>t σ H λc H1=>if c=true then u σ H1 Q else Q false H1
def tOr(t u:TT):TT:=λσ H Q=>t σ H λc H1=>if c=true then Q true H1 else u σ H1 Q
def tNot(t:TT):TT:=λσ H Q=>t σ H λc H1=>Q (!c) H1
theorem lE(ha:PT X a tA):PW X (.BoolOp .And [a] pos) tA:=by
 intro wh pins s σ H Q I h;refine isTrue_and (thn (ha pins s σ H Q I h) λc s1 e=>?_)
 cases c with
 |true=>exact isTrue_and_nil e
 |false=>exact e
theorem et(ha:PT X a tA):PW X (.BoolOp .Or [a] pos) tA:=by
 intro wh pins s σ H Q I h;refine isTrue_or (thn (ha pins s σ H Q I h) λc s1 e=>?_)
 cases c with
 |false=>exact isTrue_or_nil e
 |true=>exact e
theorem nj(ha:PT X a tA)(hb:PW X (.BoolOp .And (b::rest) pos) tB'):PW X (.BoolOp .And (a::b::rest) pos) (tAnd tA tB'):=by
 intro wh pins s σ H Q I h;refine isTrue_and (thn (ha pins s σ H _ I h) λc s1 ⟨H1,I1,q1⟩=>?_)
 cases c with
 |true=>exact hb wh pins s1 σ H1 Q I1 q1
 |false=>exact⟨H1,I1,q1⟩
theorem fI(ha:PT X a tA)(hb:PW X (.BoolOp .Or (b::rest) pos) tB'):PW X (.BoolOp .Or (a::b::rest) pos) (tOr tA tB'):=by
 intro wh pins s σ H Q I h;refine isTrue_or (thn (ha pins s σ H _ I h) λc s1 ⟨H1,I1,q1⟩=>?_)
 cases c with
 |true=>exact⟨H1,I1,q1⟩
 |false=>exact hb wh pins s1 σ H1 Q I1 q1
theorem cB(ha:PT X a tA):PT X (.UnaryOp .Not a pos) (tNot tA):=by
 intro pins s σ H Q I h;exact isTrue_not (ha pins s σ H (λc H1=>Q (!c) H1) I h)
def E5(ta tb:TE):TE:=λσ H Q=>ta σ H λx H1=>∃c,x=.bl c/\if c=true then tb σ H1 Q else Q (.bl false) H1
def tOrV(ta tb:TE):TE:=λσ H Q=>ta σ H λx H1=>∃c,x=.bl c/\if c=true then Q (.bl true) H1 else tb σ H1 Q
def Fv(ta:TE):TE:=λσ H Q=>ta σ H λx H1=>∃c,x=.bl c/\Q (.bl (!c)) H1
theorem du{op}{t:TE}(h:PE X a t):PE X (.BoolOp op [a] pos) t:=λpins s σ H Q I hw=>BoolOp_one (h pins s σ H Q I hw)
theorem df(ha:PE X a ta)(hb:PE X (.BoolOp .And (b::rest) pos) tb):PE X (.BoolOp .And (a::b::rest) pos) (E5 ta tb):=by
 intro pins s σ H Q I h;refine BoolOp_and (thn (ha pins s σ H _ I h) λv s1 ⟨x,H1,I1,r1,q1⟩=>?_)
 obtain⟨c,rfl,q1⟩:=q1;cases r1;refine wpAny_truthy_bool ?_;cases c with
 |true=>exact hb pins s1 σ H1 Q I1 q1
 |false=>exact⟨.bl false,H1,I1,rfl,q1⟩
theorem Fl(ha:PE X a ta)(hb:PE X (.BoolOp .Or (b::rest) pos) tb):PE X (.BoolOp .Or (a::b::rest) pos) (tOrV ta tb):=by
 intro pins s σ H Q I h;refine BoolOp_or (thn (ha pins s σ H _ I h) λv s1 ⟨x,H1,I1,r1,q1⟩=>?_)
 obtain⟨c,rfl,q1⟩:=q1;cases r1;refine wpAny_truthy_bool ?_;cases c with
 |false=>exact hb pins s1 σ H1 Q I1 q1
 |true=>exact⟨.bl true,H1,I1,rfl,q1⟩
theorem DI(ha:PE X a ta):PE X (.UnaryOp .Not a pos) (Fv ta):=by
 intro pins s σ H Q I h;refine UnaryOp_ (thn (ha pins s σ H _ I h) λv s1 ⟨x,H1,I1,r1,q1⟩=>?_)
 obtain⟨c,rfl,q1⟩:=q1;cases r1;exact not_of (wpAny_truthy_bool ⟨.bl (!c),H1,I1,rfl,q1⟩)
def tIf(t:TT)(ta tb:TE):TE:=λσ H Q=>t σ H λc H1=>if c=true then ta σ H1 Q else tb σ H1 Q
theorem cA{c:Expr}(hc:PT X c tA)(ha:PE X a ta)(hb:PE X b tb):PE X (.IfExp c a b pos) (tIf tA ta tb):=by
 intro pins s σ H Q I h;refine wpAny_IfExp (thn (hc pins s σ H _ I h) λd s1 ⟨H1,I1,q1⟩=>?_)
 cases d with
 |true=>exact ha pins s1 σ H1 Q I1 q1
 |false=>exact hb pins s1 σ H1 Q I1 q1
end
def SqL(K:Frag)(H:Hp)(a:Addr)(xs:List V):Prop:=
 Rd H a (.lst xs) \/
  ∃(o:Obj) (its:Array Value) (n:Nat),K.lookup a=some o/\o.cls=.type "list"/\o.dict=none/\o.data=.seq its n/\its.size<=sizeLine/\F1 xs its.toList
def SqT(K:Frag)(H:Hp)(a:Addr)(xs:List V):Prop:=
 Rd H a (.tup xs) \/
  ∃(o:Obj) (its:Array Value) (n:Nat),K.lookup a=some o/\o.cls=.type "tuple"/\o.data=.seq its n/\its.size<=sizeLine/\F1 xs its.toList
def absV:Value->Option V
 |.none=>some .non
 |.bool b=>some (.bl b)
 |.int i _=>some (.int i)
 |.str x _=>some (.str x)
 |.bytes b _=>some (.byt b)
 |.float b _=>some (.flt b)
 |.ref a=>some (.ref a)
 |.type n=>some (.ty n)
 |_=>none
theorem F4.abs{x:V}{u:Value}(r:F4 x u):absV u=some x:=by
 cases x with
 |non=>cases r;rfl
 |bl _=>cases r;rfl
 |int _=>obtain⟨t,rfl⟩:=r;rfl
 |str _=>obtain⟨t,rfl⟩:=r;rfl
 |byt _=>obtain⟨t,rfl⟩:=r;rfl
 |flt _=>obtain⟨t,rfl⟩:=r;rfl
 |ref _=>cases r;rfl
 |ty _=>cases r;rfl
theorem F4.inj{x y:V}{u:Value}(r:F4 x u)(q:F4 y u):x=y:=Option.some.inj (r.abs.symm.trans q.abs)
theorem F1.inj:∀{xs ys:List V} {us:List Value},F1 xs us->F1 ys us->xs=ys
 |_,_,_,.nil,.nil=>rfl
 |_,_,_,.cons r t,.cons r' t'=>by rw[r.inj r',F1.inj t t']
section
variable {X:Cx} {pins:List (Addr×Obj)} {σ:St} {H:Hp} {s:Shared} {a:Addr} {xs ys:List V}
theorem SqL.of{K:Frag}(h:H a=some (.lst xs)):SqL K H a xs:=.inl (.inl h)
theorem SqT.of{K:Frag}(h:H a=some (.tup xs)):SqT K H a xs:=.inl (.inl h)
theorem Inv.list(I:Inv X pins σ H s)(h:SqL X.K H a xs):∃its:List Value,F1 xs its/\PlainL s.heap a its.toArray/\xs.length<=sizeLine:=by
 rcases h with h|⟨o,its,n,hk,hc,hd,hs,hz,r⟩
 ·obtain⟨z,its,n,r,e⟩:=h.ok I.hok;exact⟨its,r,⟨_,n,e,rfl,rfl,rfl⟩,z⟩
 ·refine⟨its.toList,r,⟨o,n,I.kIn a o hk,hc,hd,by simpa using hs⟩,?_⟩
  have e:=r.length;simp only[Array.length_toList] at e;omega
theorem Inv.tuple(I:Inv X pins σ H s)(h:SqT X.K H a xs):∃its:List Value,F1 xs its/\IsTup s.heap a its.toArray/\xs.length<=sizeLine:=by
 rcases h with h|⟨o,its,n,hk,hc,hs,hz,r⟩
 ·obtain⟨z,its,r,p⟩:=h.ok I.hok;exact⟨its,r,p,z⟩
 ·refine⟨its.toList,r,⟨o,I.kIn a o hk,hc,n,by simpa using hs⟩,?_⟩
  have e:=r.length;simp only[Array.length_toList] at e;omega
theorem Inv.list_inj(I:Inv X pins σ H s)(h:SqL X.K H a xs)(h':SqL X.K H a ys):xs=ys:=by
 obtain⟨its,r,⟨o,n,e,_,_,d⟩,_⟩:=I.list h;obtain⟨its',r',⟨o',n',e',_,_,d'⟩,_⟩:=I.list h';rw[e] at e';cases e';rw[d] at d';injection d' with d1 _
 have:its=its':=by simpa using congrArg Array.toList d1
 subst this;exact r.inj r'
theorem Inv.tuple_inj(I:Inv X pins σ H s)(h:SqT X.K H a xs)(h':SqT X.K H a ys):xs=ys:=by
 obtain⟨its,r,⟨o,e,_,n,d⟩,_⟩:=I.tuple h;obtain⟨its',r',⟨o',e',_,n',d'⟩,_⟩:=I.tuple h';rw[e] at e';cases e';rw[d] at d';injection d' with d1 _
 have:its=its':=by simpa using congrArg Array.toList d1
 subst this;exact r.inj r'
end
abbrev Cx.wish(X:Cx)(E:Value->Shared->Prop):Cx:={ X with xe:=E }
abbrev Cx.nox(X:Cx):Cx:=X.wish λ_ _=>False
theorem Cx.Ok.wish{X:Cx}(ok:X.Ok)(E:Value->Shared->Prop):(X.wish E).Ok:=
 ⟨ok.mod,ok.kind,ok.glob,ok.blt,ok.above,ok.inj,ok.has,ok.cab,ok.hd,ok.frames,ok.stk,ok.exf,ok.bs,ok.bsz,ok.noex,ok.exfs,ok.funs,ok.frf⟩
theorem Cx.Ok.unwish{X:Cx}{E:Value->Shared->Prop}(ok:(X.wish E).Ok):X.Ok:=
 ⟨ok.mod,ok.kind,ok.glob,ok.blt,ok.above,ok.inj,ok.has,ok.cab,ok.hd,ok.frames,ok.stk,ok.exf,ok.bs,ok.bsz,ok.noex,ok.exfs,ok.funs,ok.frf⟩
section
variable {X:Cx} {pins:List (Addr×Obj)} {σ:St} {H:Hp} {s:Shared} {E:Value->Shared->Prop}
theorem Inv.wish(I:Inv X pins σ H s)(E:Value->Shared->Prop):Inv (X.wish E) pins σ H s:=⟨I.ok.wish E,I.os,I.bare,I.base,I.loc,I.cell,I.free,I.freeC,I.pin,I.hok,I.len⟩
theorem Inv.unwish(I:Inv (X.wish E) pins σ H s):Inv X pins σ H s:=⟨I.ok.unwish,I.os,I.bare,I.base,I.loc,I.cell,I.free,I.freeC,I.pin,I.hok,I.len⟩
theorem SP.unwish{D:fJ}{f:Flow}{s':Shared}(h:SP (X.wish E) pins D f s'):SP X pins D f s':=by
 cases f with
 |next=>obtain⟨σ',H',I,q⟩:=h;exact⟨σ',H',I.unwish,q⟩
 |brk=>obtain⟨σ',H',I,q⟩:=h;exact⟨σ',H',I.unwish,q⟩
 |cont=>obtain⟨σ',H',I,q⟩:=h;exact⟨σ',H',I.unwish,q⟩
 |ret u=>obtain⟨v,σ',H',I,r,q⟩:=h;exact⟨v,σ',H',I.unwish,r,q⟩
theorem PSs.nox{st:List Stmt}{t:TS}(h:PSs X.nox st t):PSs X st t:=λpins s σ H D I hw=>
 wpAny_mono (h pins s σ H D (I.wish _) hw) (λ_ _ q=>q.unwish) λ_ _ z=>False.elim z
end
section
variable {X:Cx} {st:Stmt} {rest:List Stmt} {t u:TS} {e:Expr} {te:TE} {pos:Pos}
def Di:TS:=λD σ H=>D.nx σ H
def cf(t u:TS):TS:=λD σ H=>t { D with nx:=u D } σ H
theorem aF:PSs X [] Di:=λ_ _ σ H _ I h=>wpAny_execs_nil ⟨σ,H,I,h⟩
theorem af(h1:PS X st t)(h2:PSs X rest u):PSs X (st::rest) (cf t u):=by
 intro pins s σ H D I h;refine wpAny_execs_cons (thn (h1 pins s σ H { D with nx:=u D } I h) λf s1 q=>?_)
 cases f with
 |next=>
  obtain⟨σ',H',I',q⟩:=q;exact h2 pins s1 σ' H' D I' q
 |ret v=>exact q
 |brk=>exact q
 |cont=>exact q
theorem aj(h1:PS X st t):PSs X [st] t:=by
 intro pins s σ H D I h;refine wpAny_execs_cons (thn (h1 pins s σ H D I h) λf s1 q=>?_)
 cases f with
 |next=>exact wpAny_execs_nil q
 |ret v=>exact q
 |brk=>exact q
 |cont=>exact q
theorem Inv.quiet{pins:List (Addr×Obj)}{σ:St}{H:Hp}{s:Shared}(I:Inv X pins σ H s):interactive X.env=false:=by simp[interactive,I.ok.kind]
def yb(te:TE):TS:=λD σ H=>te σ H λ_ H1=>D.nx σ H1
theorem eI(he:PE X e te)(hs:swapsWith e none pos.line X.env=pure false:=by rfl):PS X (.Expr e pos) (yb te):=by
 intro pins s σ H D I h;exact wpAny_Expr_any (thn (he pins s σ H _ I h) λv s1 ⟨x,H1,I1,r1,q1⟩=>⟨σ,H1,I1,q1⟩) I.quiet hs
def tRet(te:TE):TS:=λD σ H=>te σ H D.rt
theorem au(he:PE X e te):PS X (.Return (some e) pos) (tRet te):=by
 intro pins s σ H D I h;exact wpAny_Return_some (thn (he pins s σ H _ I h) λv s1 ⟨x,H1,I1,r1,q1⟩=>⟨x,σ,H1,I1,r1,q1⟩)
def wY(c:TT)(t u:TS):TS:=λD σ H=>c σ H λb H1=>if b=true then t D σ H1 else u D σ H1
theorem aW{c:Expr}{a b:List Stmt}{tc:TT}(hc:PT X c tc)(ha:PSs X a t)(hb:PSs X b u):PS X (.If c a b pos) (wY tc t u):=by
 intro pins s σ H D I h;refine wpAny_If (thn (hc pins s σ H _ I h) λd s1 ⟨H1,I1,q1⟩=>?_)
 cases d with
 |true=>exact ha pins s1 σ H1 D I1 q1
 |false=>exact hb pins s1 σ H1 D I1 q1
def EE:TS:=λ_ _ _=>False
theorem zd:PS X st EE:=λ_ _ _ _ _ _ h=>h.elim
end
abbrev TG:=V->St->Hp->(St->Hp->Prop)->Prop
abbrev TGs:=List V->St->Hp->(St->Hp->Prop)->Prop
def PG(X:Cx)(target:Expr)(t:TG):Prop:=
 ∀(pins:List (Addr×Obj)) (s:Shared) (σ:St) (H:Hp) (v:V) (u:Value) (Q:St->Hp->Prop),Inv X pins σ H s->F4 v u->t v σ H Q->
  wpAny (model X.prog X.w) X.A (assign target X.env u) (λ_ s'=>∃σ' H',Inv X pins σ' H' s'/\Q σ' H') X.xe s
def PGs(X:Cx)(ts:List Expr)(t:TGs):Prop:=
 ∀(pins:List (Addr×Obj)) (s:Shared) (σ:St) (H:Hp) (vs:List V) (us:List Value) (Q:St->Hp->Prop),Inv X pins σ H s->F1 vs us->t vs σ H Q->
  wpAny (model X.prog X.w) X.A (assignInOrder ((assignEach ts X.env).map (·.2)) us) (λ_ s'=>∃σ' H',Inv X pins σ' H' s'/\Q σ' H') X.xe s
abbrev Ez:=V->V->V->Hp->(Hp->Prop)->Prop
def Fg(X:Cx)(t:Ez):Prop:=
 ∀(pins:List (Addr×Obj)) (s:Shared) (σ:St) (H:Hp) (o i v:V) (ov iv u:Value) (Q:Hp->Prop),Inv X pins σ H s->F4 o ov->F4 i iv->F4 v u->t o i v H Q->
  wpAny (model X.prog X.w) X.A (setItem ov iv u) (λ_ s'=>∃H',Inv X pins σ H' s'/\Q H') X.xe s
section
variable {X:Cx} {pos:Pos}
def di(i:Nat):TG:=λv σ H Q=>Q (σ.set i (some v)) H
theorem js{i:Nat}{x:Str}(hN:X.N.Nodup)(hi:X.N[i]? = some x)(hx:Loc X.env.scope x)(hf:X.fn x=true\/X.env.scope.names.lookup x=some .local:=by first|exact .inl rfl|exact .inr rfl|assumption):PG X (.Name x pos) (di i):=by
 intro pins s σ H v u Q I r h;exact wpAny_assign_Name (nu I hN hi hx r (λs' I'=>⟨_,H,I',h⟩) hf)
def DD:TGs:=λvs σ H Q=>vs=[]/\Q σ H
def tz(t:TG)(u:TGs):TGs:=λvs σ H Q=>∃v r,vs=v::r/\t v σ H λσ' H'=>u r σ' H' Q
theorem BI:PGs X [] DD:=by
 intro pins s σ H vs us Q I r h;obtain⟨e,h⟩:=h;subst e;cases r;exact assignInOrder_nil ⟨σ,H,I,h⟩
theorem rG{e:Expr}{es:List Expr}{t:TG}{u:TGs}(h1:PG X e t)(h2:PGs X es u)
  (hs:(assignEach (e::es) X.env).map (·.2)=assign e X.env::(assignEach es X.env).map (·.2):=by rfl):PGs X (e::es) (tz t u):=by
 intro pins s σ H vs us Q I r h;obtain⟨v,vr,e1,h⟩:=h;subst e1;cases r with
 |cons r rr=>
  rw[hs];refine assignInOrder_cons (thn (h1 pins s σ H _ _ _ I r h) λ_ s1 ⟨σ1,H1,I1,q1⟩=>?_)
  exact h2 pins s1 σ1 H1 _ _ Q I1 rr q1
def Ep(K:Frag)(n:Nat)(t:TGs):TG:=λv σ H Q=>∃a xs,v=.ref a/\SqT K H a xs/\xs.length=n/\t xs σ H Q
theorem EC{es:List Expr}{k:Nat}{t:TGs}{n:Nat}(hc:X.calm=true)(h:PGs X es t)
  (hn:(assignEach es X.env).length=n:=by rfl) (hst:(assignEach es X.env).findIdx? (·.1)=none:=by rfl):PG X (.Tuple es k pos) (Ep X.K n t):=by
 intro pins s σ H v u Q I r hw;obtain⟨a,xs,e1,hq,hl,hw⟩:=hw;subst e1;cases r;obtain⟨its,rv,ht,hz⟩:=I.tuple hq;refine assign_Tuple_tuple (I.ok.hd hc) ht (by simp[hn,<- hl,rv.length]) hst λh' hx=>?_
 have I1:Inv X pins σ H { s with heap:=h' }:=I.kept (t':=s.toks) λb o e=>hx b o (Nat.ne_of_lt (lt_size e)) e
 exact h pins _ σ H xs _ Q I1 (by simpa using rv) hw
def gSub(to ti:TE)(t:Ez):TG:=λv σ H Q=>to σ H λo H1=>ti σ H1 λi H2=>t o i v H2 λH3=>Q σ H3
theorem mi{o i:Expr}{to ti:TE}{t:Ez}(ho:PE X o to)(hi:PE X i ti)(hs:Fg X t)
  (ha:∀v,assign (.Subscript o i pos) X.env v=(do
   let ov <- holding [v] (eval o X.env)
   let iv <- holding [v,ov] (eval i X.env)
   standAt pos
   holding [v,ov,iv] (setItem ov iv v)
   release [v,ov,iv] []):=by intro _;rfl):PG X (.Subscript o i pos) (gSub to ti t):=by
 intro pins s σ H v u Q I r h;rw[ha];refine wpAny_bind (wpAny_holding (thn (ho pins s σ H _ I h) λov s1 ⟨x,H1,I1,r1,q1⟩=>?_))
 refine wpAny_bind (wpAny_holding (thn (hi pins s1 σ H1 _ I1 q1) λiv s2 ⟨y,H2,I2,r2,q2⟩=>?_))
 refine wpAny_bind (wpAny_standAt (wpAny_bind (wpAny_holding (thn (hs pins s2 σ H2 x y v ov iv u _ I2 r1 r2 r q2) λ_ s3 ⟨H3,I3,q3⟩=>?_))))
 exact wpAny_release ⟨σ,H3,I3,q3⟩
def uz(te:TE)(g:TG):TS:=λD σ H=>te σ H λx H1=>g x σ H1 D.nx
theorem lU{tg e:Expr}{te:TE}{g:TG}(he:PE X e te)(hg:PG X tg g)(hs:swapsWithSole [tg] e pos.line X.env=pure false:=by rfl)(hw:swappedStores [tg] e X.env=pure none:=by rfl)
  (h1:(assignEach [tg] X.env).map (·.2)=[assign tg X.env]:=by rfl):PS X (.Assign [tg] e pos) (uz te g):=by
 intro pins s σ H D I h;refine wpAny_Assign_stores (thn (he pins s σ H _ I h) λv s1 ⟨x,H1,I1,r1,q1⟩=>?_) hs hw
 rw[h1];exact thn (hg pins s1 σ H1 x v _ I1 r1 q1) λ_ s2 q=>q
theorem aD{i:Nat}{x:Str}{e:Expr}{te:TE}{pos':Pos}(hN:X.N.Nodup)(hi:X.N[i]? = some x)(hx:Loc X.env.scope x)(he:PE X e te)(hs:swapsWith e (some (.Name x pos')) pos.line X.env=pure false:=by rfl)(hf:X.fn x=true\/X.env.scope.names.lookup x=some .local:=by first|exact .inl rfl|exact .inr rfl|assumption) :
  PS X (.Assign [.Name x pos'] e pos) (uz te (di i)):=by
 intro pins s σ H D I h;refine wpAny_Assign_Name (thn (he pins s σ H _ I h) λv s1 ⟨y,H1,I1,r1,q1⟩=>?_) hs
 exact nu I1 hN hi hx r1 (λs2 I2=>⟨_,H1,I2,q1⟩) hf
end
section
variable {X:Cx} {pos:Pos}
def zk(c:TT)(tb:TS):TS:=λD σ H=>∃W:Nat->St->Hp->Prop,(∃m,W m σ H)/\∀m σ H,W m σ H->
 c σ H λb H1=>if b=true then ∃N:St->Hp->Prop,(∀σ' H',N σ' H'->∃m',m'<m/\W m' σ' H')/\tb { D with nx:=N,ct:=N,bk:=D.nx } σ H1 else D.nx σ H1
theorem jg{c:Expr}{body:List Stmt}{tc:TT}{tb:TS}(hp:PassesOwn (model X.prog X.w) X.A X.env X.xe)(hc:PT X c tc)(hb:PSs X body tb):PS X (.While c body [] pos) (zk tc tb):=by
 intro pins s σ H D I h;obtain⟨W,⟨m0,w0⟩,turn⟩:=h;refine wpAny_While (codeAny_whileLoop (λn s'=>∃σ' H',Inv X pins σ' H' s'/\W n σ' H') ?_ m0 ⟨σ,H,I,w0⟩)
 rintro n s1 ⟨σ1,H1,I1,w1⟩;refine wpAny_passesOwn hp (thn (hc pins s1 σ1 H1 _ I1 (turn n σ1 H1 w1)) λb s2 ⟨H2,I2,q2⟩=>?_)
 cases b with
 |true=>
  obtain⟨N,hN,q2⟩:=q2;rw[if_pos rfl];refine wpAny_passesOwn hp (thn (hb pins s2 σ1 H2 _ I2 q2) λf s3 q3=>?_)
  cases f with
  |next=>
   obtain⟨σ3,H3,I3,n3⟩:=q3;obtain⟨m',hm,w3⟩:=hN σ3 H3 n3;exact⟨m',hm,σ3,H3,I3,w3⟩
  |cont=>
   obtain⟨σ3,H3,I3,n3⟩:=q3;obtain⟨m',hm,w3⟩:=hN σ3 H3 n3;exact⟨m',hm,σ3,H3,I3,w3⟩
  |brk=>exact q3
  |ret v=>exact q3
 |false=>
  rw[if_neg Bool.false_ne_true];exact wpAny_execs_nil ⟨σ1,H2,I2,q2⟩
end
structure It where
 go:Nat->Hp->Prop
 yld:Nat->Hp->V->Hp->Prop
 stop:Nat->Hp->Prop
def gU(X:Cx)(pins:List (Addr×Obj))(H:Hp)(b:Addr):Prop:=
 H b=none/\b≠X.env.locals/\b∉X.fs/\(b∈X.ex\/X.s₀.heap.objs.size<=b)/\(∀x c,X.env.cells.lookup x=some c->c≠b)/\∀p∈X.pn++pins,p.1≠b
theorem Inv.fpOk{X:Cx}{pins:List (Addr×Obj)}{σ:St}{H H':Hp}{s:Shared}{b:Addr}(I:Inv X pins σ H s)(hb:s.heap.objs.size<=b)(hn:H' b=none):gU X pins H' b:=by
 refine⟨hn,Nat.ne_of_gt (Nat.lt_of_lt_of_le I.lt hb),I.nofs hb,.inr (Nat.le_trans I.sz hb),λx c e z=>?_,λp hp z=>?_⟩
 ·obtain⟨v,q⟩:=I.cell x c e;exact absurd (Nat.lt_of_lt_of_le q.lt (by rw[z];exact hb)) (Nat.lt_irrefl _)
 ·exact absurd (Nat.lt_of_lt_of_le (lt_size (I.pin p hp).1) (by rw[z];exact hb)) (Nat.lt_irrefl _)
structure qc (P:Program) (w:World) (K:Frag) (tg:Expr) (J:It) (fp:List Addr) (it:Addr) (tn:Nat->Heap->Prop):Prop where
 mem:it∈fp
 obj:∀i h,tn i h->∀b∈fp,∃o,h.get? b=some o/\∀v,o.data≠.cell v
 keep:∀i h h',tn i h->(∀b∈fp,∀o,h.get? b=some o->h'.get? b=some o)->tn i h'
 item:∀(X:Cx),X.prog=P->X.w=w->X.K=K->X.calm=true->∀(i:Nat) (pins:List (Addr×Obj)) (s:Shared) (σ:St) (H:Hp) (E:Value->Shared->Prop),Inv X pins σ H s->(∀b∈fp,gU X pins H b)->tn i s.heap->J.go i H->
  wpAny (model P w) X.A (pyNext (.ref it)) (λr s1=>∃u,r=some u/\
   wpAny (model P w) X.A (letOwnedTupleGo tg (.ref it) u) (λ_ s2=>∃x H',Inv X pins σ H' s2/\F4 x u/\J.yld i H x H'/\tn (i+1) s2.heap/\∀b∈fp,H' b=none) E s1) E s
 done:∀(X:Cx),X.prog=P->X.w=w->X.K=K->X.calm=true->∀(i:Nat) (pins:List (Addr×Obj)) (s:Shared) (σ:St) (H:Hp) (E:Value->Shared->Prop),Inv X pins σ H s->(∀b∈fp,gU X pins H b)->tn i s.heap->J.stop i H->
  wpAny (model P w) X.A (pyNext (.ref it)) (λr s1=>r=none/\Inv X pins σ H s1) E s
 self:∀(A:Around) (i:Nat) (s:Shared) (Q:Value->Shared->Prop) (E:Value->Shared->Prop),tn i s.heap->Q (.ref it) s->wpAny (model P w) A (pyIter (.ref it)) Q E s
abbrev TI:=St->Hp->(It->Hp->Prop)->Prop
def PIE(X:Cx)(pins:List (Addr×Obj))(σ:St)(tg:Expr)(R:It->Hp->Prop)(itv:Value)(s2:Shared):Prop:=
 ∃(it:Addr) (fp:List Addr) (tn:Nat->Heap->Prop) (J:It) (H':Hp),itv=.ref it/\Inv X pins σ H' s2/\qc X.prog X.w X.K tg J fp it tn/\tn 0 s2.heap/\(∀b∈fp,gU X pins H' b)/\R J H'
def PI(X:Cx)(tg iter:Expr)(wi:TI):Prop:=
 ∀(pins:List (Addr×Obj)) (s:Shared) (σ:St) (H:Hp) (R:It->Hp->Prop),Inv X pins σ H s->wi σ H R->
  wpAny (model X.prog X.w) X.A (eval iter X.env) (λv s1=>wpAny (model X.prog X.w) X.A (pyIter v) (PIE X pins σ tg R) X.xe s1) X.xe s
theorem vW{M:Model}{A:Around}{E:Value->Shared->Prop}{s:Shared}{tg:Expr}{it:Addr}{u:Value}{o:Obj}{n:String}{vs:Array Value}{Q:Unit->Shared->Prop}(ho:s.heap.get? it=some o)(hc:o.cls=.type n)(hd:o.data=.fields vs)
  (hn:["enumerate", "zip", "dict_itemiterator", "dict_reverseitemiterator", "odict_iterator", "itertools.zip_longest", "itertools.pairwise"].contains n=false) (hQ:Q () s):wpAny M A (letOwnedTupleGo tg (.ref it) u) Q E s:=by
 unfold letOwnedTupleGo;cases tg<;>first
  |exact wpAny_pure hQ
  |(cases u<;>first
    |exact wpAny_pure hQ
    |(refine wpAny_bind (wpAny_load ho ?_)
      rw[hc,hd];show wpAny M A (if (["enumerate", "zip", "dict_itemiterator", "dict_reverseitemiterator", "odict_iterator", "itertools.zip_longest", "itertools.pairwise"].contains n&&vs[0]? == some (rawInt _))=true then _ else _) Q E s
      rw[if_neg (by intro h;rw[hn,Bool.false_and] at h;cases h)]
      exact wpAny_pure hQ))
def Itl(K:Frag)(a:Addr):It:=
 ⟨λi H=>∃xs x,SqL K H a xs/\xs[i]? = some x,λi H x H'=>H'=H/\∀xs,SqL K H a xs->xs[i]? = some x,λi H=>∃xs,SqL K H a xs/\xs.length<=i⟩
def Itt(K:Frag)(a:Addr):It:=
 ⟨λi H=>∃xs x,SqT K H a xs/\xs[i]? = some x,λi H x H'=>H'=H/\∀xs,SqT K H a xs->xs[i]? = some x,λi H=>∃xs,SqT K H a xs/\xs.length<=i⟩
def Itr(lo:Int)(n:Nat):It:=⟨λi _=>i<n,λi H x H'=>H'=H/\x=.int (lo+i),λi _=>n<=i⟩
theorem wC{P:Program}{w:World}{K:Frag}{tg:Expr}(a it:Addr):qc P w K tg (Itl K a) [it] it (λi h=>h.IsListIter it a i) where
 mem:=by simp
 obj:=λi h st b hb=>by
  have e:b=it:=by simpa using hb
  subst e;obtain⟨o,e,c,d⟩:=st;exact⟨o,e,λv z=>by rw[d] at z;cases z⟩
 keep:=λi h h' st k=>st.at λo e=>k it (by simp) o e
 item:=by
  intro X hP hw hK hc i pins s σ H E I hf st hg;subst hP hw hK;obtain⟨xs,x,hq,hx⟩:=hg;obtain⟨its,rv,p,hz⟩:=I.list hq;obtain⟨u,hu,ru⟩:=rv.get hx;obtain⟨f0,f1,f2,f3,f4,f5⟩:=hf it (by simp)
  refine wpAny_pyNext_list_item st p.isList (x:=u) (by simpa using hu) λh' st' sb=>?_
  have I1:Inv X pins σ H { s with heap:=h' }:=I.turned (t':=s.toks) (λb o hb e=>(sb.2 b hb).trans e) f0 f1 f3 f4 f5
  obtain⟨o,e,c,d⟩:=id st';exact⟨u,rfl,vW (s:={ s with heap:=h' }) e c d (by decide) ⟨x,H,I1,ru,⟨rfl,λys hy=>by rw[I.list_inj hy hq];exact hx⟩,st',λb hb=>(hf b hb).1⟩⟩
 done:=by
  intro X hP hw hK hc i pins s σ H E I hf st hg;subst hP hw hK;obtain⟨xs,hq,hx⟩:=hg;obtain⟨its,rv,p,hz⟩:=I.list hq;obtain⟨f0,f1,f2,f3,f4,f5⟩:=hf it (by simp)
  have hl:=rv.length;exact wpAny_pyNext_list_end (I.ok.hd hc) st p.isList (by simp;omega) λh' eb=>⟨rfl,I.turned (t':=s.toks) (λb o hb e=>eb b o hb e) f0 f1 f3 f4 f5⟩
 self:=λ_ _ _ _ _ st h=>wpAny_pyIter_listiter st h
theorem uF{P:Program}{w:World}{K:Frag}{tg:Expr}(a it:Addr):qc P w K tg (Itt K a) [it] it (λi h=>h.IsTupleIter it a i) where
 mem:=by simp
 obj:=λi h st b hb=>by
  have e:b=it:=by simpa using hb
  subst e;obtain⟨o,e,c,d⟩:=st;exact⟨o,e,λv z=>by rw[d] at z;cases z⟩
 keep:=λi h h' st k=>st.at λo e=>k it (by simp) o e
 item:=by
  intro X hP hw hK hc i pins s σ H E I hf st hg;subst hP hw hK;obtain⟨xs,x,hq,hx⟩:=hg;obtain⟨its,rv,p,hz⟩:=I.tuple hq;obtain⟨u,hu,ru⟩:=rv.get hx;obtain⟨f0,f1,f2,f3,f4,f5⟩:=hf it (by simp)
  refine wpAny_pyNext_tuple_item st (show s.heap.IsTuple a its.toArray from p) (x:=u) (by simpa using hu) λh' st' sb=>?_
  have I1:Inv X pins σ H { s with heap:=h' }:=I.turned (t':=s.toks) (λb o hb e=>(sb.2 b hb).trans e) f0 f1 f3 f4 f5
  obtain⟨o,e,c,d⟩:=id st';exact⟨u,rfl,vW (s:={ s with heap:=h' }) e c d (by decide) ⟨x,H,I1,ru,⟨rfl,λys hy=>by rw[I.tuple_inj hy hq];exact hx⟩,st',λb hb=>(hf b hb).1⟩⟩
 done:=by
  intro X hP hw hK hc i pins s σ H E I hf st hg;subst hP hw hK;obtain⟨xs,hq,hx⟩:=hg;obtain⟨its,rv,p,hz⟩:=I.tuple hq;obtain⟨f0,f1,f2,f3,f4,f5⟩:=hf it (by simp)
  have hl:=rv.length;exact wpAny_pyNext_tuple_end (I.ok.hd hc) st (show s.heap.IsTuple a its.toArray from p) (by simp;omega) λh' eb=>⟨rfl,I.turned (t':=s.toks) (λb o hb e=>eb b o hb e) f0 f1 f3 f4 f5⟩
 self:=λ_ _ _ _ _ st h=>wpAny_pyIter_tupleiter st h
theorem tU{P:Program}{w:World}{K:Frag}{tg:Expr}(it:Addr)(lo:Int)(n:Nat):qc P w K tg (Itr lo n) [it] it (λi h=>IsRangeIter h it (lo+(i:Nat)*1) ((n:Int)-(i:Nat)) 1) where
 mem:=by simp
 obj:=λi h st b hb=>by
  have e:b=it:=by simpa using hb
  subst e;exact⟨_,st,λv z=>by
   have z':Data.fields _=Data.cell v:=z;cases z'⟩
 keep:=λi h h' st k=>k it (by simp) _ st
 item:=by
  intro X hP hw hK hc i pins s σ H E I hf st hg;subst hP hw hK;obtain⟨f0,f1,f2,f3,f4,f5⟩:=hf it (by simp)
  have W:=Walks.range (prog:=X.prog) (w:=X.w) (I.ok.hd hc) it lo 1 n;refine W.item i s _ _ hg st λv h' tk hv st' kk=>?_
  obtain⟨t,rfl⟩:=hv;have I1:Inv X pins σ H { s with heap:=h',toks:=tk }:=I.turned (λb o hb e=>kk b o (by simpa using hb) e) f0 f1 f3 f4 f5
  refine⟨_,rfl,vW (s:={ s with heap:=h',toks:=tk }) (n := "range_iterator") st' rfl rfl (by decide) ⟨.int (lo+i),H,I1,⟨t,?_⟩,⟨rfl,rfl⟩,st',λb hb=>(hf b hb).1⟩⟩
  rw[Int.mul_one]
 done:=by
  intro X hP hw hK hc i pins s σ H E I hf st hg;subst hP hw hK;obtain⟨f0,f1,f2,f3,f4,f5⟩:=hf it (by simp)
  exact wpAny_pyNext_range_end (I.ok.hd hc) st (by have:n<=i:=hg;omega) λh' eb=>⟨rfl,I.turned (t':=s.toks) (λb o hb e=>eb b o hb e) f0 f1 f3 f4 f5⟩
 self:=λ_ _ _ _ _ st h=>wpAny_pyIter_rangeiter st h
section
variable {X:Cx} {tg:Expr}
def Dz(K:Frag)(tl:TE):TI:=λσ H R=>tl σ H λx H1=>∃a,x=.ref a/\(∃xs,SqL K H1 a xs)/\R (Itl K a) H1
def Fa(K:Frag)(tl:TE):TI:=λσ H R=>tl σ H λx H1=>∃a,x=.ref a/\(∃xs,SqT K H1 a xs)/\R (Itt K a) H1
theorem BJ{l:Expr}{tl:TE}(hl:PE X l tl):PI X tg l (Dz X.K tl):=by
 intro pins s σ H R I h;refine thn (hl pins s σ H _ I h) λv s1 ⟨x,H1,I1,r1,q1⟩=>?_
 obtain⟨a,e,⟨xs,hq⟩,q⟩:=q1;subst e;cases r1;obtain⟨its,rv,p,hz⟩:=I1.list hq;refine wpAny_pyIter_list p.isList ?_;refine⟨s1.heap.objs.size,[s1.heap.objs.size],_,_,H1,rfl,I1.kept (t':=s1.toks) λb o e=>get?_push_of_some _ e,wC a _,⟨_,get?_push_size _ rfl,rfl,rfl⟩,λb hb=>?_,q⟩
 have e:b=s1.heap.objs.size:=by simpa using hb
 subst e;exact I1.fpOk (Nat.le_refl _) (I1.hok.fresh (Nat.le_refl _))
theorem Ee{l:Expr}{tl:TE}(hl:PE X l tl):PI X tg l (Fa X.K tl):=by
 intro pins s σ H R I h;refine thn (hl pins s σ H _ I h) λv s1 ⟨x,H1,I1,r1,q1⟩=>?_
 obtain⟨a,e,⟨xs,hq⟩,q⟩:=q1;subst e;cases r1;obtain⟨its,rv,p,hz⟩:=I1.tuple hq;refine wpAny_pyIter_tuple (show s1.heap.IsTuple a its.toArray from p) ?_
 refine⟨s1.heap.objs.size,[s1.heap.objs.size],_,_,H1,rfl,I1.kept (t':=s1.toks) λb o e=>get?_push_of_some _ e,uF a _,⟨_,get?_push_size _ rfl,rfl,rfl⟩,λb hb=>?_,q⟩
 have e:b=s1.heap.objs.size:=by simpa using hb
 subst e;exact I1.fpOk (Nat.le_refl _) (I1.hok.fresh (Nat.le_refl _))
theorem rj{pins:List (Addr×Obj)}{σ:St}{H:Hp}{s:Shared}{R:It->Hp->Prop}{E:Value->Shared->Prop}{lo hi:Int}{t u v:Tok}{tk:Nat}(I:Inv X pins σ H s)(h1:-(2^62)<=lo)(h2:lo<2^62)(h3:-(2^62)<=hi)(h4:hi<2^62)
  (q:R (Itr lo (hi-lo).toNat) H):wpAny (model X.prog X.w) X.A (pyIter (.ref s.heap.objs.size)) (PIE X pins σ tg R) E { s with heap:=s.heap.push { cls:=.type "range",data:=.fields #[.int lo t,.int hi u,.int 1 v] },toks:=tk }:=by
 refine wpAny_pyIter_range (IsRange.new ..) (small_one h1 h2 h3 h4) ?_;have I1:Inv X pins σ H { s with heap:=s.heap.push { cls:=.type "range",data:=.fields #[.int lo t,.int hi u,.int 1 v] },toks:=tk }:=I.kept λb o e=>get?_push_of_some _ e
 refine⟨(s.heap.push { cls:=.type "range",data:=.fields #[.int lo t,.int hi u,.int 1 v] }).objs.size,[(s.heap.push { cls:=.type "range",data:=.fields #[.int lo t,.int hi u,.int 1 v] }).objs.size],_,_,H,rfl,
  I1.kept (t':=tk) λb o e=>get?_push_of_some _ e,tU _ lo (hi-lo).toNat,?_,λb hb=>?_,q⟩
 ·have e1:lo+((0:Nat):Int)*1=lo:=by simp
  have e2:(((hi-lo).toNat:Nat):Int)-((0:Nat):Int)=Builtin.Range.rangeSize lo hi 1:=by rw[rangeSize_one];split<;>omega
  show IsRangeIter _ _ (lo+((0:Nat):Int)*1) ((((hi-lo).toNat:Nat):Int)-((0:Nat):Int)) 1;rw[e1,e2];exact get?_push_size _ rfl
 ·have e:b=(s.heap.push { cls:=.type "range",data:=.fields #[.int lo t,.int hi u,.int 1 v] }).objs.size:=by simpa using hb
  subst e;exact I1.fpOk (Nat.le_refl _) (I1.hok.fresh (Nat.le_refl _))
def FL(ta:TA):TI:=λσ H R=>ta σ H λvs H1=>∃j:Int,vs=[.int j]/\-(2^62)<=j/\j<2^62/\R (Itr 0 j.toNat) H1
def FR(ta:TA):TI:=λσ H R=>ta σ H λvs H1=>∃i j:Int,vs=[.int i,.int j]/\(-(2^62)<=i/\i<2^62/\-(2^62)<=j/\j<2^62)/\R (Itr i (j-i).toNat) H1
theorem kD{a:Expr}{ta:TA}{p pos:Pos}(hg:Gl X "range")(hm:X.mg "range" = none)(ha:PA X [a] ta)(hs:starEach [a] X.env=[(false,eval a X.env)]:=by rfl):PI X tg (.Call (.Name "range" p) [a] [] pos) (FL ta):=by
 intro pins s σ H R I h;refine Call_ (io I hg hm boot_range (PyProof.Rows.callWith_type1 (thn (ha pos pins s σ H _ I h) λus s1 ⟨vs,H1,I1,r1,q1⟩=>?_) hs rfl))
 obtain⟨j,e,q1,q2,q⟩:=q1;subst e;cases r1 with
 |cons r rr=>
  cases rr;obtain⟨t,rfl⟩:=r;exact call_range_1 (rj I1 (by omega) (by omega) q1 q2 (by simpa using q))
theorem wM{a b:Expr}{ta:TA}{p pos:Pos}(hg:Gl X "range")(hm:X.mg "range" = none)(ha:PA X [a,b] ta)(hs:starEach [a,b] X.env=[(false,eval a X.env),(false,eval b X.env)]:=by rfl)(hs2:starEach [b] X.env=[(false,eval b X.env)]:=by rfl) :
  PI X tg (.Call (.Name "range" p) [a,b] [] pos) (FR ta):=by
 intro pins s σ H R I h;refine Call_ (io I hg hm boot_range (PyProof.Rows.callWith_type1 (thn (ha pos pins s σ H _ I h) λus s1 ⟨vs,H1,I1,r1,q1⟩=>?_) (by rw[hs,hs2]) (by rw[hs2];rfl)))
 obtain⟨i,j,e,⟨q1,q2,q3,q4⟩,q⟩:=q1;subst e;cases r1 with
 |cons r rr=>
  cases rr with
  |cons r' rr=>
   cases rr;obtain⟨t,rfl⟩:=r;obtain⟨t',rfl⟩:=r';exact call_range_2 (rj I1 q1 q2 q3 q4 q)
def tFor(wi:TI)(g:TG)(tb:TS):TS:=λD σ H=>wi σ H λJ H1=>∃W:Nat->Nat->St->Hp->Prop,(∃m,W 0 m σ H1)/\∀i m σ H,W i m σ H->
 (J.stop i H/\D.nx σ H)\/(J.go i H/\∃N:St->Hp->Prop,(∀σ' H',N σ' H'->∃m',m'<m/\W (i+1) m' σ' H')/\∀x H',J.yld i H x H'->g x σ H' λσ2 H2=>tb { D with nx:=N,ct:=N,bk:=D.nx } σ2 H2)
def jX(fp:List Addr)(h:Heap):List (Addr×Obj):=fp.filterMap λb=>(h.get? b).map λo=>(b,o)
theorem dX{fp:List Addr}{h:Heap}{b:Addr}{o:Obj}(hb:b∈fp)(e:h.get? b=some o):(b,o)∈jX fp h:=List.mem_filterMap.mpr ⟨b,hb,by rw[e];rfl⟩
theorem wZ{fp:List Addr}{h:Heap}{p:Addr×Obj}(hp:p∈jX fp h):p.1∈fp/\h.get? p.1=some p.2:=by
 obtain⟨b,hb,e⟩:=List.mem_filterMap.mp hp;cases q:h.get? b with
 |none=>rw[q] at e;cases e
 |some o=>
  rw[q] at e;have e':(b,o)=p:=Option.some.inj e;subst e';exact⟨hb,q⟩
theorem Inv.pinned{pins:List (Addr×Obj)}{σ:St}{H:Hp}{s:Shared}{fp:List Addr}(I:Inv X pins σ H s)(hf:∀b∈fp,gU X pins H b)(ho:∀b∈fp,∃o,s.heap.get? b=some o/\∀v,o.data≠.cell v):Inv X (pins++jX fp s.heap) σ H s:=
 I.pins_of λp hp=>(List.mem_append.mp hp).elim (λz=>I.pin p (mem_append_right _ z)) λz=>by
  obtain⟨hb,e⟩:=wZ z;obtain⟨f0,f1,f2,_⟩:=hf p.1 hb;obtain⟨o,e',d⟩:=ho p.1 hb;rw[e] at e';cases e';exact⟨e,f0,f1,f2,d⟩
theorem Inv.unpinned{pins pl:List (Addr×Obj)}{σ:St}{H:Hp}{s:Shared}(I:Inv X (pins++pl) σ H s):Inv X pins σ H s:=I.pins_of λp hp=>I.pin p (mem_append_right _ (mem_append_left _ hp))
theorem ja{iter:Expr}{body:List Stmt}{wi:TI}{g:TG}{tb:TS}{pos:Pos}(hp:PassesOwn (model X.prog X.w) X.A X.env X.xe)(hc:X.calm=true)(hi:PI X tg iter wi)(hg:PG X tg g)(hb:PSs X body tb)
  (hs:∀x,foldedSetIterable iter X.env x=pure x:=by intro _;rfl):PS X (.For tg iter body [] pos) (tFor wi g tb):=by
 intro pins s σ H D I h;refine wpAny_For (thn (hi pins s σ H _ I h) λv s1 h1=>thn h1 λitv s2 h2=>?_) hs
 obtain⟨it,fp,tn,J,H2,e,I2,T,st2,f2,W,⟨m0,w0⟩,turn⟩:=h2;subst e;have stat:∀{H':Hp},(∀b∈fp,H' b=none)->∀b∈fp,gU X pins H' b:=λhn b hb=>⟨hn b hb,(f2 b hb).2⟩
 refine codeAny_forLoop_any (λn s'=>∃i σ' H',Inv X pins σ' H' s'/\tn i s'.heap/\(∀b∈fp,H' b=none)/\W i n σ' H') ?_ m0 ⟨0,σ,H2,I2,st2,λb hb=>(f2 b hb).1,w0⟩
 rintro n s3 ⟨i,σ3,H3,I3,st3,fr3,w3⟩
 rcases turn i n σ3 H3 w3 with⟨stop,qn⟩|⟨go,N,hN,step⟩
 ·refine wpAny_passesOwn hp (thn (T.done X rfl rfl rfl hc i pins s3 σ3 H3 X.xe I3 (stat fr3) st3 stop) λr s4 ⟨hr,I4⟩=>?_)
  subst hr;exact wpAny_execs_nil ⟨σ3,H3,I4,qn⟩
 ·refine wpAny_passesOwn hp (thn (T.item X rfl rfl rfl hc i pins s3 σ3 H3 X.xe I3 (stat fr3) st3 go) λr s4 ⟨u,hr,h4⟩=>?_)
  subst hr;refine wpAny_passesOwn hp (thn h4 λ_ s5 ⟨x,H5,I5,r5,y5,st5,fr5⟩=>?_)
  have I5':=I5.pinned (stat fr5) (T.obj _ _ st5);refine wpAny_passesOwn hp (thn (hg _ s5 σ3 H5 x u _ I5' r5 (step x H5 y5)) λ_ s6 ⟨σ6,H6,I6,q6⟩=>?_)
  refine wpAny_passesOwn hp (thn (hb _ s6 σ6 H6 _ I6 q6) λf s7 q7=>?_)
  have again:∀{σ7:St} {H7:Hp},Inv X (pins++jX fp s5.heap) σ7 H7 s7->N σ7 H7->∃m,m<n/\∃i σ' H',Inv X pins σ' H' s7/\tn i s7.heap/\(∀b∈fp,H' b=none)/\W i m σ' H':=λ{σ7 H7} I7 n7=>by
   obtain⟨m',hm,w7⟩:=hN σ7 H7 n7;refine⟨m',hm,i+1,σ7,H7,I7.unpinned,T.keep _ _ _ st5 λb hb o e=>(I7.pin (b,o) (mem_append_right _ (mem_append_right _ (dX hb e)))).1,λb hb=>?_,w7⟩
   obtain⟨o,e,d⟩:=T.obj _ _ st5 b hb;exact(I7.pin (b,o) (mem_append_right _ (mem_append_right _ (dX hb e)))).2.1
  cases f with
  |next=>obtain⟨σ7,H7,I7,n7⟩:=q7;exact again I7 n7
  |cont=>obtain⟨σ7,H7,I7,n7⟩:=q7;exact again I7 n7
  |brk=>obtain⟨σ7,H7,I7,q7⟩:=q7;exact⟨σ7,H7,I7.unpinned,q7⟩
  |ret v=>obtain⟨x7,σ7,H7,I7,r7,q7⟩:=q7;exact⟨x7,σ7,H7,I7.unpinned,r7,q7⟩
end
theorem sP{K:Frag}{a:Addr}{xs:List V}{g:TG}{tb:TS}{D:fJ}{σ:St}{H:Hp}(Pv:Nat->St->Hp->Prop)(h0:Pv 0 σ H)(hl:∀i σ H,i<=xs.length->Pv i σ H->SqL K H a xs)
  (hs:∀i x σ H,xs[i]? = some x->Pv i σ H->g x σ H λσ2 H2=>tb { D with nx:=Pv (i+1),ct:=Pv (i+1),bk:=D.nx } σ2 H2) (hd:∀σ H,Pv xs.length σ H->D.nx σ H) :
  ∃W:Nat->Nat->St->Hp->Prop,(∃m,W 0 m σ H)/\∀i m σ H,W i m σ H->
   ((Itl K a).stop i H/\D.nx σ H)\/((Itl K a).go i H/\∃N:St->Hp->Prop,(∀σ' H',N σ' H'->∃m',m'<m/\W (i+1) m' σ' H')/\∀x H',(Itl K a).yld i H x H'->g x σ H' λσ2 H2=>tb { D with nx:=N,ct:=N,bk:=D.nx } σ2 H2):=by
 refine⟨λi m σ H=>m=xs.length-i/\i<=xs.length/\Pv i σ H,⟨xs.length,by simp,Nat.zero_le _,h0⟩,?_⟩
 rintro i m σ H ⟨rfl,hi,p⟩;have q:=hl i σ H hi p
 by_cases hlt:i<xs.length
 ·refine .inr ⟨⟨xs,xs[i],q,by simp[hlt]⟩,Pv (i+1),λσ' H' p'=>⟨xs.length-(i+1),by omega,rfl,hlt,p'⟩,λx H' y=>?_⟩
  obtain⟨e,y⟩:=y;subst e;exact hs i x σ _ (y xs q) p
 ·have e:i=xs.length:=by omega
  subst e;exact .inl ⟨⟨xs,q,Nat.le_refl _⟩,hd σ H p⟩
theorem pI{lo:Int}{n:Nat}{g:TG}{tb:TS}{D:fJ}{σ:St}{H:Hp}(Pv:Nat->St->Hp->Prop)(h0:Pv 0 σ H)
  (hs:∀i σ H,i<n->Pv i σ H->g (.int (lo+i)) σ H λσ2 H2=>tb { D with nx:=Pv (i+1),ct:=Pv (i+1),bk:=D.nx } σ2 H2) (hd:∀σ H,Pv n σ H->D.nx σ H) :
  ∃W:Nat->Nat->St->Hp->Prop,(∃m,W 0 m σ H)/\∀i m σ H,W i m σ H->
   ((Itr lo n).stop i H/\D.nx σ H)\/((Itr lo n).go i H/\∃N:St->Hp->Prop,(∀σ' H',N σ' H'->∃m',m'<m/\W (i+1) m' σ' H')/\∀x H',(Itr lo n).yld i H x H'->g x σ H' λσ2 H2=>tb { D with nx:=N,ct:=N,bk:=D.nx } σ2 H2):=by
 refine⟨λi m σ H=>m=n-i/\i<=n/\Pv i σ H,⟨n,by simp,Nat.zero_le _,h0⟩,?_⟩
 rintro i m σ H ⟨rfl,hi,p⟩
 by_cases hlt:i<n
 ·refine .inr ⟨hlt,Pv (i+1),λσ' H' p'=>⟨n-(i+1),by omega,rfl,hlt,p'⟩,λx H' y=>?_⟩
  obtain⟨e,y⟩:=y;subst e y;exact hs i σ _ hlt p
 ·have e:i=n:=by omega
  subst e;exact .inl ⟨Nat.le_refl _,hd σ H p⟩
theorem je{c:TT}{tb:TS}{D:fJ}{σ:St}{H:Hp}(Pv:St->Hp->Prop)(μ:St->Hp->Nat)(h0:Pv σ H)
  (hs:∀σ H,Pv σ H->c σ H λb H1=>if b=true then tb { D with nx:=λσ' H'=>Pv σ' H'/\μ σ' H'<μ σ H,ct:=λσ' H'=>Pv σ' H'/\μ σ' H'<μ σ H,bk:=D.nx } σ H1 else D.nx σ H1)
  (mono:∀σ H Q Q',(∀b H1,Q b H1->Q' b H1)->c σ H Q->c σ H Q'):zk c tb D σ H:=by
 refine⟨λm σ H=>m=μ σ H/\Pv σ H,⟨_,rfl,h0⟩,?_⟩
 rintro m σ H ⟨rfl,p⟩;refine mono σ H _ _ (λb H1 q=>?_) (hs σ H p)
 cases b with
 |true=>exact⟨_,λσ' H' ⟨p',l⟩=>⟨_,l,rfl,p'⟩,q⟩
 |false=>exact q
abbrev R2:=V->V->Hp->VK->Prop
def OpR(X:Cx)(f:Value->Value->Sem Value)(r:R2):Prop:=
 ∀(pins:List (Addr×Obj)) (s:Shared) (σ:St) (H:Hp) (x y:V) (v u:Value) (Q:VK),Inv X pins σ H s->F4 x v->F4 y u->r x y H Q->
  wpAny (model X.prog X.w) X.A (f v u) (EP X pins σ Q) X.xe s
def UnR(X:Cx)(f:Value->Sem Value)(r:V->Hp->VK->Prop):Prop:=
 ∀(pins:List (Addr×Obj)) (s:Shared) (σ:St) (H:Hp) (x:V) (v:Value) (Q:VK),Inv X pins σ H s->F4 x v->r x H Q->
  wpAny (model X.prog X.w) X.A (f v) (EP X pins σ Q) X.xe s
def eY(X:Cx)(f:Value)(r:List V->Hp->VK->Prop):Prop:=
 ∀(pins:List (Addr×Obj)) (s:Shared) (σ:St) (H:Hp) (xs:List V) (us:List Value) (Q:VK),Inv X pins σ H s->F1 xs us->r xs H Q->
  wpAny (model X.prog X.w) X.A (call f us) (EP X pins σ Q) X.xe s
def tOp(r:R2)(ta tb:TE):TE:=λσ H Q=>ta σ H λx H1=>tb σ H1 λy H2=>r x y H2 Q
def tUn(r:V->Hp->VK->Prop)(ta:TE):TE:=λσ H Q=>ta σ H λx H1=>r x H1 Q
def rI(C:Int->Int->Prop)(g:Int->Int->V):R2:=λx y H Q=>∃i j,x=.int i/\y=.int j/\C i j/\Q (g i j) H
def rI0(g:Int->Int->V):R2:=λx y H Q=>∃i j,x=.int i/\y=.int j/\Q (g i j) H
def rU(g:Int->V):V->Hp->VK->Prop:=λx H Q=>∃i,x=.int i/\Q (g i) H
section
variable {X:Cx} {a b c:Expr} {ta tb tc:TE} {pos:Pos}
theorem D4(ha:PE X a ta)(hb:PE X b tb){pins:List (Addr×Obj)}{s:Shared}{σ:St}{H:Hp}{R:V->V->Hp->Prop}(I:Inv X pins σ H s)
  (h:ta σ H λx H1=>tb σ H1 λy H2=>R x y H2) {Q:Value->Shared->Prop} {f:Value->Value->Sem Value}
  (hf:∀v u s2 x y H2,Inv X pins σ H2 s2->F4 x v->F4 y u->R x y H2->wpAny (model X.prog X.w) X.A (f v u) Q X.xe s2) :
  wpAny (model X.prog X.w) X.A (eval a X.env) (λv s₁=>wpAny (model X.prog X.w) X.A (eval b X.env) (λu s₂=>wpAny (model X.prog X.w) X.A (f v u) Q X.xe s₂) X.xe s₁) X.xe s:=by
 refine thn (ha pins s σ H _ I h) λv s1 ⟨x,H1,I1,r1,q1⟩=>?_
 refine thn (hb pins s1 σ H1 _ I1 q1) λu s2 ⟨y,H2,I2,r2,q2⟩=>?_
 exact hf v u s2 x y H2 I2 r1 r2 q2
theorem aH{op:Operator}{r:R2}(ho:OpR X (binaryOp op) r)(ha:PE X a ta)(hb:PE X b tb):PE X (.BinOp a op b pos) (tOp r ta tb):=by
 intro pins s σ H Q I h;exact wpAny_BinOp (D4 ha hb I h λv u s2 x y H2 I2 rx ry q=>ho pins s2 σ H2 x y v u Q I2 rx ry q)
theorem kF{op:UnaryOp}{r:V->Hp->VK->Prop}(ho:UnR X (unaryOp op) r)(ha:PE X a ta):PE X (.UnaryOp op a pos) (tUn r ta):=by
 intro pins s σ H Q I h;exact UnaryOp_ (thn (ha pins s σ H _ I h) λv s1 ⟨x,H1,I1,r1,q1⟩=>ho pins s1 σ H1 x v Q I1 r1 q1)
theorem opI{f:Value->Value->Sem Value}{C:Int->Int->Prop}{g:Int->Int->Int}
  (rule:∀(i j:Int) (t u:Tok) (s:Shared) (Q:Value->Shared->Prop) (E:Value->Shared->Prop),C i j->Q (.int (g i j) s.toks) { s with toks:=s.toks+1 }->wpAny (model X.prog X.w) X.A (f (.int i t) (.int j u)) Q E s) :
  OpR X f (rI C λi j=>.int (g i j)):=by
 intro pins s σ H x y v u Q I rx ry h;obtain⟨i,j,rfl,rfl,hc,q⟩:=h;obtain⟨t,rfl⟩:=rx;obtain⟨t',rfl⟩:=ry;exact rule i j t t' s _ _ hc ⟨.int (g i j),H,I.tok _,⟨_,rfl⟩,q⟩
theorem Fy{f:Value->Value->Sem Value}{g:Int->Int->Int}
  (rule:∀(i j:Int) (t u:Tok) (s:Shared) (Q:Value->Shared->Prop) (E:Value->Shared->Prop),Q (.int (g i j) s.toks) { s with toks:=s.toks+1 }->wpAny (model X.prog X.w) X.A (f (.int i t) (.int j u)) Q E s) :
  OpR X f (rI0 λi j=>.int (g i j)):=by
 intro pins s σ H x y v u Q I rx ry h;obtain⟨i,j,rfl,rfl,q⟩:=h;obtain⟨t,rfl⟩:=rx;obtain⟨t',rfl⟩:=ry;exact rule i j t t' s _ _ ⟨.int (g i j),H,I.tok _,⟨_,rfl⟩,q⟩
theorem Ct{f:Value->Value->Sem Value}{g:Int->Int->Bool}
  (rule:∀(i j:Int) (t u:Tok) (s:Shared) (Q:Value->Shared->Prop) (E:Value->Shared->Prop),Q (.bool (g i j)) s->wpAny (model X.prog X.w) X.A (f (.int i t) (.int j u)) Q E s) :
  OpR X f (rI0 λi j=>.bl (g i j)):=by
 intro pins s σ H x y v u Q I rx ry h;obtain⟨i,j,rfl,rfl,q⟩:=h;obtain⟨t,rfl⟩:=rx;obtain⟨t',rfl⟩:=ry;exact rule i j t t' s _ _ ⟨.bl (g i j),H,I,rfl,q⟩
def CPow(i j:Int):Prop:=0<=j/\j<=1000000/\i.natAbs<2^64
def CMul(i j:Int):Prop:=(-(2^64)<i/\i<2^64)\/(-(2^64)<j/\j<2^64)
theorem CMul.ok{i j:Int}(h:CMul i j):IntMulOk i j:=by
 rcases h with⟨h1,h2⟩|⟨h1,h2⟩
 ·exact .of_left (intBits_le_64 h1 h2)
 ·exact .of_right (intBits_le_64 h1 h2)
theorem cN:OpR X (binaryOp .Add) (rI0 λi j=>.int (i+j)):=Fy λ_ _ _ _ _ _ _ q=>add_int q
theorem kq:OpR X (binaryOp .Sub) (rI0 λi j=>.int (i-j)):=Fy λ_ _ _ _ _ _ _ q=>sub_int q
theorem dE:OpR X (binaryOp .Mult) (rI CMul λi j=>.int (i*j)):=opI λ_ _ _ _ _ _ _ hc q=>mul_int q hc.ok
theorem cP:OpR X (binaryOp .Mod) (rI (λ_ j=>0<j) λi j=>.int (i%j)):=opI λi j _ _ _ _ _ hc q=>by
 have h1:(0:Int)<j:=hc;exact mod_int' (by omega) (by rw[Int.fmod_eq_emod_of_nonneg i (by omega)];exact q)
theorem zu:OpR X (binaryOp .Pow) (rI CPow λi j=>.int (i^j.toNat)):=opI λ_ _ _ _ _ _ _ hc q=>pow_int_small hc.1 hc.2.1 hc.2.2 q
theorem unI{f:Value->Sem Value}{g:Int->Int}
  (rule:∀(i:Int) (t:Tok) (s:Shared) (Q:Value->Shared->Prop) (E:Value->Shared->Prop),Q (.int (g i) s.toks) { s with toks:=s.toks+1 }->wpAny (model X.prog X.w) X.A (f (.int i t)) Q E s) :
  UnR X f (rU λi=>.int (g i)):=by
 intro pins s σ H x v Q I rx h;obtain⟨i,rfl,q⟩:=h;obtain⟨t,rfl⟩:=rx;exact rule i t s _ _ ⟨.int (g i),H,I.tok _,⟨_,rfl⟩,q⟩
theorem g0:UnR X (unaryOp .USub) (rU λi=>.int (-i)):=unI λ_ _ _ _ _ q=>neg_int q
end
def FA:V->V->Bool
 |.non,.non=>true|.non,.int _=>true|.int _,.non=>true|.non,.bl _=>true|.bl _,.non=>true|.non,.str _=>true|.str _,.non=>true
 |.int _,.int _=>true|.bl _,.bl _=>true|.str _,.str _=>true|.byt _,.byt _=>true
 |.int _,.str _=>true|.str _,.int _=>true|.bl _,.str _=>true|.str _,.bl _=>true
 |_,_=>false
def rEq:R2:=λx y H Q=>FA x y=true/\Q (.bl (decide (x=y))) H
def rNe:R2:=λx y H Q=>FA x y=true/\Q (.bl (!decide (x=y))) H
theorem vK{i j:Int}:decide (V.int i=V.int j)=(i==j):=by
 rw[Bool.eq_iff_iff];simp
theorem yI{i j:Bool}:decide (V.bl i=V.bl j)=(i==j):=by
 rw[Bool.eq_iff_iff];simp
theorem vC{i j:Str}:decide (V.str i=V.str j)=(i==j):=by
 rw[Bool.eq_iff_iff];simp
theorem vQ{i j:Array UInt8}:decide (V.byt i=V.byt j)=(i.toList==j.toList):=by
 rw[Bool.eq_iff_iff];cases i;cases j;simp
section
variable {X:Cx} {a b c:Expr} {ta tb tc:TE} {pos:Pos}
theorem be{pins:List (Addr×Obj)}{σ:St}{H:Hp}{s:Shared}{Q:VK}{k k':Bool}(I:Inv X pins σ H s)(q:Q (.bl k) H)(e:k=k'):EP X pins σ Q (.bool k') s:=by
 subst e;exact⟨.bl k,H,I,rfl,q⟩
theorem ba:OpR X (compareOp .Eq) rEq:=by
 intro pins s σ H x y v u Q I rx ry h;obtain⟨hs,q⟩:=h;cases x with
 |non=>
  cases rx;cases y with
  |non=>cases ry;exact PySem.EqNone.eq_none_none (be I q (by simp))
  |bl j=>cases ry;exact PySem.EqNone.eq_none_bool (be I q (by simp))
  |int j=>obtain⟨t',rfl⟩:=ry;exact PySem.EqNone.eq_none_int (be I q (by simp))
  |str j=>obtain⟨t',rfl⟩:=ry;exact PySem.EqNone.eq_none_str (be I q (by simp))
  |_=>exact absurd (show false=true from hs) Bool.false_ne_true
 |bl i=>
  cases rx;cases y with
  |non=>cases ry;exact PySem.EqNone.eq_bool_none (be I q (by simp))
  |bl j=>cases ry;exact eq_bool (be I q yI)
  |str j=>obtain⟨t',rfl⟩:=ry;exact PySem.EqMixed.eq_bool_str (be I q (by simp))
  |_=>exact absurd (show false=true from hs) Bool.false_ne_true
 |int i=>
  obtain⟨t,rfl⟩:=rx;cases y with
  |non=>cases ry;exact PySem.EqNone.eq_int_none (be I q (by simp))
  |int j=>obtain⟨t',rfl⟩:=ry;exact eq_int (be I q vK)
  |str j=>obtain⟨t',rfl⟩:=ry;exact PySem.EqMixed.eq_int_str (be I q (by simp))
  |_=>exact absurd (show false=true from hs) Bool.false_ne_true
 |str i=>
  obtain⟨t,rfl⟩:=rx;cases y with
  |non=>cases ry;exact PySem.EqNone.eq_str_none (be I q (by simp))
  |bl j=>cases ry;exact PySem.EqMixed.eq_str_bool (be I q (by simp))
  |int j=>obtain⟨t',rfl⟩:=ry;exact PySem.EqMixed.eq_str_int (be I q (by simp))
  |str j=>obtain⟨t',rfl⟩:=ry;exact eq_str (be I q vC)
  |_=>exact absurd (show false=true from hs) Bool.false_ne_true
 |byt i=>
  obtain⟨t,rfl⟩:=rx;cases y with
  |byt j=>obtain⟨t',rfl⟩:=ry;exact PySem.W.eq_bytes (be I q vQ)
  |_=>exact absurd (show false=true from hs) Bool.false_ne_true
 |_=>cases y<;>exact absurd (show false=true from hs) Bool.false_ne_true
theorem iz:OpR X (compareOp .NotEq) rNe:=by
 intro pins s σ H x y v u Q I rx ry h;obtain⟨hs,q⟩:=h;cases x with
 |non=>
  cases rx;cases y with
  |non=>cases ry;exact PySem.EqNone.ne_none_none (be I q (by simp))
  |bl j=>cases ry;exact PySem.EqNone.ne_none_bool (be I q (by simp))
  |int j=>obtain⟨t',rfl⟩:=ry;exact PySem.EqNone.ne_none_int (be I q (by simp))
  |str j=>obtain⟨t',rfl⟩:=ry;exact PySem.EqNone.ne_none_str (be I q (by simp))
  |_=>exact absurd (show false=true from hs) Bool.false_ne_true
 |bl i=>
  cases rx;cases y with
  |non=>cases ry;exact PySem.EqNone.ne_bool_none (be I q (by simp))
  |bl j=>cases ry;exact ne_bool (be I q (congrArg not yI))
  |str j=>obtain⟨t',rfl⟩:=ry;exact PySem.EqMixed.ne_bool_str (be I q (by simp))
  |_=>exact absurd (show false=true from hs) Bool.false_ne_true
 |int i=>
  obtain⟨t,rfl⟩:=rx;cases y with
  |non=>cases ry;exact PySem.EqNone.ne_int_none (be I q (by simp))
  |int j=>obtain⟨t',rfl⟩:=ry;exact ne_int (be I q (congrArg not vK))
  |str j=>obtain⟨t',rfl⟩:=ry;exact PySem.EqMixed.ne_int_str (be I q (by simp))
  |_=>exact absurd (show false=true from hs) Bool.false_ne_true
 |str i=>
  obtain⟨t,rfl⟩:=rx;cases y with
  |non=>cases ry;exact PySem.EqNone.ne_str_none (be I q (by simp))
  |bl j=>cases ry;exact PySem.EqMixed.ne_str_bool (be I q (by simp))
  |int j=>obtain⟨t',rfl⟩:=ry;exact PySem.EqMixed.ne_str_int (be I q (by simp))
  |str j=>obtain⟨t',rfl⟩:=ry;exact ne_str (be I q (congrArg not vC))
  |_=>exact absurd (show false=true from hs) Bool.false_ne_true
 |byt i=>
  obtain⟨t,rfl⟩:=rx;cases y with
  |byt j=>obtain⟨t',rfl⟩:=ry;exact PySem.W.ne_bytes (be I q (congrArg not vQ))
  |_=>exact absurd (show false=true from hs) Bool.false_ne_true
 |_=>cases y<;>exact absurd (show false=true from hs) Bool.false_ne_true
theorem gO:OpR X (compareOp .Lt) (rI0 λi j=>.bl (decide (i<j))):=Ct λ_ _ _ _ _ _ _ q=>lt_int q
theorem sj:OpR X (compareOp .LtE) (rI0 λi j=>.bl (decide (i<=j))):=Ct λ_ _ _ _ _ _ _ q=>le_int q
theorem gL:OpR X (compareOp .Gt) (rI0 λi j=>.bl (decide (j<i))):=Ct λ_ _ _ _ _ _ _ q=>gt_int q
theorem Bg:OpR X (compareOp .GtE) (rI0 λi j=>.bl (decide (j<=i))):=Ct λ_ _ _ _ _ _ _ q=>ge_int q
theorem wV:OpR X (compareOp .In) (λx y H Q=>∃i j,x=.str i/\y=.str j/\Q (.bl (!(Builtin.Str.occurrences j i 0 j.length 1).isEmpty)) H):=by
 intro pins s σ H x y v u Q I rx ry h;obtain⟨i,j,rfl,rfl,q⟩:=h;obtain⟨t,rfl⟩:=rx;obtain⟨t',rfl⟩:=ry;exact in_str (be I q rfl)
theorem CW:OpR X (compareOp .IsNot) (λx y H Q=>y=.non/\Q (.bl (!decide (x=.non))) H):=by
 intro pins s σ H x y v u Q I rx ry h;obtain⟨rfl,q⟩:=h;cases ry;refine isnot_none_gen (be I q ?_);cases x<;>first
  |(cases rx;rfl)
  |(obtain⟨t,rfl⟩:=rx;rfl)
theorem ao(b:Expr){op:CmpOp}(h:op≠.In:=by decide)(h2:op≠.NotIn:=by decide):behindInMarks op b=false:=by
 have e1:(op==CmpOp.In)=false:=by cases op<;>first|rfl|exact absurd rfl h
 have e2:(op==CmpOp.NotIn)=false:=by cases op<;>first|rfl|exact absurd rfl h2
 cases b<;>simp[behindInMarks,e1,e2]
theorem bF{op:CmpOp}{r:R2}(ho:OpR X (compareOp op) r)(ha:PE X a ta)(hb:PE X b tb)(hm:behindInMarks op b=false):PE X (.Compare a [op] [b] pos) (tOp r ta tb):=by
 intro pins s σ H Q I h;exact wpAny_Compare1 (D4 ha hb I h λv u s2 x y H2 I2 rx ry q=>ho pins s2 σ H2 x y v u Q I2 rx ry q) hm
def Fm(t:TE):TT:=λσ H Q=>t σ H λx H'=>∃k,x=.bl k/\Q k H'
theorem aA{op:CmpOp}{r:R2}(ho:OpR X (compareOp op) r)(ha:PE X a ta)(hb:PE X b tb)(hm:behindInMarks op b=false):PT X (.Compare a [op] [b] pos) (Fm (tOp r ta tb)):=by
 intro pins s σ H Q I h;refine wpAny_isTrue_Compare1 (thn (ha pins s σ H _ I h) λv s1 ⟨x,H1,I1,r1,q1⟩=>thn (hb pins s1 σ H1 _ I1 q1) λu s2 ⟨y,H2,I2,r2,q2⟩=>
  thn (ho pins s2 σ H2 x y v u _ I2 r1 r2 q2) λc s3 ⟨z,H3,I3,r3,k,e,q3⟩=>?_) hm
 subst e;cases r3;exact wpAny_truthy_bool ⟨H3,I3,q3⟩
theorem mM:(sizeLine:Nat)<2^63:=by rw[sizeLine_eq];decide
theorem aE:OpR X (binaryOp .Add) (λx y H Q=>∃i j,x=.str i/\y=.str j/\i.length+j.length<=sizeLine/\Q (.str (i++j)) H):=by
 intro pins s σ H x y v u Q I rx ry h;obtain⟨i,j,rfl,rfl,hz,q⟩:=h;obtain⟨t,rfl⟩:=rx;obtain⟨t',rfl⟩:=ry;exact add_str (λt' tk=>⟨.str (i++j),H,I.tok _,⟨_,rfl⟩,q⟩) hz
theorem gM{x:V}{us:List Value}(r:F1 [x] us):∃u,us=[u]/\F4 x u:=by
 cases r with
 |cons r1 r2=>cases r2;exact⟨_,rfl,r1⟩
theorem vN{x y:V}{us:List Value}(r:F1 [x,y] us):∃u w',us=[u,w']/\F4 x u/\F4 y w':=by
 cases r with
 |cons r1 r2=>
  cases r2 with
  |cons r3 r4=>cases r4;exact⟨_,_,rfl,r1,r3⟩
theorem yD:eY X (.builtin "abs") (λxs H Q=>∃i,xs=[.int i]/\Q (.int (if i<0 then -i else i)) H):=by
 intro pins s σ H xs us Q I r h;obtain⟨i,rfl,q⟩:=h;obtain⟨u,rfl,t,rfl⟩:=gM r;exact call_abs_int λu tk=>⟨.int (if i<0 then -i else i),H,I.tok _,⟨_,rfl⟩,q⟩
theorem pN:eY X (.type "int") (λxs H Q=>(∃i,xs=[.int i]/\Q (.int i) H)\/∃k,xs=[.bl k]/\Q (.int (if k then 1 else 0)) H):=by
 intro pins s σ H xs us Q I r h
 rcases h with⟨i,rfl,q⟩|⟨k,rfl,q⟩
 ·obtain⟨u,rfl,t,rfl⟩:=gM r;exact call_int_int ⟨.int i,H,I,⟨_,rfl⟩,q⟩
 ·obtain⟨u,rfl,r1⟩:=gM r;cases r1;exact call_int_bool ⟨.int (if k then 1 else 0),H,I.tok _,⟨_,rfl⟩,q⟩
theorem aX:eY X (.type "str") (λxs H Q=>∃i,xs=[.int i]/\i.natAbs.log2<1920/\Q (.str (toString i)) H):=by
 intro pins s σ H xs us Q I r h;obtain⟨i,rfl,hz,q⟩:=h;obtain⟨u,rfl,t,rfl⟩:=gM r;exact PySem.P.str_of_int hz ⟨.str _,H,I.tok _,⟨_,rfl⟩,q⟩
end
structure ObjM (h:Heap) (x dx C:Addr) (mA:Str->Option Value):Prop where
 obj:h.get? x=some (instObj C dx)
 ns:h.Ns1 dx mA
 ne:dx≠x
theorem xO{h:Heap}{dx:Addr}{mA:Str->Option Value}(n:h.Ns1 dx mA):∃od,h.get? dx=some od/\∀name,lookIn name od=some (mA name):=by
 obtain⟨o,es,ep,ho,hd,hk,_,hm⟩:=n;refine⟨o,ho,λname=>?_⟩
 have e:=hm name;unfold nsFind findBy at e;rw[<- Array.find?_toList] at e;unfold lookIn;rw[hd];dsimp only
 split
 ·rename_i y q;rw[q] at e;exact congrArg some e
 ·rename_i q;rw[q] at e;have a:es.toList.any (·.refKey)=false:=by
   rw[List.any_eq_false];intro y hy;obtain⟨z,t,hkey⟩:=hk y (Array.mem_toList_iff.mp hy);simp[DictEntry.refKey,hkey]
  have a':¬es.toList.any (·.refKey)=true:=by rw[a];exact Bool.false_ne_true
  rw[if_neg a'];exact congrArg some e
theorem ObjM.look{h:Heap}{x dx C:Addr}{mA:Str->Option Value}(I:ObjM h x dx C mA):∃od,PySem.W.InstAt h x (instObj C dx) C (some od)/\∀name,lookIn name od=some (mA name):=
 let ⟨od,ho,hl⟩:=xO I.ns
 ⟨od,⟨I.obj,rfl,rfl,ho⟩,hl⟩
section
variable {prog:Program} {w:World} {A:Around} {E:Value->Shared->Prop} {s:Shared} {K:Frag} {x dx C f:Addr} {mA:Str->Option Value} {name:Str} {v:Value}
theorem CK{expr:Bool}{Q:Value->Shared->Prop}(X:K.In s.heap)(I:ObjM s.heap x dx C mA)(hg:plainGet K C name=true)(hh:hasDictIn K C=true)
  (ha:findIn K (.ref C) name=some none) (hv:mA name=some v) (hv':PySem.W.handedIn v=true) (h:Q v { s with toks:=s.toks+1 }) :
  wpAny (model prog w) A (getAttr (.ref x) name expr) Q E s:=by
 obtain⟨od,J,hl⟩:=I.look;exact PySem.W.get_value X J (PySem.W.plainGet_of hg).1 (PySem.W.findObj_own hh ha rfl (by rw[hl,hv])) hv' h
theorem zD{pl:Sem Bool}{Q:Value×List Value->Shared->Prop}(X:K.In s.heap)(I:ObjM s.heap x dx C mA)(hg:plainGet K C name=true)
  (hf:findIn K (.ref C) name=some (some (.ref f))) (ht:isFn K (.ref f)=true) (hv:mA name=none) (h:Q (.ref f,[.ref x]) s) :
  wpAny (model prog w) A (getMethod (.ref x) name pl) Q E s:=by
 obtain⟨od,J,hl⟩:=I.look;exact PySem.W.method_fn X J (PySem.W.plainGet_of hg).1 (PySem.W.plainGet_of hg).2 hf (beq_iff_eq.mp ht) (by show(lookIn name od).map (·.isSome)=some false;rw[hl,hv];rfl) h
theorem Bs{ns:List Str}{Q:Unit->Shared->Prop}(X:K.In s.heap)(I:ObjM s.heap x dx C mA)
  (hs:findIn K (.ref C) "__setattr__"=some (some (.builtin "object.__setattr__"))) (hp:plainOver K C=true) (ht:PySem.W.takerIn K C name=some none) (hh:hasDictIn K C=true)
  (hw:PySem.Within mA ns) (hsz:ns.length<=sizeLine)
  (h:∀h',ObjM h' x dx C (λy=>if y=name then some v else mA y)->Heap.SameBut dx s.heap h'->Q () { s with heap:=h',toks:=s.toks+2 }) :
  wpAny (model prog w) A (setAttr (.ref x) name v) Q E s:=by
 obtain⟨od,J,hl⟩:=I.look;refine PySem.W.set_plain X J hs (PySem.W.osa_open (s:={ s with toks:=s.toks+1 }) (r:=none) X J hp ht λb=>?_)
 obtain⟨cd,hc,hd'⟩:=PySem.W.any_some hh;have hx:s.heap.get? x=some ⟨.ref C,some dx,.plain,#[]⟩:=I.obj;refine wpAny_bind (wpAny_pure (wpAny_bind (wpAny_bind (wpAny_loadPart hx (wpAny_bind (PySem.W.Looks.here (s:={ s with toks:=s.toks+1 }) (PySem.W.looks_clsIn X hc) ?_))))))
 rw[hd'];refine wpAny_pure (a:=some dx) (wpAny_bind (wpAny_pure (wpAny_bind ?_)));refine wpAny_nsSet1 (s:={ s with toks:=s.toks+1 }) I.ns λh' hn2 hs2=>?_
 obtain⟨oD,esD,epD,hoD,hdD,hcD⟩:=hn2.count (PySem.Within.cons name v hw);refine wpAny_bind (wpAny_lookBehind hoD (by rw[hdD];exact pastItsLine_dict (Nat.le_trans hcD (by rw[length_cons];omega))) ?_)
 exact wpAny_pure (h _ ⟨(hs2.2 _ (Ne.symm I.ne)).trans I.obj,hn2,I.ne⟩ hs2)
theorem zY{R:Result->Shared->Prop}{vs:List Value}{kw:List (Str×Value)}(X:K.In s.heap)(hm:makesIn K C=true)
  (hi:findIn K (.ref C) "__init__"=some (some (.ref f))) (hf:PySem.W.typeIn K (.ref f)=some (.type "function"))
  (h:codeAny (model prog w) (A.under (.builtin "type.__call__" ⟨.ref C::vs,kw⟩)) (.call (.ref f) ⟨.ref (s.heap.objs.size+1)::vs,kw⟩) (PySem.W.InitBack (s.heap.objs.size+1) R)
   { s with heap:=(s.heap.push emptyDict).push (instObj C s.heap.objs.size) }) :
  codeAny (model prog w) A (.call (.ref C) ⟨vs,kw⟩) R s:=by
 obtain⟨hh,g,d,t,os⟩:=s;exact PySem.W.make_core (PySem.W.makes_of X hm) (looks_findIn X hi) (λself=>PySem.W.bind_fn X self hf) (.inl rfl) h
theorem xa{R:Result->Shared->Prop}(X:K.In s.heap)(hm:makesIn K C=true)
  (hi:findIn K (.ref C) "__init__"=some (some (.builtin "object.__init__")))
  (hb:∀self,Looks (model prog w) s.heap (bindSpecial (.builtin "object.__init__") self) (.builtin "object.__init__",[self]))
  (h:codeAny (model prog w) (A.under (.builtin "type.__call__" ⟨[.ref C],[]⟩)) (.call (.builtin "object.__init__") ⟨[.ref (s.heap.objs.size+1)],[]⟩) (PySem.W.InitBack (s.heap.objs.size+1) R)
   { s with heap:=(s.heap.push emptyDict).push (instObj C s.heap.objs.size) }) :
  codeAny (model prog w) A (.call (.ref C) ⟨[],[]⟩) R s:=by
 obtain⟨hh,g,d,t,os⟩:=s;exact PySem.W.make_core (PySem.W.makes_of X hm) (looks_findIn X hi) hb (.inr ⟨rfl,rfl⟩) h
end
def iK(f:Str)(v:V):List (Str×V)->List (Str×V)
 |[]=>[(f,v)]
 |(g,x)::r=>if g=f then(g,v)::r else(g,x)::iK f v r
theorem kL(f g:Str)(v:V):∀fs:List (Str×V),(iK f v fs).lookup g=if g=f then some v else fs.lookup g
 |[]=>by
  show List.lookup g [(f,v)]=_
  by_cases h:g=f
  ·have hb:(g==f)=true:=beq_iff_eq.mpr h;simp only[List.lookup,hb,if_pos h]
  ·have hb:(g==f)=false:=beq_eq_false_iff_ne.mpr h;simp only[List.lookup,hb,if_neg h]
 |(k,x)::r=>by
  have ih:=kL f g v r;rw[show iK f v ((k,x)::r)=(if k=f then(k,v)::r else(k,x)::iK f v r) from rfl]
  by_cases hk:k=f
  ·rw[if_pos hk]
   by_cases h:g=k
   ·have hb:(g==k)=true:=beq_iff_eq.mpr h;simp only[List.lookup,hb,if_pos (h.trans hk)]
   ·have hb:(g==k)=false:=beq_eq_false_iff_ne.mpr h;simp only[List.lookup,hb,if_neg (λe:g=f=>h (e.trans hk.symm))]
  ·rw[if_neg hk]
   by_cases h:g=k
   ·have hb:(g==k)=true:=beq_iff_eq.mpr h;simp only[List.lookup,hb,if_neg (λe:g=f=>hk (h.symm.trans e))]
   ·have hb:(g==k)=false:=beq_eq_false_iff_ne.mpr h;simp only[List.lookup,hb];exact ih
theorem j7(f:Str)(v:V):∀fs:List (Str×V),f∈(iK f v fs).map (·.1)/\∀g,g∈fs.map (·.1)->g∈(iK f v fs).map (·.1)
 |[]=>⟨by simp[iK],λg h=>by simp at h⟩
 |(k,x)::r=>by
  obtain⟨i1,i2⟩:=j7 f v r;rw[show iK f v ((k,x)::r)=(if k=f then(k,v)::r else(k,x)::iK f v r) from rfl]
  by_cases hk:k=f
  ·rw[if_pos hk];subst hk;exact⟨by simp,λg h=>by simpa using h⟩
  ·rw[if_neg hk];refine⟨?_,λg h=>?_⟩
   ·rw[map_cons];exact mem_cons_of_mem _ i1
   ·rw[map_cons] at h ⊢
    rcases List.mem_cons.mp h with e|e
    ·exact List.mem_cons.mpr (.inl e)
    ·exact mem_cons_of_mem _ (i2 g e)
theorem kG(f:Str)(v:V):∀fs:List (Str×V),(iK f v fs).length<=fs.length+1
 |[]=>by simp[iK]
 |(k,x)::r=>by
  have ih:=kG f v r;rw[show iK f v ((k,x)::r)=(if k=f then(k,v)::r else(k,x)::iK f v r) from rfl]
  by_cases hk:k=f
  ·rw[if_pos hk,length_cons,length_cons];omega
  ·rw[if_neg hk,length_cons,length_cons];omega
theorem RelO.some_of{v:V}{o:Option Value}(r:RelO (some v) o):∃u,o=some u/\F4 v u:=by
 cases o with
 |none=>exact(show False from r).elim
 |some u=>exact⟨u,rfl,r⟩
theorem RelO.none_of{o:Option Value}(r:RelO none o):o=none:=by
 cases o with
 |none=>rfl
 |some u=>exact(show False from r).elim
theorem wP{v:V}{u:Value}(r:F4 v u):PySem.W.handedIn u=true:=by
 cases v with
 |non=>cases (show u=Value.none from r);rfl
 |bl b=>cases (show u=Value.bool b from r);rfl
 |int i=>obtain⟨t,e⟩:=(show ∃t,u=Value.int i t from r);cases e;rfl
 |str x=>obtain⟨t,e⟩:=(show ∃t,u=Value.str x t from r);cases e;rfl
 |byt b=>obtain⟨t,e⟩:=(show ∃t,u=Value.bytes b t from r);cases e;rfl
 |flt b=>obtain⟨t,e⟩:=(show ∃t,u=Value.float b t from r);cases e;rfl
 |ref a=>cases (show u=Value.ref a from r);rfl
 |ty n=>cases (show u=Value.type n from r);rfl
section
variable {P:Program} {w:World} {H H':Hp} {h h':Heap} {a C dx:Addr} {fs fs':List (Str×V)}
theorem k8(hok:HOk P w H h)(e:H a=some (.ins C dx fs)):∃mA,ObjM h a dx C mA/\(∀f,RelO (fs.lookup f) (mA f))/\PySem.Within mA (fs.map (·.1))/\fs.length<=1000/\H dx=some (.own a):=by
 obtain⟨d,z,ne,ob,mA,n,r,q⟩:=(show F6 P w H h a (.ins C dx fs) from hok a _ e)
 exact⟨mA,⟨ob,n,ne⟩,r,q,z,d⟩
end
structure Cls (K:Frag) (C:Addr):Prop where
 pg:plainGet K C Str.empty=true
 hd:hasDictIn K C=true
 po:plainOver K C=true
 sa:findIn K (.ref C) "__setattr__"=some (some (.builtin "object.__setattr__"))
theorem Cls.get{K:Frag}{C:Addr}(c:Cls K C)(f:Str):plainGet K C f=true:=c.pg
def Gk(K:Frag)(C:Addr)(f:Str):Prop:=findIn K (.ref C) f=some none
theorem Gk.taker{K:Frag}{C:Addr}{f:Str}(n:Gk K C f):PySem.W.takerIn K C f=some none:=by
 unfold PySem.W.takerIn;rw[show findIn K (.ref C) f=some none from n]
 rfl
structure gB (K:Frag) (C:Addr) (m:Str) (f:Addr):Prop where
 at_:findIn K (.ref C) m=some (some (.ref f))
 fn:isFn K (.ref f)=true
 kp:keepIn K (.ref f)=true
section
variable {X:Cx} {pins:List (Addr×Obj)} {σ:St} {H:Hp} {s:Shared} {a C dx:Addr} {fs:List (Str×V)} {f:Str} {v:V} {A:Around} {E:Value->Shared->Prop}
theorem uM{b:Bool}{Q:Value->Shared->Prop}(I:Inv X pins σ H s)(e:H a=some (.ins C dx fs))(c:Cls X.K C)(n:Gk X.K C f)(l:fs.lookup f=some v)
  (h:∀u s',Inv X pins σ H s'->F4 v u->Q u s'):wpAny (model X.prog X.w) A (getAttr (.ref a) f b) Q E s:=by
 obtain⟨mA,O,r,_,_,_⟩:=k8 I.hok e;obtain⟨u,hu,ru⟩:=RelO.some_of (v:=v) (o:=mA f) (by rw[<- l];exact r f)
 exact CK I.kIn O (c.get f) c.hd n hu (wP ru) (h u _ (I.tok _) ru)
theorem mC{m:Str}{g:Addr}{pl:Sem Bool}{Q:Value×List Value->Shared->Prop}(I:Inv X pins σ H s)(e:H a=some (.ins C dx fs))(c:Cls X.K C)(k:gB X.K C m g)(l:fs.lookup m=none)
  (h:Q (.ref g,[.ref a]) s):wpAny (model X.prog X.w) A (getMethod (.ref a) m pl) Q E s:=by
 obtain⟨mA,O,r,_,_,_⟩:=k8 I.hok e;have hn:mA m=none:=RelO.none_of (by rw[<- l];exact r m)
 exact zD I.kIn O (c.get m) k.at_ k.fn hn h
theorem uK{y:V}{u:Value}{Q:Unit->Shared->Prop}(I:Inv X pins σ H s)(e:H a=some (.ins C dx fs))(c:Cls X.K C)(n:Gk X.K C f)(hl:fs.length<1000)(ry:F4 y u)
  (h:∀s',Inv X pins σ (upd H a (.ins C dx (iK f y fs))) s'->Q () s'):wpAny (model X.prog X.w) A (setAttr (.ref a) f u) Q E s:=by
 obtain⟨mA,O,r,wi,_,ho⟩:=k8 I.hok e;have hz:(fs.map (·.1)).length<=sizeLine:=by rw[length_map,sizeLine_eq];omega
 refine Bs I.kIn O c.sa c.po n.taker c.hd wi hz λh' O' sb=>h _ ?_
 have hd:∃o,h'.get? dx=some o:=let ⟨o,_,_,e',_⟩:=O'.ns;⟨o,e'⟩
 refine I.write (x:=a) (e:=dx) (by rw[e];exact True.intro) (.inr ho) (λb q hb z=>(sb.2 b hb).trans z) hd ?_
 refine⟨by rw[ar O.ne];exact ho,?_,O.ne,O'.obj,_,O'.ns,λg=>?_,λg hg=>?_⟩
 ·have:=kG f y fs;omega
 ·show RelO ((iK f y fs).lookup g) (if g=f then some u else mA g)
  rw[kL]
  by_cases q:g=f
  ·rw[if_pos q,if_pos q];exact ry
  ·rw[if_neg q,if_neg q];exact r g
 ·by_cases q:g=f
  ·rw[q];exact(j7 f y fs).1
  ·refine(j7 f y fs).2 g (wi g λz=>hg ?_)
   show(if g=f then some u else mA g)=none
   rw[if_neg q];exact z
theorem Inv.made(I:Inv X pins σ H s):Inv X pins σ (upd (upd H s.heap.objs.size (.own (s.heap.objs.size+1))) (s.heap.objs.size+1) (.ins C s.heap.objs.size []))
  { s with heap:=(s.heap.push emptyDict).push (instObj C s.heap.objs.size) }:=by
 have e1:(s.heap.push emptyDict).get? s.heap.objs.size=some emptyDict:=get?_push_size s.heap rfl;have e2:((s.heap.push emptyDict).push (instObj C s.heap.objs.size)).get? (s.heap.objs.size+1)=some (instObj C s.heap.objs.size):=by
  have:=get?_push_size (s.heap.push emptyDict) (o:=instObj C s.heap.objs.size) rfl;rwa [size_push] at this
 have e3:(s.heap.push emptyDict).Ns s.heap.objs.size (λ_=>none):=⟨emptyDict,#[],_,e1,rfl,(λe he=>absurd he (by simp)),λ_=>rfl⟩
 have I1:=I.laid (a:=s.heap.objs.size) (o:=.own (s.heap.objs.size+1)) (h':=s.heap.push emptyDict) (t':=s.toks) (λb u q=>get?_push_of_some _ q) (Nat.le_refl _) ⟨_,e1⟩
 refine I1.laid (a:=s.heap.objs.size+1) (o:=.ins C s.heap.objs.size []) (t':=s.toks) (λb u q=>get?_push_of_some _ q) (Nat.le_of_eq (size_push _ _)) ?_
 have ne:s.heap.objs.size≠s.heap.objs.size+1:=Nat.ne_of_lt (Nat.lt_succ_self _);refine⟨by rw[ar ne,FY],Nat.zero_le _,ne,e2,λ_=>none,(Heap.Ns1.of_empty e3).at λo q=>get?_push_of_some _ q,λ_=>True.intro,λy hy=>absurd rfl hy⟩
theorem Bn{prog:Program}{w:World}{env:Env}{e:Expr}{f:Str}{pos:Pos}{s:Shared}{Q:Value->Shared->Prop}(hb:attributeBase e f env (eval e env)=eval e env)
  (h:wpAny (model prog w) A (eval e env) (λo s₁=>wpAny (model prog w) A (getAttr o f true) Q E s₁) E s):wpAny (model prog w) A (eval (.Attribute e f pos) env) Q E s:=
 Attribute_any_ h (by rw[arm_eval_Attribute,hb])
end
def tFld(K:Frag)(ta:TE)(f:Str):TE:=λσ H Q=>ta σ H λx H1=>∃a C dx fs v,x=.ref a/\H1 a=some (.ins C dx fs)/\Cls K C/\Gk K C f/\fs.lookup f=some v/\Q v H1
def sFld(K:Frag)(ta tv:TE)(f:Str):TS:=λD σ H=>tv σ H λy H1=>ta σ H1 λx H2=>∃a C dx fs,x=.ref a/\H2 a=some (.ins C dx fs)/\Cls K C/\Gk K C f/\fs.length<1000/\
 D.nx σ (upd H2 a (.ins C dx (iK f y fs)))
section
variable {X:Cx} {o e value:Expr} {f:Str} {pos pos' tpos:Pos} {ta tv:TE}
theorem gJ(he:PE X e ta)(hb:attributeBase e f X.env (eval e X.env)=eval e X.env):PE X (.Attribute e f pos) (tFld X.K ta f):=by
 intro pins s σ H Q I h;refine Bn hb (thn (he pins s σ H _ I h) λu s1 ⟨x,H1,I1,rx,a,C,dx,fs,v,ex,ea,c,n,l,q⟩=>?_)
 subst ex;obtain rfl:u=Value.ref a:=rx;exact uM I1 ea c n l λu' s2 I2 ru=>⟨v,H1,I2,ru,q⟩
theorem uq(ha:PE X o ta)(hv:PE X value tv)(hs:swapsWith value (some (.Attribute o f pos')) pos.line X.env=pure false):PS X (.Assign [.Attribute o f pos'] value pos) (sFld X.K ta tv f):=by
 intro pins s σ H D I h;refine plainObj_wpAny_Assign_Attribute (thn (hv pins s σ H _ I h) λu s1 ⟨y,H1,I1,ry,q⟩=>thn (ha pins s1 σ H1 _ I1 q) λov s2 ⟨x,H2,I2,rx,a,C,dx,fs,ex,ea,c,n,l,q2⟩=>?_) hs
 subst ex;obtain rfl:ov=Value.ref a:=rx;exact uK I2 ea c n l ry λs3 I3=>⟨σ,_,I3,q2⟩
end
section
variable {X:Cx} {pins:List (Addr×Obj)} {σ:St} {H:Hp} {s:Shared} {A:Around} {E:Value->Shared->Prop} {Q:Value->Shared->Prop} {c:Value} {b:Bool}
inductive TyOf (K:Frag) (H:Hp):V->Value->Prop where
 |non:TyOf K H .non (.type "NoneType")
 |bl (x:Bool):TyOf K H (.bl x) (.type "bool")
 |int (i:Int):TyOf K H (.int i) (.type "int")
 |str (x:Str):TyOf K H (.str x) (.type "str")
 |flt (x:UInt64):TyOf K H (.flt x) (.type "float")
 |lst {a:Addr} {xs:List V} (e:H a=some (.lst xs)):TyOf K H (.ref a) (.type "list")
 |frz {a:Addr} {o:Obj} {xs:List V} (e:H a=some (.frz o (.lst xs))):TyOf K H (.ref a) (.type "list")
 |tup {a:Addr} {xs:List V} (e:H a=some (.tup xs)):TyOf K H (.ref a) (.type "tuple")
 |dK {a:Addr} {kvs:List (Key×V)} (e:H a=some (.dK kvs)):TyOf K H (.ref a) (.type "dict")
 |dT {a:Addr} {kvs:List (List Key×V)} (e:H a=some (.dT kvs)):TyOf K H (.ref a) (.type "dict")
 |ins {a C dx:Addr} {fs:List (Str×V)} (e:H a=some (.ins C dx fs)) (cl:Cls K C) (ha:findIn K (.ref C) "__class__"=some (some (.builtin "object.__class__")))
   (hn:specialIn K (.builtin "object.__class__") "__get__"=some (some (.builtin "getset_descriptor.__get__"))) (htk:takesIn K (.builtin "object.__class__")=some true)
   (hm:mroIn K C (.type "object")=some true):TyOf K H (.ref a) (.ref C)
theorem wk{x:V}{u t:Value}(I:Inv X pins σ H s)(rx:F4 x u)(ty:TyOf X.K H x t)(e:kitOne X.K t c=some b)(h:∀tk,Q (.bool b) { s with toks:=tk }) :
  wpAny (model X.prog X.w) A (call (.builtin "isinstance") [u,c]) Q E s:=by
 cases ty with
 |non=>cases (show u=Value.none from rx);exact kia_one PySem.W.kitx_none I.kIn True.intro e (λz=>nomatch z) h
 |bl y=>cases (show u=Value.bool y from rx);exact kia_one PySem.W.kitx_bool I.kIn True.intro e (λz=>nomatch z) h
 |int i=>obtain⟨t,q⟩:=(show ∃t,u=Value.int i t from rx);cases q;exact kia_one PySem.W.kitx_int I.kIn True.intro e (λz=>nomatch z) h
 |str y=>obtain⟨t,q⟩:=(show ∃t,u=Value.str y t from rx);cases q;exact kia_one PySem.W.kitx_str I.kIn True.intro e (λz=>nomatch z) h
 |flt y=>obtain⟨t,q⟩:=(show ∃t,u=Value.float y t from rx);cases q;exact kia_one PySem.W.kitx_float I.kIn True.intro e (λz=>nomatch z) h
 |@lst a xs ea=>
  cases (show u=Value.ref a from rx)
  obtain⟨_,_,n,_,h1⟩:=(show F6 X.prog X.w H s.heap a (.lst xs) from I.hok a _ ea)
  exact kia_one PySem.W.kitx_list I.kIn ⟨_,h1,rfl⟩ e (λz=>nomatch z) h
 |@frz a ob xs ea=>
  cases (show u=Value.ref a from rx)
  obtain⟨_,_,_,n,_,h1⟩:=(show F6 X.prog X.w H s.heap a (.frz ob (.lst xs)) from I.hok a _ ea)
  exact kia_one PySem.W.kitx_list I.kIn ⟨_,h1,rfl⟩ e (λz=>nomatch z) h
 |@tup a xs ea=>
  cases (show u=Value.ref a from rx)
  obtain⟨_,_,_,p⟩:=(show F6 X.prog X.w H s.heap a (.tup xs) from I.hok a _ ea)
  obtain⟨o,h1,h2,_⟩:=p;exact kia_one PySem.W.kitx_tuple I.kIn ⟨o,h1,h2⟩ e (λz=>nomatch z) h
 |@dK a kvs ea=>
  cases (show u=Value.ref a from rx)
  obtain⟨_,_,vs,_,p⟩:=(show F6 X.prog X.w H s.heap a (.dK kvs) from I.hok a _ ea)
  obtain⟨o,es,ep,h1,h2,_⟩:=p;exact kia_one PySem.W.kitx_dict I.kIn ⟨o,h1,h2.1⟩ e (λz=>nomatch z) h
 |@dT a kvs ea=>
  cases (show u=Value.ref a from rx)
  obtain⟨_,_,xs,_,o,es,ep,h1,h2,_⟩:=(show F6 X.prog X.w H s.heap a (.dT kvs) from I.hok a _ ea)
  exact kia_one PySem.W.kitx_dict I.kIn ⟨o,h1,h2.1⟩ e (λz=>nomatch z) h
 |@ins a C dx fs ea cl ha hn htk hm=>
  cases (show u=Value.ref a from rx)
  obtain⟨mA,O,_⟩:=k8 I.hok ea;obtain⟨od,J,_⟩:=O.look;exact kia_one (PySem.W.kitx_own (cl.get _) cl.hd ha hn htk hm) I.kIn J e (λz=>nomatch z) h
end
structure F5 (k:Nat) (A:Around):Prop where
 hd:A.handled=none
 dp:A.depth+3*k+5<recursionLimit
 un:A.units+16*k+200<cLine
theorem F5.mono{j k:Nat}{A:Around}(r:F5 k A)(h:j<=k):F5 j A:=⟨r.hd,by have:=r.dp;omega,by have:=r.un;omega⟩
theorem F5.deeper{k:Nat}{A:Around}(r:F5 (k+1) A)(env:Env):F5 k (A.deeper env):=
 ⟨r.hd,by have:=r.dp;show A.depth+1+3*k+5<_;omega,by have:=r.un;show A.units+3+16*k+200<_;omega⟩
theorem F5.in1{k:Nat}{A:Around}(r:F5 (k+1) A):F5 k A.in1:=
 ⟨r.hd,by have:=r.dp;show A.depth+3*k+5<_;omega,by have:=r.un;show A.units+1+16*k+200<_;omega⟩
theorem uu{A:Around}{C:Addr}{us:List Value}{kw:List (Str×Value)}:(A.under (.builtin "type.__call__" ⟨.ref C::us,kw⟩)).depth=A.depth+1:=by
 first|rfl|simp[Around.under,Code.weight,Code.isCreation,Code.isGuard,Code.isCaller,Code.frames,Code.isFrame,guardIds]
theorem ua{A:Around}{C:Addr}{us:List Value}{kw:List (Str×Value)}:(A.under (.builtin "type.__call__" ⟨.ref C::us,kw⟩)).units=A.units+1:=by
 first|rfl|simp[Around.under,Code.cUnits,Code.frames,Code.isFrame]
theorem F5.make{k:Nat}{A:Around}(r:F5 (k+1) A)(C:Addr)(us:List Value)(kw:List (Str×Value)):F5 k (A.under (.builtin "type.__call__" ⟨.ref C::us,kw⟩)):=
 ⟨r.hd,by have:=r.dp;rw[uu];omega,by have:=r.un;rw[ua];omega⟩
theorem F5.depth{k:Nat}{A:Around}(r:F5 k A):A.depth<recursionLimit:=by have:=r.dp;omega
theorem F5.units{k:Nat}{A:Around}(r:F5 k A):A.units+64<cLine:=by have:=r.un;omega
theorem F5.units0{k:Nat}{A:Around}(r:F5 k A):A.units<cLine:=by have:=r.un;omega
def fT:TA:=λ_ H Q=>Q [] H
def dO(ta:TE)(tr:TA):TA:=λσ H Q=>ta σ H λx H1=>tr σ H1 λxs H2=>Q (x::xs) H2
section
variable {X:Cx} {e:Expr} {es:List Expr} {te:TE} {t:TA} {pos:Pos}
theorem ae:PA X [] fT:=λ_ _ _ _ H Q I h=>Calls.spliced_nil ⟨[],H,I,.nil,h⟩
theorem aa(ha:PE X e te)(hr:PA X es t)(hs:starEach (e::es) X.env=(false,eval e X.env)::starEach es X.env:=by rfl):PA X (e::es) (dO te t):=by
 intro pos pins s σ H Q I h;rw[hs];show wpAny _ _ (spliced ((false,eval e X.env)::backTo pos (starEach es X.env))) _ _ s;refine Calls.spliced_cons (thn (ha pins s σ H _ I h) λu s1 ⟨x,H1,I1,r1,q1⟩=>?_)
 exact thn (hr pos pins s1 σ H1 _ I1 q1) λus s2 ⟨xs,H2,I2,r2,q2⟩=>⟨x::xs,H2,I2,.cons r1 r2,q2⟩
def tTup(t:TA):TE:=λσ H Q=>t σ H λxs H1=>xs.length<=sizeLine/\∀p,H1 p=none->Q (.ref p) (upd H1 p (.tup xs))
def Ei(t:TA):TE:=λσ H Q=>t σ H λxs H1=>xs.length<=sizeLine/\∀p,H1 p=none->Q (.ref p) (upd H1 p (.lst xs))
theorem gH{x1}(h:PA X es t):PE X (.Tuple es x1 pos) (tTup t):=by
 intro pins s σ H Q I hq;refine wpAny_Tuple_spliced (thn (h pos pins s σ H _ I hq) λus s1 ⟨xs,H1,I1,r,z,q⟩=>⟨by rw[<- r.length];exact z,?_⟩)
 have hf:H1 s1.heap.objs.size=none:=I1.hok.fresh (Nat.le_refl _);refine⟨.ref s1.heap.objs.size,upd H1 s1.heap.objs.size (.tup xs),I1.laid (t':=s1.toks) (λb u e=>get?_push_of_some _ e) (Nat.le_refl _) ?_,rfl,q _ hf⟩
 exact⟨z,us,r,⟨_,get?_push_size _ rfl,rfl,_,rfl⟩⟩
theorem ci(h:PA X es t):PE X (.List es pos) (Ei t):=by
 intro pins s σ H Q I hq;refine wpAny_List_spliced (thn (h pos pins s σ H _ I hq) λus s1 ⟨xs,H1,I1,r,z,q⟩=>⟨by rw[<- r.length];exact z,?_⟩)
 have hf:H1 s1.heap.objs.size=none:=I1.hok.fresh (Nat.le_refl _);refine⟨.ref s1.heap.objs.size,upd H1 s1.heap.objs.size (.lst xs),I1.laid (t':=s1.toks) (λb u e=>get?_push_of_some _ e) (Nat.le_refl _) ?_,rfl,q _ hf⟩
 exact⟨z,us,0,r,get?_push_size _ rfl⟩
end
abbrev Sp:=List V->Hp->VK->XK->Prop
abbrev CXT:=List Env->Hp->Shared->XK->Value->Shared->Prop
structure Env0 (P:Program) (w:World) (K:Frag) (mg:Str->Option Value) (base:Heap) (A:Around) (outer:List Env) (s:Shared) (H:Hp):Prop where
 frames:A.frames=some outer
 mod:Mod K mg base
 bs:∀b o,base.get? b=some o->s.heap.get? b=some o/\H b=none
 bsz:base.objs.size<=s.heap.objs.size
 funs:s.heap.FunFrames base outer
 frf:∀b∈frs outer,H b=none
 hok:HOk P w H s.heap
 bare:AllBare s.gens
def CE(outer:List Env)(P:Program)(w:World)(H:Hp)(s:Shared)(Q:VK)(u:Value)(s':Shared):Prop:=
 ∃v H',s'.os=s.os/\AllBare s'.gens/\Un (frs outer) [] H H' s.heap s'.heap/\HOk P w H' s'.heap/\F4 v u/\Q v H'
def CR(CX:CXT)(outer:List Env)(P:Program)(w:World)(H:Hp)(s:Shared)(Q:VK)(E:XK)(r:Result)(s':Shared):Prop:=
 match r with
 |.ok (.ret u)=>CE outer P w H s Q u s'
 |.ok _=>False
 |.error e=>CX outer H s E e s'
structure F2 (P:Program) (w:World) (K:Frag) (mg:Str->Option Value) (base:Heap) (CX:CXT) (k:Nat) (f:Addr) (fd:FuncData) (ps:List Str) (sp:Sp):Prop where
 len:∀vs H Q E,sp vs H Q E->vs.length=ps.length
 run:∀(A:Around) (outer:List Env) (s:Shared) (H:Hp) (args:Args) (us:List Value) (vs:List V) (Q:VK) (E:XK),F5 k A->Env0 P w K mg base A outer s H->BindsTo s fd args (ps.zip us)->F1 vs us->sp vs H Q E->
  codeAny (model P w) A (.call (.ref f) args) (CR CX outer P w H s Q E) s
theorem F2.mono{P:Program}{w:World}{K:Frag}{mg:Str->Option Value}{base:Heap}{CX:CXT}{j k:Nat}{f:Addr}{fd:FuncData}{ps:List Str}{sp:Sp}(F:F2 P w K mg base CX j f fd ps sp)(h:j<=k) :
  F2 P w K mg base CX k f fd ps sp:=⟨F.len,λA outer s H args us vs Q E hr=>F.run A outer s H args us vs Q E (hr.mono h)⟩
theorem Env0.make{P:Program}{w:World}{K:Frag}{mg:Str->Option Value}{base:Heap}{A:Around}{outer:List Env}{s:Shared}{H:Hp}(e:Env0 P w K mg base A outer s H)(C:Addr)(us:List Value)(kw:List (Str×Value)) :
  Env0 P w K mg base (A.under (.builtin "type.__call__" ⟨.ref C::us,kw⟩)) outer s H:=⟨by first|exact e.frames|(simpa[Around.under,Code.envs,Code.isFrame,pushEnvs] using e.frames),e.mod,e.bs,e.bsz,e.funs,e.frf,e.hok,e.bare⟩
theorem Env0.in1{P:Program}{w:World}{K:Frag}{mg:Str->Option Value}{base:Heap}{A:Around}{outer:List Env}{s:Shared}{H:Hp}(e:Env0 P w K mg base A outer s H) :
  Env0 P w K mg base A.in1 outer s H:=⟨e.frames,e.mod,e.bs,e.bsz,e.funs,e.frf,e.hok,e.bare⟩
section
variable {X:Cx} {pins:List (Addr×Obj)} {σ:St} {H:Hp} {s s':Shared}
theorem Inv.env0(I:Inv X pins σ H s):Env0 X.prog X.w X.K X.mg X.base X.A X.stack s H:=
 ⟨I.ok.frames,I.ok.mod,I.bs,Nat.le_trans I.ok.bsz I.sz,I.stack,I.stkFree,I.hok,I.bare⟩
theorem Inv.after{Q:VK}{u:Value}(I:Inv X pins σ H s)(h:CE X.stack X.prog X.w H s Q u s'):EP X pins σ Q u s':=by
 obtain⟨v,H',os,bare,un,hok,r,q⟩:=h;obtain⟨hh,g,d,t,os'⟩:=s';obtain rfl:os'=s.os:=os;exact⟨v,H',I.call (h':=hh) (g':=g) (d':=d) (t':=t) (ch:=[]) un hok bare (λb z=>absurd z (by simp)),r,q⟩
end
def mf(sp:Sp)(dvs:List V)(E:XK)(t:TA):TE:=λσ H Q=>t σ H λvs H1=>sp (vs++dvs) H1 Q E
def ig(C:Addr)(m:Str)(sp:Sp)(dvs:List V)(E:XK)(ta:TE)(t:TA):TE:=λσ H Q=>ta σ H λx H1=>∃a dx fs,x=.ref a/\H1 a=some (.ins C dx fs)/\fs.lookup m=none/\
 t σ H1 λvs H2=>sp (x::(vs++dvs)) H2 Q E
def yA(C:Addr)(sp:Sp)(dvs:List V)(E:XK)(t:TA):TE:=λσ H Q=>t σ H λvs H1=>∀x dx,H1 x=none->H1 dx=none->dx≠x->
 sp (.ref x::(vs++dvs)) (upd (upd H1 dx (.own x)) x (.ins C dx [])) (λv H2=>v=.non/\Q (.ref x) H2) E
def Gf(K:Frag)(fd:FuncData)(ps:List Str)(ds:List Value):Prop:=
 ∀(s:Shared) (us:List Value),K.In s.heap->(us++ds).length=ps.length->BindsTo s fd ⟨us,[]⟩ (ps.zip (us++ds))
theorem Gf.all{K:Frag}{fd:FuncData}{ps:List Str}(h:∀us:List Value,us.length=ps.length->bindArgs fd ⟨us,[]⟩=pure (ps.zip us)):Gf K fd ps []:=λs us _ hl=>by
 rw[append_nil] at hl ⊢;exact .of_eq (h us hl)
def dF(CX:CXT)(X:Cx)(E:XK):Prop:=∀(pins:List (Addr×Obj)) (σ:St) (H:Hp) (s:Shared) (e:Value) (s':Shared),Inv X pins σ H s->CX X.stack H s E e s'->X.xe e s'
section
variable {X:Cx} {CX:CXT} {k:Nat} {f C:Addr} {fd:FuncData} {ps:List Str} {sp:Sp} {dvs:List V} {ds:List Value} {E:XK} {x m:Str} {p pos apos:Pos} {e o:Expr} {es:List Expr} {ta:TE} {t:TA}
theorem qu{pins:List (Addr×Obj)}{σ:St}{H:Hp}{s:Shared}{Q:VK}{us:List Value}{vs:List V}(F:F2 X.prog X.w X.K X.mg X.base CX k f fd ps sp)(hr:F5 k X.A)(hb:Gf X.K fd ps ds)(hd:F1 dvs ds)(hx:dF CX X E)
  (I:Inv X pins σ H s) (r:F1 vs us) (h:sp (vs++dvs) H Q E):wpAny (model X.prog X.w) X.A (call (.ref f) us) (EP X pins σ Q) X.xe s:=by
 have r2:F1 (vs++dvs) (us++ds):=r.append hd;have hl:(us++ds).length=ps.length:=by rw[<- r2.length];exact F.len _ _ _ _ h
 refine wpAny_call (codeAny_mono (F.run X.A X.stack s H ⟨us,[]⟩ (us++ds) (vs++dvs) Q E hr I.env0 (hb s us I.kIn hl) r2 h) λr s' hq=>?_)
 cases r with
 |error e=>exact hx pins σ H s e s' I hq
 |ok fl=>
  cases fl with
  |ret u=>exact I.after hq
  |next=>exact False.elim hq
  |brk=>exact False.elim hq
  |cont=>exact False.elim hq
theorem uT(F:F2 X.prog X.w X.K X.mg X.base CX k f fd ps sp)(hr:F5 k X.A)(hg:Gl X x)(hm:X.mg x=some (.ref f))(hk:keepIn X.K (.ref f)=true)(hb:Gf X.K fd ps ds)(hd:F1 dvs ds)(hx:dF CX X E)
  (ha:PA X (e::es) t) (hdb:(x==("__debug__" : Str))=false:=by decide) (he:starEach (e::es) X.env=(false,eval e X.env)::starEach es X.env:=by rfl) (hpl:(backTo pos (starEach es X.env)).any (·.1)=false:=by rfl) :
  PE X (.Call (.Name x p) (e::es) [] pos) (mf sp dvs E t):=by
 intro pins s σ H Q I h;refine wpAny_Call_Name_kw (fh I hg hm ?_ hdb);refine callWith_K (h₀:=X.base) I.ok.mod.kin hk (thn (ha pos pins s σ H _ I h) λus s1 ⟨vs,H1,I1,r,q⟩=>⟨I1.kIn,?_⟩) he hpl
 exact qu F hr hb hd hx I1 r q
theorem y9(F:F2 X.prog X.w X.K X.mg X.base CX k f fd ps sp)(hr:F5 k X.A)(hg:Gl X x)(hm:X.mg x=some (.ref f))(hk:keepIn X.K (.ref f)=true)(hb:Gf X.K fd ps ds)(hd:F1 dvs ds)(hx:dF CX X E)
  (hdb:(x==("__debug__" : Str))=false:=by decide):PE X (.Call (.Name x p) [] [] pos) (mf sp dvs E fT):=by
 intro pins s σ H Q I h;refine wpAny_Call_Name_kw (fh I hg hm ?_ hdb);exact PySem.W.callWith_K0 I.kIn hk (qu (us:=[]) F hr hb hd hx I .nil h)
theorem vm{pl:Sem Bool}(he:PE X o ta)(c:Cls X.K C)(hm:gB X.K C m f)(F:F2 X.prog X.w X.K X.mg X.base CX k f fd ps sp)(hr:F5 k X.A)(hb:Gf X.K fd ps ds)(hd:F1 dvs ds)(hx:dF CX X E)(ha:PA X (e::es) t)
  (hst:starEach (e::es) X.env=(false,eval e X.env)::starEach es X.env:=by rfl) (hpl:(backTo pos (starEach es X.env)).any (·.1)=false:=by rfl)
  (ht:eval (.Call (.Attribute o m apos) (e::es) [] pos) X.env=(do
   let ov <- eval o X.env
   standAt apos.atName
   let (f,first) <- holding [ov] (getMethod ov m pl)
   callWith pos f first (backTo pos (starEach (e::es) X.env)) (backToKw pos (keywordEach [] X.env))):=by rfl) :
  PE X (.Call (.Attribute o m apos) (e::es) [] pos) (ig C m sp dvs E ta t):=by
 intro pins s σ H Q I h;refine PySem.W.methodCall_KW (pl:=pl) (thn (he pins s σ H _ I h) λu s1 ⟨x,H1,I1,rx,a,dx,fs,ex,ea,l,q⟩=>?_) ht
 subst ex;obtain rfl:u=Value.ref a:=rx;refine mC I1 ea c hm l ?_;refine callWith_K (first:=[.ref a]) (h₀:=X.base) I.ok.mod.kin hm.kp (thn (ha pos pins s1 σ H1 _ I1 q) λus s2 ⟨vs,H2,I2,r,q2⟩=>⟨I2.kIn,?_⟩) hst hpl
 exact qu (us:=.ref a::us) (vs:=.ref a::vs) F hr hb hd hx I2 (.cons rfl r) q2
theorem ze{pl:Sem Bool}(he:PE X o ta)(c:Cls X.K C)(hm:gB X.K C m f)(F:F2 X.prog X.w X.K X.mg X.base CX k f fd ps sp)(hr:F5 k X.A)(hb:Gf X.K fd ps ds)(hd:F1 dvs ds)(hx:dF CX X E)
  (ht:eval (.Call (.Attribute o m apos) [] [] pos) X.env=(do
   let ov <- eval o X.env
   standAt apos.atName
   let (f,first) <- holding [ov] (getMethod ov m pl)
   callWith pos f first (backTo pos (starEach [] X.env)) (backToKw pos (keywordEach [] X.env))):=by rfl) :
  PE X (.Call (.Attribute o m apos) [] [] pos) (ig C m sp dvs E ta fT):=by
 intro pins s σ H Q I h;refine PySem.W.methodCall_KW (pl:=pl) (thn (he pins s σ H _ I h) λu s1 ⟨x,H1,I1,rx,a,dx,fs,ex,ea,l,q⟩=>?_) ht
 subst ex;obtain rfl:u=Value.ref a:=rx;refine mC I1 ea c hm l ?_;exact PySem.W.callWith_K0 (first:=[.ref a]) I1.kIn hm.kp (qu (us:=[.ref a]) (vs:=[.ref a]) F hr hb hd hx I1 (.cons rfl .nil) q)
structure Mk (K:Frag) (C f:Addr):Prop where
 makes:makesIn K C=true
 init:findIn K (.ref C) "__init__"=some (some (.ref f))
 fn:isFn K (.ref f)=true
 kp:keepIn K (.ref C)=true
theorem yw{pins:List (Addr×Obj)}{σ:St}{H:Hp}{s:Shared}{Q:VK}{us:List Value}{vs:List V}(M:Mk X.K C f)(F:F2 X.prog X.w X.K X.mg X.base CX k f fd ps sp)(hr:F5 (k+1) X.A)(hb:Gf X.K fd ps ds)(hd:F1 dvs ds)
  (hx:dF CX X E) (I:Inv X pins σ H s) (r:F1 vs us)
  (h:∀x dx,H x=none->H dx=none->dx≠x->sp (.ref x::(vs++dvs)) (upd (upd H dx (.own x)) x (.ins C dx [])) (λv H2=>v=.non/\Q (.ref x) H2) E) :
  wpAny (model X.prog X.w) X.A (call (.ref C) us) (EP X pins σ Q) X.xe s:=by
 have hq:=h (s.heap.objs.size+1) s.heap.objs.size (I.hok.fresh (Nat.le_succ _)) (I.hok.fresh (Nat.le_refl _)) (Nat.ne_of_lt (Nat.lt_succ_self _));have I2:=Inv.made (C:=C) I;have r2:F1 (V.ref (s.heap.objs.size+1)::(vs++dvs)) (Value.ref (s.heap.objs.size+1)::(us++ds)):=.cons rfl (r.append hd);have hl:(Value.ref (s.heap.objs.size+1)::us++ds).length=ps.length:=by
  have e:=r2.length;rw[F.len _ _ _ _ hq] at e;exact e.symm
 refine wpAny_call (zY (f:=f) I.kIn M.makes M.init (beq_iff_eq.mp M.fn) (codeAny_mono (F.run _ X.stack _ _ ⟨Value.ref (s.heap.objs.size+1)::us,[]⟩ (Value.ref (s.heap.objs.size+1)::(us++ds)) _ _ E (hr.make C us [])
  (I2.env0.make C us []) (hb _ (Value.ref (s.heap.objs.size+1)::us) I2.kIn hl) r2 hq) λr s' hq'=>?_))
 cases r with
 |error e=>exact hx pins σ _ _ e s' I2 hq'
 |ok fl=>
  cases fl with
  |ret u=>
   obtain⟨v,H',I3,rv,ev,q3⟩:=I2.after hq';subst ev;exact⟨rv,⟨V.ref (s.heap.objs.size+1),H',I3,rfl,q3⟩⟩
  |next=>exact False.elim hq'
  |brk=>exact False.elim hq'
  |cont=>exact False.elim hq'
theorem vM(M:Mk X.K C f)(F:F2 X.prog X.w X.K X.mg X.base CX k f fd ps sp)(hr:F5 (k+1) X.A)(hg:Gl X x)(hm:X.mg x=some (.ref C))(hb:Gf X.K fd ps ds)(hd:F1 dvs ds)(hx:dF CX X E)
  (ha:PA X (e::es) t) (hdb:(x==("__debug__" : Str))=false:=by decide) (he:starEach (e::es) X.env=(false,eval e X.env)::starEach es X.env:=by rfl) (hpl:(backTo pos (starEach es X.env)).any (·.1)=false:=by rfl) :
  PE X (.Call (.Name x p) (e::es) [] pos) (yA C sp dvs E t):=by
 intro pins s σ H Q I h;refine wpAny_Call_Name_kw (fh I hg hm ?_ hdb);refine callWith_K (h₀:=X.base) I.ok.mod.kin M.kp (thn (ha pos pins s σ H _ I h) λus s1 ⟨vs,H1,I1,r,q⟩=>⟨I1.kIn,?_⟩) he hpl
 exact yw M F hr hb hd hx I1 r q
end
def PK(X:Cx)(kws:List Keyword)(t:TA):Prop:=
 ∀(pos:Pos) (pins:List (Addr×Obj)) (s:Shared) (σ:St) (H:Hp) (Q:List V->Hp->Prop),Inv X pins σ H s->t σ H Q->wpAny (model X.prog X.w) X.A (evalAll ((backToKw pos (keywordEach kws X.env)).map (·.2))) (AP X pins σ Q) X.xe s
section
variable {X:Cx} {CX:CXT} {k:Nat} {f C:Addr} {fd:FuncData} {ps ks:List Str} {sp:Sp} {E:XK} {x m:Str} {p pos apos kpos:Pos} {e o:Expr} {es:List Expr} {kws:List Keyword} {te ta:TE} {t tk:TA} {nm:Option Str}
theorem DS:PK X [] fT:=λ_ _ _ _ H Q I h=>wpAny_evalAll_nil ⟨[],H,I,.nil,h⟩
theorem vd(ha:PE X e te)(hr:PK X kws t):PK X (⟨nm,e,kpos⟩::kws) (dO te t):=by
 intro pos pins s σ H Q I h;show wpAny _ _ (evalAll ((do let v <- eval e X.env;standAt pos;pure v)::(backToKw pos (keywordEach kws X.env)).map (·.2))) _ _ s
 refine wpAny_evalAll_cons (wpAny_bind (thn (ha pins s σ H _ I h) λu s1 ⟨x,H1,I1,r1,q1⟩=>wpAny_bind (wpAny_standAt (wpAny_pure ?_))))
 exact thn (hr pos pins s1 σ H1 _ I1 q1) λus s2 ⟨xs,H2,I2,r2,q2⟩=>⟨x::xs,H2,I2,.cons r1 r2,q2⟩
variable {g:List Value->List Value->List Value} {gV:List V->List V->List V}
end
structure FZ (N P:List Str) (sc:Scope):Prop where
 kind:sc.kind=.function
 co:sc.isCoroutine=false
 gen:sc.isGenerator=false
 nd:N.Nodup
 pre:N.take P.length=P
 par:∀x∈P,sc.names.lookup x=some .local\/sc.names.lookup x=some .cell
 nofree:∀y∈sc.names,y.2≠.free
theorem oX{kindOf:Str->Option NameKind}{x:Str}:∀{binds:List (Str×Value)} {m:Str->Option Value},(∀v,(x,v)∉binds)->bindL kindOf binds m x=m x
 |[],_,_=>rfl
 |(n,v)::r,m,h=>by
  unfold bindL;rw[oX λw hw=>h w (mem_cons_of_mem _ hw)]
  split
  ·have:x≠n:=by rintro rfl;exact h v mem_cons_self
   simp[this]
  ·rfl
theorem oH{kindOf:Str->Option NameKind}{x:Str}:∀{binds:List (Str×Value)} {m:Str->Option Value},(∀v,(x,v)∉binds)->bindC kindOf binds m x=m x
 |[],_,_=>rfl
 |(n,v)::r,m,h=>by
  unfold bindC;rw[oH λw hw=>h w (mem_cons_of_mem _ hw)]
  split
  ·rfl
  ·have:x≠n:=by rintro rfl;exact h v mem_cons_self
   simp[this]
theorem pJ{kindOf:Str->Option NameKind}{x:Str}{v:Value}:∀{P:List Str} {vs:List Value} {i:Nat} {m:Str->Option Value},P.Nodup->P[i]? = some x->vs[i]? = some v->kindOf x=some .local->
  bindL kindOf (P.zip vs) m x=some v
 |[],_,_,_,_,h,_,_=>by simp at h
 |_::_,[],_,_,_,_,h,_=>by simp at h
 |p::P,w::vs,0,m,nd,h1,h2,hk=>by
  simp at h1 h2;subst h1;subst h2;show bindL kindOf ((p,w)::P.zip vs) m p=_;unfold bindL;rw[oX λv hv=>(List.nodup_cons.mp nd).1 (of_mem_zip hv).1,if_pos hk]
  simp
 |p::P,w::vs,i+1,m,nd,h1,h2,hk=>by
  show bindL kindOf ((p,w)::P.zip vs) m x=_;unfold bindL;exact pJ (i:=i) (List.nodup_cons.mp nd).2 (by simpa using h1) (by simpa using h2) hk
theorem o9{kindOf:Str->Option NameKind}{x:Str}{v:Value}:∀{P:List Str} {vs:List Value} {i:Nat} {m:Str->Option Value},P.Nodup->P[i]? = some x->vs[i]? = some v->kindOf x≠some .local->
  bindC kindOf (P.zip vs) m x=some v
 |[],_,_,_,_,h,_,_=>by simp at h
 |_::_,[],_,_,_,_,h,_=>by simp at h
 |p::P,w::vs,0,m,nd,h1,h2,hk=>by
  simp at h1 h2;subst h1;subst h2;show bindC kindOf ((p,w)::P.zip vs) m p=_;unfold bindC;rw[oH λv hv=>(List.nodup_cons.mp nd).1 (of_mem_zip hv).1,if_neg hk]
  simp
 |p::P,w::vs,i+1,m,nd,h1,h2,hk=>by
  show bindC kindOf ((p,w)::P.zip vs) m x=_;unfold bindC;exact o9 (i:=i) (List.nodup_cons.mp nd).2 (by simpa using h1) (by simpa using h2) hk
def eZ(N:List Str)(vs:List V):St:=vs.map some++List.replicate (N.length-vs.length) none
def dh(CX:CXT)(P:Program)(w:World)(K:Frag)(mg:Str->Option Value)(base:Heap)(N:List Str)(qual:Str)(scope:Scope)(f:Addr)(cd:Value)(A:Around)(outer:List Env)(s:Shared)(H:Hp)(E:XK):Cx where
 prog:=P
 w:=w
 K:=K
 mg:=mg
 base:=base
 A:=A.deeper (envOfC qual scope s.heap.objs.size f cd)
 N:=N
 s₀:=s
 H₀:=H
 env:=envOfC qual scope s.heap.objs.size f cd
 outer:=outer
 stack:=envOfC qual scope s.heap.objs.size f cd::outer
 ex:=[]
 calm:=true
 fn:=λ_=>true
 pn:=[]
 xe:=λe s'=>wpAny (model P w) (A.deeper (envOfC qual scope s.heap.objs.size f cd)) (leaving (envOfC qual scope s.heap.objs.size f cd) e) (λ_ s''=>CX outer H s E e s'') (λe' s''=>CX outer H s E e' s'') s'
theorem sI{sc:Scope}{n:Nat}{x:Str}(h:sc.names.lookup x=some .cell):∃c,(cellsFrom n sc.names []).lookup x=some c:=by
 have q:=PySem.W.cellsFrom_some sc.names n [] (.inl h);exact Option.isSome_iff_exists.mp q
theorem oR{CX:CXT}{P:Program}{w:World}{K:Frag}{mg:Str->Option Value}{base:Heap}{N ps:List Str}{qual:Str}{scope:Scope}{f:Addr}{cd:Value}{A:Around}{outer:List Env}{s s1:Shared}{H:Hp}{E:XK}{us:List Value}{vs:List V}
  (S:FZ N ps scope) (hd:A.handled=none) (e0:Env0 P w K mg base A outer s H) (hl:vs.length=ps.length) (r:F1 vs us)
  (x:InCallC s s.heap.objs.size (bindL (envOfC qual scope s.heap.objs.size f cd).kindOf (ps.zip us) λ_=>none) (cellsFrom (s.heap.objs.size+1) scope.names []) (bindC (envOfC qual scope s.heap.objs.size f cd).kindOf (ps.zip us) λ_=>none) s1) :
  Inv (dh CX P w K mg base N qual scope f cd A outer s H E) [] (eZ N vs) H s1:=by
 have hpl:ps.length<=N.length:=by have:=congrArg List.length S.pre;rw[length_take] at this;omega
 obtain⟨h1,tk,rfl,hk⟩:=x.done;have noA:∀b:Addr,b∉(dh CX P w K mg base N qual scope f cd A outer s H E).ex:=λb z=>absurd (show b∈([]:List Addr) from z) (by simp)
 refine⟨⟨e0.mod,S.kind,rfl,rfl,Nat.le_refl _,λy z c h1 h2=>?_,λy hy=>?_,λy c _ h=>?_,λ_=>hd,Around.frames_deeper e0.frames,.inr ⟨rfl,rfl⟩,λb z=>absurd z (noA b),e0.bs,e0.bsz,λb _ _=>noA b,λb z=>absurd z (noA b),e0.funs,e0.frf⟩,
  rfl,e0.bare,Un.kept hk,⟨_,x.toInCall.ns,λi y v h1 h2 h3=>?_⟩,λy c h=>⟨_,x.cell y c h⟩,e0.hok.fresh (Nat.le_refl _),λy c h=>?_,λp hp=>absurd (show p∈([]:List (Addr×Obj)) from hp) (by simp),e0.hok.kept hk,?_⟩
 ·exact name_of_addr x.apart (PySem.mem_of_lookup h1) (PySem.mem_of_lookup h2)
 ·have hy:scope.names.lookup y=some .cell\/scope.names.lookup y=some .free:=hy
  rcases hy with hy|hy
  ·exact sI hy
  ·exact absurd rfl (S.nofree _ (PySem.mem_of_lookup hy))
 ·exact Nat.le_of_lt (x.above y c (PySem.mem_of_lookup h))
 ·have hi:i<vs.length:=by
   unfold eZ at h2
   by_cases hi:i<vs.length
   ·exact hi
   ·rw[getElem?_append_right (by simpa using hi)] at h2
    rw[List.getElem?_replicate] at h2
    split at h2<;>cases h2
  have ha:vs[i]? = some v:=by
   unfold eZ at h2;rw[getElem?_append_left (by simpa using hi),getElem?_map] at h2
   cases e:vs[i]? with
   |none=>rw[e] at h2;cases h2
   |some a=>rw[e] at h2;cases h2;rfl
  obtain⟨u,hu,rv⟩:=r.get ha;have hp:ps[i]? = some y:=by
   rw[<- S.pre,List.getElem?_take_of_lt (by omega)];exact h1
  have ndP:ps.Nodup:=by rw[<- S.pre];exact S.nd.sublist (List.take_sublist _ _)
  refine⟨u,rv,?_⟩
  rcases S.par y (mem_of_getElem? hp) with k|k
  ·exact .inl ⟨k,pJ ndP hp hu k⟩
  ·obtain⟨c,e⟩:=sI (n:=s.heap.objs.size+1) k;refine .inr ⟨.inl k,c,e,?_⟩;have q:=x.cell y c e;rw[o9 ndP hp hu (by show scope.names.lookup y≠_;rw[k];decide)] at q
   exact q
 ·exact e0.hok.fresh (Nat.le_of_lt (x.above y c (PySem.mem_of_lookup h)))
 ·unfold eZ;show _=N.length;rw[length_append,length_map,length_replicate];omega
theorem AM{CX:CXT}{P:Program}{w:World}{K:Frag}{mg:Str->Option Value}{base:Heap}{k:Nat}{f:Addr}{name qual:Str}{params:Arguments}{body:List Stmt}{scope:Scope}{dV kV doc pm cdv ct oc:Value}{an od:Option Addr}
  {osl:Array (Option Value)} {N ps:List Str} {sp:Sp} (lk:K.lookup f=some ⟨oc,od,.func (fnOf name qual params body scope dV kV doc pm an cdv ct),osl⟩) (hcd:codeIn K cdv qual=true) (S:FZ N ps scope)
  (len:∀vs H Q E,sp vs H Q E->vs.length=ps.length)
  (hbody:∀(A:Around) (outer:List Env) (s:Shared) (H:Hp) (vs:List V) (Q:VK) (E:XK),F5 k (A.deeper (envOfC qual scope s.heap.objs.size f cdv))->sp vs H Q E->
   ∃t,PSs (dh CX P w K mg base N qual scope f cdv A outer s H E) body t/\t { nx:=λ_ H'=>Q .non H',rt:=Q } (eZ N vs) H) :
  F2 P w K mg base CX (k+1) f (fnOf name qual params body scope dV kV doc pm an cdv ct) ps sp:=by
 refine⟨len,λA outer s H args us vs Q E hr e0 hb r hsp=>?_⟩
 have hl:=len _ _ _ _ hsp;have KX:K.In s.heap:=e0.mod.kin.keeps λb o e=>(e0.bs b o e).1
 have lim:s.heap.NoLimit:=e0.mod.nolimit.keeps λb o e=>(e0.bs b o e).1
 have hkind:∀y∈ps.zip us,scope.names.lookup y.1=some .local\/(scope.names.lookup y.1=some .cell/\((cellsFrom (s.heap.objs.size+1) scope.names []).lookup y.1).isSome=true):=λ⟨n,v⟩ hy=>by
  rcases S.par n (of_mem_zip hy).1 with q|q
  ·exact .inl q
  ·exact .inr ⟨q,PySem.W.cellsFrom_some _ _ _ (.inl q)⟩
 refine codeAny_call_function hr.depth (KX _ _ lk) rfl S.co S.gen rfl (PySem.W.codeRec_of KX hcd) (hb _ _ _ _ ?_);refine wpAny_newFunctionEnv_cells S.kind hkind λenv he s1 x=>?_
 subst he;refine⟨lim.keeps x.toInCall.keep,codeAny_func ?_⟩;obtain⟨t,ht,hq⟩:=hbody A outer s H vs Q E (hr.deeper _) hsp;have I:Inv (dh CX P w K mg base N qual scope f cdv A outer s H E) [] (eZ N vs) H s1:=oR S hr.hd e0 hl r x;refine wpAny_mono (ht [] s1 (eZ N vs) H _ I hq) (λfl s' hs=>?_) λe s' hs=>hs
 have fin:∀{σ':St} {H':Hp} {v:V} {u:Value},Inv (dh CX P w K mg base N qual scope f cdv A outer s H E) [] σ' H' s'->F4 v u->Q v H'->CE outer P w H s Q u s':=
  λ{σ' H' v u} J rv q=>⟨v,H',J.os,J.bare,J.base,J.hok,rv,q⟩
 cases fl with
 |ret u=>
  obtain⟨v,σ',H',J,rv,q⟩:=hs;exact fin J rv q
 |next=>
  obtain⟨σ',H',J,q⟩:=hs;exact fin (v:=V.non) (u:=Value.none) J rfl q
 |brk=>
  obtain⟨_,_,_,q⟩:=hs;exact False.elim q
 |cont=>
  obtain⟨_,_,_,q⟩:=hs;exact False.elim q
section
variable {X:Cx} {x:Str} {p pos:Pos} {e:Expr} {es:List Expr} {t:TA} {id T:String} {r:List V->Hp->VK->Prop}
def tCB(r:List V->Hp->VK->Prop)(t:TA):TE:=λσ H Q=>t σ H λvs H1=>r vs H1 Q
theorem fu(hc:eY X (.builtin id) r)(hg:Gl X x)(hm:X.mg x=none)(hv:bootBuiltins x=some (.builtin id))(ha:PA X (e::es) t)(hn:x≠"__name__":=by decide)(hdb:(x==("__debug__" : Str))=false:=by decide)
  (he:starEach (e::es) X.env=(false,eval e X.env)::starEach es X.env:=by rfl) (hpl:(backTo pos (starEach es X.env)).any (·.1)=false:=by rfl):PE X (.Call (.Name x p) (e::es) [] pos) (tCB r t):=by
 intro pins s σ H Q I h;refine wpAny_Call_Name_kw (io I hg hm hv ?_ hn hdb);exact PyProof.Rows.callWith_builtin1 (thn (ha pos pins s σ H _ I h) λus s1 ⟨vs,H1,I1,r1,q1⟩=>hc pins s1 σ H1 vs us Q I1 r1 q1) he hpl
theorem bK(hc:eY X (.type T) r)(hg:Gl X x)(hm:X.mg x=none)(hv:bootBuiltins x=some (.type T))(ha:PA X (e::es) t)(hn:x≠"__name__":=by decide)(hdb:(x==("__debug__" : Str))=false:=by decide)
  (he:starEach (e::es) X.env=(false,eval e X.env)::starEach es X.env:=by rfl) (hpl:(backTo pos (starEach es X.env)).any (·.1)=false:=by rfl):PE X (.Call (.Name x p) (e::es) [] pos) (tCB r t):=by
 intro pins s σ H Q I h;refine wpAny_Call_Name_kw (io I hg hm hv ?_ hn hdb);exact PyProof.Rows.callWith_type1 (thn (ha pos pins s σ H _ I h) λus s1 ⟨vs,H1,I1,r1,q1⟩=>hc pins s1 σ H1 vs us Q I1 r1 q1) he hpl
end
end L2
namespace HT
open PySem PyProof.Rows
def lexLt:List Int->List Int->Bool
 |[],[]=>false
 |[],_::_=>true
 |_::_,[]=>false
 |x::xs,y::ys=>if x=y then lexLt xs ys else decide (x<y)
theorem lexLt_cons(x y:Int)(xs ys:List Int):lexLt (x::xs) (y::ys)=if x=y then lexLt xs ys else decide (x<y):=rfl
theorem oj:lexLt [] []=false:=rfl
theorem mr(y:Int)(ys:List Int):lexLt [] (y::ys)=true:=rfl
theorem nq(x:Int)(xs:List Int):lexLt (x::xs) []=false:=rfl
theorem zb(A:Around)(s:Shared)(a:Int)(t:Tok)(c:Int)(u:Tok):∃e,SeqAt.EqAt A s (.int a t) (.int c u) e/\(e=true↔a=c):=
 ⟨(a==c),SeqAt.EqAt.int_int a t c u,by simp⟩
theorem yO(A:Around)(s:Shared)(a:Int)(t:Tok)(c:Int)(u:Tok)(prog:Program)(w:World)(E:Value->Shared->Prop)(Q:Value->Shared->Prop)(h:Q (.bool (decide (a<c))) s) :
  wpAny (model prog w) A (richCompare .Lt (.int a t) (.int c u)) Q E s:=
 (PyProof.Rows.lt_int h:wpAny (model prog w) A (compareOp .Lt (.int a t) (.int c u)) Q E s)
section
open PySem.SeqAt
open PySem.AutoSeq1 (wpAny_loadPart')
open PySem.MeetsSeq PySem.MeetsSeq2 PySem.MeetsSeq3
theorem oF(l b:Addr)(items items2:Array Value)(n n2:Nat)(dd dd2:Option Addr)(sl sl2:Array (Option Value))(ns ms:List Int)(hi:IntsAre items.toList ns)(hj:IntsAre items2.toList ms) :
  Meets (Builtin.«tuple.__lt__» ⟨[.ref l,.ref b],[]⟩)
   (λ_ R s=>s.heap.get? l=some { cls:=.type "tuple",dict:=dd,data:=.seq items n,slots:=sl }/\s.heap.get? b=some { cls:=.type "tuple",dict:=dd2,data:=.seq items2 n2,slots:=sl2 }/\
    R (.ok (.ret (.bool (lexLt ns ms)))) s):=
 .of_wp λprog w A R s h=>by
  obtain⟨hp,g,d,tk,os⟩:=s;obtain⟨hl,hb,h⟩:=h;have f2:=AutoSeq1.sub_tuple_tuple;have z1:items.size=ns.length:=by rw[<- hi.length];simp
  have z2:items2.size=ms.length:=by rw[<- hj.length];simp
  wp_walk using wpAny_loadPart' hl,wpAny_loadPart' hb,wpAny_forIn_list _ (λrest b s'=>b.1=none/\s'=⟨hp,g,d,tk,os⟩/\∃(vs ws:List Value) (ns' ms':List Int),rest=vs.zip ws/\
   IntsAre vs ns'/\IntsAre ws ms'/\ns'.length+items2.size=ms'.length+items.size/\R (.ok (.ret (.bool (lexLt ns' ms')))) ⟨hp,g,d,tk,os⟩) _
  case turn=>
   rintro⟨y,x⟩ rest b s' ⟨hb',rfl,vs,ws,ns',ms',hz,hvi,hwi,hlen,hR⟩;cases hvi with
   |nil=>rw[List.zip_nil_left] at hz;cases hz
   |cons a t hvi'=>
    cases hwi with
    |nil=>rw[List.zip_nil_right] at hz;cases hz
    |cons c u hwi'=>
     rw[zip_cons_cons] at hz;injection hz with hyx hrest
     injection hyx with hy hx
     subst hy hx;rw[lexLt_cons] at hR;simp only[length_cons] at hlen;obtain⟨e,he,hiff⟩:=zb A.in1 ⟨hp,g,d,tk,os⟩ a t c u;refine wpAny_bind (he prog w _ _ ?_);cases e with
     |true=>
      rw[if_pos (hiff.mp rfl)] at hR
      wp_walk
      exact⟨rfl,rfl,_,_,_,_,hrest,hvi',hwi',by omega,hR⟩
     |false=>
      rw[if_neg (λq=>absurd (hiff.mpr q) Bool.false_ne_true)] at hR
      have hri:=yO A.in1 ⟨hp,g,d,tk,os⟩ a t c u prog w
      wp_walk using hri
      exact⟨_,rfl,by simpa using hR⟩
  case fin=>
   rintro⟨b1,b2⟩ s' ⟨hb',rfl,vs,ws,ns',ms',hz,hvi,hwi,hlen,hR⟩;simp only at hb';subst hb';have hv:lexLt ns' ms'=decide (items.size<items2.size):=by
    cases hvi with
    |nil=>
     cases hwi with
     |nil=>
      simp only[length_nil] at hlen;rw[oj];exact(decide_eq_false (by omega)).symm
     |cons c u hw=>
      simp only[length_nil,length_cons] at hlen;rw[mr];exact(decide_eq_true (by omega)).symm
    |cons a t hv=>
     cases hwi with
     |nil=>
      simp only[length_nil,length_cons] at hlen;rw[nq];exact(decide_eq_false (by omega)).symm
     |cons c u hw=>
      rw[zip_cons_cons] at hz;cases hz
   rw[hv] at hR
   wp_walk
   exact⟨_,rfl,by simpa[Builtin.Tuple.tupleCompareSizes] using hR⟩
  case h=>
   exact⟨rfl,rfl,items.toList,items2.toList,ns,ms,rfl,hi,hj,by omega,h⟩
end
section
variable {prog:Program} {w:World} {A:Around} {E:Value->Shared->Prop} {s:Shared}
theorem lt_tupInts{l b:Addr}{items items2:Array Value}{ns ms:List Int}{Q:Value->Shared->Prop}(hl:IsTup s.heap l items)(hb:IsTup s.heap b items2)(hi:IntsAre items.toList ns)(hj:IntsAre items2.toList ms)
  (hu:A.units<cLine) (h:Q (.bool (lexLt ns ms)) s):wpAny (model prog w) A (compareOp .Lt (.ref l) (.ref b)) Q E s:=by
 obtain⟨⟨cls,dd,data,sl⟩,ho,hc,n,hd⟩:=id hl;obtain⟨⟨cls2,dd2,data2,sl2⟩,ho2,hc2,n2,hd2⟩:=id hb;simp only at hc hd hc2 hd2;subst hc hd hc2 hd2;exact richCompare_meets_room (op:=.Lt) ⟨_,ho,rfl⟩ ⟨_,ho2,rfl⟩ PySem.F.slot_tuple_lt PySem.F.entry_tuple_lt (PySem.F.args_tuple_lt_2 _ _) (oF l b items items2 n n2 dd dd2 sl sl2 ns ms hi hj)
  ⟨ho,ho2,show Value.bool (lexLt ns ms)≠Value.notImplemented/\Q (.bool (lexLt ns ms)) s from⟨(λx=>nomatch x),h⟩⟩ hu
def sIx(n d:Nat):Option Int->Nat
 |none=>d
 |some v=>if v<0 then(v+(n:Int)).toNat else min v.toNat n
end
end HT
namespace L2
open PySem PySem.Spec PyProof.Rows
abbrev TO:=St->Hp->(Option Int->Hp->Prop)->Prop
def PO(X:Cx)(e:Option Expr)(t:TO):Prop:=
 ∀(pins:List (Addr×Obj)) (s:Shared) (σ:St) (H:Hp) (Q:Option Int->Hp->Prop),Inv X pins σ H s->t σ H Q->
  wpAny (model X.prog X.w) X.A (evalPart e X.env) (λu s'=>∃o H',Inv X pins σ H' s'/\IsPart u o/\Q o H') X.xe s
def qz:TO:=λ_ H Q=>Q none H
def yL(t:TE):TO:=λσ H Q=>t σ H λx H1=>∃i,x=.int i/\Q (some i) H1
theorem i9{ns:List Int}:∀{us:List Value},F1 (ns.map V.int) us->IntsAre us ns:=by
 induction ns with
 |nil=>intro us r;rw[map_nil] at r;cases r;exact .nil
 |cons n ns ih=>
  intro us r;rw[map_cons] at r;cases r with
  |cons r1 r2=>
   obtain⟨t,e⟩:=r1;subst e;exact .cons n t (ih r2)
section
variable {X:Cx} {e:Expr} {te:TE} {lo hi:Option Expr} {tl th:TO} {pos p2:Pos}
theorem bE:PO X none qz:=by
 intro pins s σ H Q I h;rw[evalPart_none];exact wpAny_pure ⟨none,H,I,.none,h⟩
theorem cE(h:PE X e te):PO X (some e) (yL te):=by
 intro pins s σ H Q I hw;rw[evalPart_some];refine thn (h pins s σ H _ I hw) λu s1 ⟨x,H1,I1,r1,q1⟩=>?_
 obtain⟨i,rfl,q⟩:=q1;obtain⟨t,rfl⟩:=r1;exact⟨some i,H1,I1,.int i t,q⟩
def SlR(X:Cx)(r:V->Option Int->Option Int->Hp->VK->Prop):Prop:=
 ∀(pins:List (Addr×Obj)) (s:Shared) (σ:St) (H:Hp) (x:V) (v vl vu:Value) (lo hi:Option Int) (sl:Addr) (Q:VK),Inv X pins σ H s->F4 x v->s.heap.IsSliceOf sl vl vu .none->IsPart vl lo->IsPart vu hi->r x lo hi H Q->
  ∃T id,typeLookup (.type T) "__getitem__" = pure (some (.builtin id))/\s.TypeIs v T/\wpAny (model X.prog X.w) X.A (getItem v (.ref sl)) (EP X pins σ Q) X.xe s
def tSl(r:V->Option Int->Option Int->Hp->VK->Prop)(te:TE)(tl th:TO):TE:=λσ H Q=>te σ H λx H1=>tl σ H1 λl H2=>th σ H2 λu H3=>r x l u H3 Q
theorem cU{r:V->Option Int->Option Int->Hp->VK->Prop}(hr:SlR X r)(he:PE X e te)(hl:PO X lo tl)(hu:PO X hi th):PE X (.Subscript e (.Slice lo hi none p2) pos) (tSl r te tl th):=by
 intro pins s σ H Q I h;refine Subscript_ (thn (he pins s σ H _ I h) λv s1 ⟨x,H1,I1,r1,q1⟩=>?_)
 refine wpAny_Slice (thn (hl pins s1 σ H1 _ I1 q1) λvl s2 ⟨l,H2,I2,pl,q2⟩=>thn (hu pins s2 σ H2 _ I2 q2) λvu s3 ⟨u,H3,I3,pu,q3⟩=>?_)
 rw[evalPart_none];refine wpAny_pure ?_;have I4:Inv X pins σ H3 { s3 with heap:=s3.heap.push { cls:=.type "slice",data:=.fields #[vl,vu,.none] } }:=I3.kept (t':=s3.toks) λb ob q=>get?_push_of_some _ q
 obtain⟨T,id,hT,ht,hg⟩:=hr pins { s3 with heap:=s3.heap.push { cls:=.type "slice",data:=.fields #[vl,vu,.none] } } σ H3 x v vl vu l u s3.heap.objs.size Q I4 r1 (Heap.IsSliceOf.new ..) pl pu q3
 show wpAny (model X.prog X.w) X.A (subscriptTail e (.Slice lo hi none p2) v (.ref s3.heap.objs.size)) (EP X pins σ Q) X.xe { s3 with heap:=s3.heap.push { cls:=.type "slice",data:=.fields #[vl,vu,.none] } }
 exact tail_any (ops:=[.ref s3.heap.objs.size,v]) ht hT hg (by with_unfolding_all rfl)
def jH(xs:List V)(lo hi:Option Int):List V:=(xs.drop (HT.sIx xs.length 0 lo)).take (HT.sIx xs.length xs.length hi-HT.sIx xs.length 0 lo)
theorem sX(xs:List V)(lo hi:Option Int):(jH xs lo hi).length<=xs.length:=by
 unfold jH;rw[length_take,length_drop];omega
end
def ixN(n:Nat)(i:Int):Option Nat:=if 0<=i then(if i<n then some i.toNat else none) else if -(n:Int)<=i then some (i+n).toNat else none
def atI{α:Type}(xs:List α)(i:Int):Option α:=(ixN xs.length i).bind λj=>xs[j]?
theorem u3{n:Nat}{i:Int}{j:Nat}(h:ixN n i=some j):seqIndex? i n=some j/\j<n/\-(n:Int)<=i/\i<n:=by
 unfold ixN at h
 by_cases h0:0<=i
 ·rw[if_pos h0] at h
  by_cases h1:i<n
  ·rw[if_pos h1] at h;have e:i.toNat=j:=Option.some.inj h;exact⟨by rw[seqIndex_of h0 h1,e],by omega,by omega,h1⟩
  ·rw[if_neg h1] at h;cases h
 ·rw[if_neg h0] at h
  by_cases h1:-(n:Int)<=i
  ·rw[if_pos h1] at h;have e:(i+n).toNat=j:=Option.some.inj h;exact⟨by rw[seqIndex_neg (by omega) h1,e],by omega,h1,by omega⟩
  ·rw[if_neg h1] at h;cases h
theorem qm{α:Type}{xs:List α}{i:Int}{v:α}(h:atI xs i=some v):∃j,seqIndex? i xs.length=some j/\xs[j]? = some v/\j<xs.length/\-(xs.length:Int)<=i/\i<xs.length:=by
 unfold atI at h;cases e:ixN xs.length i with
 |none=>rw[e] at h;cases h
 |some j=>
  rw[e] at h;obtain⟨h1,h2,h3,h4⟩:=u3 e;exact⟨j,h1,h,h2,h3,h4⟩
theorem aB{α:Type}{xs:List α}{j:Nat}{v:α}(h:xs[j]? = some v):atI xs (j:Int)=some v:=by
 have hj:j<xs.length:=(List.getElem?_eq_some_iff.mp h).1;have e:ixN xs.length (j:Int)=some j:=by
  unfold ixN;rw[if_pos (by omega),if_pos (by omega)];simp
 unfold atI;rw[e];exact h
def BZ(b:Expr):Prop:=∀o i,subscripted b false o i=operate [o,i] (getItem o i)
def IxR(X:Cx)(r:R2):Prop:=
 ∀(value slice:Expr) (pins:List (Addr×Obj)) (s:Shared) (σ:St) (H:Hp) (x y:V) (v u:Value) (Q:VK),Inv X pins σ H s->F4 x v->F4 y u->r x y H Q->
  subscripted slice false v u=operate [v,u] (getItem v u)->wpAny (model X.prog X.w) X.A (subscriptTail value slice v u) (EP X pins σ Q) X.xe s
def MtR(X:Cx)(id:String)(r:V->List V->Hp->VK->Prop):Prop:=
 ∀(pins:List (Addr×Obj)) (s:Shared) (σ:St) (H:Hp) (x:V) (xs:List V) (v:Value) (us:List Value) (Q:VK),Inv X pins σ H s->F4 x v->F1 xs us->r x xs H Q->
  wpAny (model X.prog X.w) X.A (call (.builtin id) (v::us)) (EP X pins σ Q) X.xe s
section
variable {X:Cx} {a b:Expr} {ta tb:TE} {pos:Pos}
theorem aG{r:R2}(hr:IxR X r)(ha:PE X a ta)(hb:PE X b tb)(hs:BZ b):PE X (.Subscript a b pos) (tOp r ta tb):=by
 intro pins s σ H Q I h;exact Subscript_ (D4 ha hb I h λv u s2 x y H2 I2 rx ry q=>hr a b pins s2 σ H2 x y v u Q I2 rx ry q (hs _ _))
def Fx(K:Frag):R2:=λx y H Q=>∃p xs i v,x=.ref p/\y=.int i/\SqL K H p xs/\atI xs i=some v/\Q v H
def Ff(K:Frag):R2:=λx y H Q=>∃p xs i v,x=.ref p/\y=.int i/\SqT K H p xs/\atI xs i=some v/\Q v H
def rIxS:R2:=λx y H Q=>∃z i c,x=.str z/\y=.int i/\z.length<=sizeLine/\atI z.cps.toList i=some c/\Q (.str ⟨#[c]⟩) H
theorem CJ:IxR X (Fx X.K):=by
 intro value slice pins s σ H x y v u Q I rx ry h hs;obtain⟨p,xs,i,z,rfl,rfl,hq,he,q⟩:=h;cases rx;obtain⟨t,rfl⟩:=ry;obtain⟨its,r,pl,hz⟩:=I.list hq;obtain⟨j,h1,h2,h3,h4,h5⟩:=qm he;obtain⟨w,ew,rw'⟩:=r.get h2;have hl:=r.length;have hn:=mM;have fin:EP X pins σ Q w s:=⟨z,H,I,rw',q⟩
 by_cases h0:0<=i
 ·have hj:i.toNat=j:=by
   rw[seqIndex_of h0 h5] at h1;exact Option.some.inj h1
  exact item_listR pl.isList h0 (by omega) (by rw[hj];simpa using ew) fin hs
 ·have hj:(i+(its.toArray.size:Int)).toNat=j:=by
   rw[seqIndex_neg (by omega) h4] at h1
   rw[size_toArray,<- hl];exact Option.some.inj h1
  exact subscriptTail_builtinR (x:=w) pl.isList.typeIs slot_list_getitem.lookup
   (wpAny_getItem_list_neg (Q:=λr s'=>r=w/\EP X pins σ Q r s') pl.isList (by omega) (by rw[size_toArray]<;>omega) (by omega) (by rw[hj];simpa using ew) ⟨rfl,fin⟩) hs
theorem EJ:IxR X (Ff X.K):=by
 intro value slice pins s σ H x y v u Q I rx ry h hs;obtain⟨p,xs,i,z,rfl,rfl,hq,he,q⟩:=h;cases rx;obtain⟨t,rfl⟩:=ry;obtain⟨its,r,pl,hz⟩:=I.tuple hq;obtain⟨j,h1,h2,h3,h4,h5⟩:=qm he;obtain⟨w,ew,rw'⟩:=r.get h2;have hl:=r.length;have hn:=mM;have fin:EP X pins σ Q w s:=⟨z,H,I,rw',q⟩;exact subscriptTail_builtinR (x:=w) pl.typeIs slot_tuple_getitem.lookup
  (getItem_tuple (j:=j) (Q:=λr s'=>r=w/\EP X pins σ Q r s') pl (by omega) (by omega) (by rw[size_toArray,<- hl];exact h1) (by simpa using ew) ⟨rfl,fin⟩) hs
theorem j9:IxR X rIxS:=by
 intro value slice pins s σ H x y v u Q I rx ry h hs;obtain⟨z,i,c,rfl,rfl,hz,he,q⟩:=h;obtain⟨t,rfl⟩:=rx;obtain⟨t',rfl⟩:=ry;obtain⟨j,h1,h2,h3,h4,h5⟩:=qm he;have hl:z.cps.toList.length=z.length:=by simp[Str.length]
 rw[hl] at h1 h4 h5;have hn:=mM;exact tail_any (typeIs_str s z t) slot_str_getitem.lookup (getItem_str (c:=c) (by
  have e1:decide (i < -(2^63:Int))=false:=decide_eq_false (by omega)
  have e2:decide (i ≥ 2^63)=false:=decide_eq_false (by omega)
  rw[e1,e2,Bool.or_false]) (by rw[h1];simpa using h2) ⟨.str ⟨#[c]⟩,H,I.tok _,⟨_,rfl⟩,q⟩) hs
theorem uc(its:List Value)(n j:Nat)(u:Value):Obj.mapSeq (·.setIfInBounds j u) { cls:=.type "list",data:=.seq its.toArray n }={ cls:=.type "list",data:=.seq (its.set j u).toArray n }:=by
 simp[Obj.mapSeq]
theorem Inv.lst{pins:List (Addr×Obj)}{σ:St}{H:Hp}{s:Shared}{p:Addr}{xs:List V}(I:Inv X pins σ H s)(h:H p=some (.lst xs)) :
  ∃(its:List Value) (n:Nat),F1 xs its/\s.heap.get? p=some { cls:=.type "list",data:=.seq its.toArray n }/\xs.length<=sizeLine:=by
 obtain⟨z,its,n,r,e⟩:=I.hok p _ h;exact⟨its,n,r,e,z⟩
theorem Inv.lstUpd{pins:List (Addr×Obj)}{σ:St}{H:Hp}{s:Shared}{p:Addr}{xs ys:List V}{its its':List Value}{n n':Nat}{f:Obj->Obj}(I:Inv X pins σ H s)(h:H p=some (.lst xs))
  (ho:s.heap.get? p=some { cls:=.type "list",data:=.seq its.toArray n }) (hf:f { cls:=.type "list",data:=.seq its.toArray n }={ cls:=.type "list",data:=.seq its'.toArray n' }) (r:F1 ys its') (hz:ys.length<=sizeLine) (t:Nat) :
  Inv X pins σ (upd H p (.lst ys)) { s with heap:=s.heap.update p f,toks:=t }:=by
 have e:(s.heap.update p f).get? p=some { cls:=.type "list",data:=.seq its'.toArray n' }:=by
  rw[get?_update_self f ho (by rw[hf]<;>rfl),hf]
 refine I.write (x:=p) (e:=p) (by rw[h];trivial) (.inl rfl) (λb u hb q=>(get?_update_other _ _ (Ne.symm hb)).trans q) ⟨_,e⟩ ?_
 exact⟨hz,its',n',r,e⟩
def Fw:V->V->V->Hp->(Hp->Prop)->Prop:=λo i v H Q=>∃p xs k j,o=.ref p/\i=.int k/\H p=some (.lst xs)/\ixN xs.length k=some j/\Q (upd H p (.lst (xs.set j v)))
theorem dH:Fg X Fw:=by
 intro pins s σ H o i v ov iv u Q I ro ri rv h;obtain⟨p,xs,k,j,rfl,rfl,hp,hj,q⟩:=h;cases ro;obtain⟨t,rfl⟩:=ri;obtain⟨its,n,r,ho,hz⟩:=I.lst hp;obtain⟨h1,h2,h3,h4⟩:=u3 hj;have hl:=r.length;have hn:=mM;have I':Inv X pins σ (upd H p (.lst (xs.set j v))) { s with heap:=s.heap.update p (Obj.mapSeq (·.setIfInBounds j u)) }:=
  I.lstUpd hp ho (uc its n j u) (r.set rv j) (by rw[length_set];exact hz) s.toks
 by_cases h0:0<=k
 ·have hk:k.toNat=j:=by
   rw[seqIndex_of h0 h4] at h1;exact Option.some.inj h1
  exact PySem.W.ki_setAt ho h0 (by omega) (by rw[size_toArray,<- hl];exact h4) (by rw[hk];exact⟨_,I',q⟩)
 ·have hk:(k+(its.toArray.size:Int)).toNat=j:=by
   rw[seqIndex_neg (by omega) h3] at h1
   rw[size_toArray,<- hl];exact Option.some.inj h1
  exact PySem.W.ki_setBack ho (by omega) (by rw[size_toArray,<- hl];exact h3) (by omega) (by rw[hk];exact⟨_,I',q⟩)
theorem qQ(lo hi:Option Int)(n:Nat):(sliceBounds lo hi none n).1=((HT.sIx n 0 lo:Nat):Int)/\(sliceBounds lo hi none n).2.1=((HT.sIx n n hi:Nat):Int)/\(sliceBounds lo hi none n).2.2=1:=by
 refine⟨?_,?_,rfl⟩
 ·cases lo with
  |none=>simp[sliceBounds,HT.sIx]
  |some i=>
   simp only[sliceBounds,HT.sIx,Option.getD_none,show(1:Int)>0 by decide,if_true]
   by_cases h:i<0
   ·simp only[h,if_true]<;>omega
   ·simp only[h,if_false]<;>omega
 ·cases hi with
  |none=>simp[sliceBounds,HT.sIx]
  |some i=>
   simp only[sliceBounds,HT.sIx,Option.getD_none,show(1:Int)>0 by decide,if_true]
   by_cases h:i<0
   ·simp only[h,if_true]<;>omega
   ·simp only[h,if_false]<;>omega
theorem om(its:List Value)(lo hi:Option Int):slicePick its.toArray lo hi none=((its.drop (HT.sIx its.length 0 lo)).take (HT.sIx its.length its.length hi-HT.sIx its.length 0 lo)).toArray:=by
 obtain⟨h1,h2,h3⟩:=qQ lo hi its.toArray.size;unfold slicePick;rw[h1,h2,h3];simp only[sliceRange_one,pick_run,size_toArray]<;>rfl
def Cq(K:Frag):V->Option Int->Option Int->Hp->VK->Prop:=λx lo hi H Q=>∃a xs,x=.ref a/\SqL K H a xs/\∀p,H p=none->Q (.ref p) (upd H p (.lst (jH xs lo hi)))
theorem Cy:SlR X (Cq X.K):=by
 intro pins s σ H x v vl vu lo hi sl Q I rx hs pl pu h;obtain⟨a,xs,rfl,hx,q⟩:=h;cases rx;obtain⟨its,r,ht,hz⟩:=I.list hx;have hlen:=r.length;refine⟨"list",_,slot_list_getitem.lookup,ht.isList.typeIs,?_⟩;refine wpAny_getItem_list_slice ht.isList hs pl pu .none (by simp) ?_ (by rw[size_toArray]<;>omega)
 rw[om,<- hlen];refine⟨.ref s.heap.objs.size,_,I.laid (t':=s.toks) (o:=.lst (jH xs lo hi)) (λb ob q=>get?_push_of_some _ q) (Nat.le_refl _) ?_,rfl,q _ (I.hok.fresh (Nat.le_refl _))⟩
 exact⟨Nat.le_trans (sX xs lo hi) hz,_,0,(r.drop (HT.sIx xs.length 0 lo)).take (HT.sIx xs.length xs.length hi-HT.sIx xs.length 0 lo),get?_push_size _ rfl⟩
theorem ql:eY X (.builtin "len") (λxs H Q=>∃p ys,xs=[.ref p]/\(SqL X.K H p ys\/SqT X.K H p ys)/\Q (.int ys.length) H):=by
 intro pins s σ H xs us Q I r h;obtain⟨p,ys,rfl,hq,q⟩:=h;obtain⟨u,rfl,rx⟩:=gM r;cases rx;have hn:=mM
 rcases hq with hq|hq
 ·obtain⟨its,r',pl,hz⟩:=I.list hq;have hlen:=r'.length;exact Calls.call_len_list pl.isList (by simp only[size_toArray]<;>omega) ⟨.int ys.length,H,I.tok _,⟨s.toks+1,by rw[size_toArray,hlen]⟩,q⟩
 ·obtain⟨its,r',pl,hz⟩:=I.tuple hq;have hlen:=r'.length;exact len_tuple pl (by simp only[size_toArray]<;>omega) ⟨.int ys.length,H,I.tok _,⟨s.toks+1,by rw[size_toArray,hlen]⟩,q⟩
theorem pU:eY X (.type "list") (λxs H Q=>∃p ys,xs=[.ref p]/\(SqL X.K H p ys\/SqT X.K H p ys)/\∀l,H l=none->Q (.ref l) (upd H l (.lst ys))):=by
 intro pins s σ H xs us Q I r h;obtain⟨p,ys,rfl,hq,q⟩:=h;obtain⟨u,rfl,rx⟩:=gM r;cases rx;have fin:∀(its:List Value),F1 ys its->ys.length<=sizeLine->∀(h':Heap) (c':Nat),(∀b o',s.heap.get? b=some o'->h'.get? b=some o')->
   h'.get? s.heap.objs.size=some { cls:=.type "list",dict:=none,data:=.seq its.toArray c',slots:=#[] }->EP X pins σ Q (.ref s.heap.objs.size) { s with heap:=h' }:=λits r' hz h' c' kp e=>
  ⟨.ref s.heap.objs.size,_,I.laid (t':=s.toks) kp (Nat.le_refl _) (show F6 X.prog X.w _ h' _ (.lst ys) from⟨hz,its,c',r',e⟩),rfl,q _ (I.hok.fresh (Nat.le_refl _))⟩
 rcases hq with hq|hq
 ·obtain⟨its,r',pl,hz⟩:=I.list hq;have hlen:=r'.length;obtain⟨o,ho,hc,n,hd⟩:=pl.isList;exact call_list_seq p (.inl rfl) ho hc hd (λh' c' kp e=>fin its r' hz h' c' kp e) (by simp only[size_toArray]<;>omega)
 ·obtain⟨its,r',pl,hz⟩:=I.tuple hq;have hlen:=r'.length;obtain⟨o,ho,hc,n,hd⟩:=pl;exact call_list_seq p (.inr rfl) ho hc hd (λh' c' kp e=>fin its r' hz h' c' kp e) (by simp only[size_toArray]<;>omega)
theorem ox:eY X (.type "tuple") (λxs H Q=>∃p ys,xs=[.ref p]/\((SqL X.K H p ys/\∀l,H l=none->Q (.ref l) (upd H l (.tup ys)))\/(SqT X.K H p ys/\Q (.ref p) H))):=by
 intro pins s σ H xs us Q I r h;obtain⟨p,ys,rfl,h⟩:=h;obtain⟨u,rfl,rx⟩:=gM r;cases rx
 rcases h with⟨hq,q⟩|⟨hq,q⟩
 ·obtain⟨its,r',pl,hz⟩:=I.list hq;have hlen:=r'.length;refine call_tuple_list pl.isList (λh' kp=>?_) (by simp only[size_toArray]<;>omega)
  have I1:Inv X pins σ H { s with heap:=h' }:=I.kept (t':=s.toks) kp
  have I2:Inv X pins σ (upd H h'.objs.size (.tup ys)) { s with heap:=h'.push { cls:=.type "tuple",data:=.seq its.toArray } }:=
   I1.laid (t':=s.toks) (λb o e=>get?_push_of_some _ e) (Nat.le_refl _) (show F6 X.prog X.w _ _ _ (.tup ys) from⟨hz,its,r',IsTup.new _ _⟩)
  exact⟨.ref h'.objs.size,_,I2,rfl,q _ (I1.hok.fresh (Nat.le_refl _))⟩
 ·obtain⟨its,r',pl,hz⟩:=I.tuple hq;exact call_tuple_same pl ⟨.ref p,H,I,rfl,q⟩
def tyV(K:Frag)(T:String)(x:V)(H:Hp):Prop:=match x with
 |.str _=>T="str"
 |.int _=>T="int"
 |.ref p=>(T="list"/\∃xs,SqL K H p xs)\/(T="tuple"/\∃o,K.lookup p=some o/\o.cls=.type "tuple"/\o.dict=none) \/
   (T="dict"/\((∃kvs,H p=some (.dK kvs))\/∃kvs,H p=some (.dT kvs)))\/(T="set"/\∃S n,H p=some (.set S n))
 |_=>False
theorem yx{pins:List (Addr×Obj)}{σ:St}{H:Hp}{s:Shared}{T:String}{x:V}{v:Value}(I:Inv X pins σ H s)(r:F4 x v)(ty:tyV X.K T x H) :
  s.TypeIs v T/\∀a,v=.ref a->∃ob,s.heap.get? a=some ob/\ob.dict=none:=by
 cases x with
 |str z=>
  obtain⟨t,rfl⟩:=r;cases (show T="str" from ty)
  exact⟨typeIs_str s z t,λ_ e=>nomatch e⟩
 |int i=>
  obtain⟨t,rfl⟩:=r;cases (show T="int" from ty)
  exact⟨typeIs_int s i t,λ_ e=>nomatch e⟩
 |ref p=>
  cases r
  rcases ty with⟨rfl,xs,hq⟩|⟨rfl,o,hk,hc,hd⟩|⟨rfl,hk⟩|⟨rfl,S,n,hk⟩
  ·obtain⟨its,_,pl,_⟩:=I.list hq;refine⟨pl.isList.typeIs,λa e=>?_⟩
   cases e;obtain⟨o,n,e,c,hd,_⟩:=pl;exact⟨o,e,hd⟩
  ·refine⟨⟨o,I.kIn p o hk,hc⟩,λa e=>?_⟩
   cases e;exact⟨o,I.kIn _ o hk,hd⟩
  ·have z:∃o,s.heap.get? p=some o/\o.ExactDict:=by
    rcases hk with⟨kvs,hk⟩|⟨kvs,hk⟩
    ·obtain⟨_,_,_,_,o,_,_,e,ex,_⟩:=I.hok p _ hk;exact⟨o,e,ex⟩
    ·obtain⟨_,_,_,_,o,_,_,e,ex,_⟩:=I.hok p _ hk;exact⟨o,e,ex⟩
   obtain⟨o,e,ex⟩:=z;refine⟨⟨o,e,ex.1⟩,λa e2=>?_⟩
   cases e2;exact⟨o,e,ex.2.1⟩
  ·obtain⟨o,_,_,_,e,ex,_⟩:=I.hok p _ hk;refine⟨⟨o,e,ex.1⟩,λa e2=>?_⟩
   cases e2;exact⟨o,e,ex.2.1⟩
 |_=>exact False.elim ty
def tBM0(K:Frag)(T:String)(r:V->List V->Hp->VK->Prop)(to:TE):TE:=λσ H Q=>to σ H λx H1=>tyV K T x H1/\r x [] H1 Q
def tBM(K:Frag)(T:String)(r:V->List V->Hp->VK->Prop)(to:TE)(t:TA):TE:=λσ H Q=>to σ H λx H1=>tyV K T x H1/\t σ H1 λxs H2=>r x xs H2 Q
variable {o e:Expr} {es:List Expr} {to:TE} {t:TA} {name:Str} {apos cpos:Pos} {T id:String} {r:V->List V->Hp->VK->Prop}
theorem ED(pa:PlainAttrs T)(slot:Slot T name id)(hty:typeOf (.builtin id)=pure (.type "method_descriptor"))(hm:MtR X id r)(ho:PE X o to)
  (hbase:attributeBase o name X.env (eval o X.env)=eval o X.env:=by rfl) (hline:(apos.endLine==cpos.line)=true:=by rfl):PE X (.Call (.Attribute o name apos) [] [] cpos) (tBM0 X.K T r to):=by
 intro pins s σ H Q I h;refine wpAny_Call_method0_late hbase hline (thn (ho pins s σ H _ I h) λv s1 ⟨x,H1,I1,r1,ty,q1⟩=>?_)
 obtain⟨h1,h2⟩:=yx I1 r1 ty;exact⟨T,id,pa,slot,hty,h1,h2,Calls.callWith_builtin rfl (PySem.evalArgs_none (hm pins s1 σ H1 x [] v [] Q I1 r1 .nil q1))⟩
theorem dQ(pa:PlainAttrs T)(slot:Slot T name id)(hty:typeOf (.builtin id)=pure (.type "method_descriptor"))(hm:MtR X id r)(ho:PE X o to)(ha:PA X (e::es) t)
  (hbase:attributeBase o name X.env (eval o X.env)=eval o X.env:=by rfl)
  (hfew:((backTo cpos (starEach (e::es) X.env)).all (λx=>!x.1)&&(backToKw cpos (keywordEach [] X.env)).all (λx=>x.1.isSome)
   && decide ((e::es).length+([]:List Keyword).length+(if ([]:List Keyword).isEmpty then 0 else 1)<30))=true:=by rfl)
  (hline:(apos.endLine==cpos.line)=true:=by rfl) (hs:starEach (e::es) X.env=(false,eval e X.env)::starEach es X.env:=by rfl) (hplain:(backTo cpos (starEach es X.env)).any (·.1)=false:=by rfl) :
  PE X (.Call (.Attribute o name apos) (e::es) [] cpos) (tBM X.K T r to t):=by
 intro pins s σ H Q I h;refine wpAny_Call_method_late hbase hfew hline rfl (thn (ho pins s σ H _ I h) λv s1 ⟨x,H1,I1,r1,ty,q1⟩=>?_)
 obtain⟨h1,h2⟩:=yx I1 r1 ty;refine⟨T,id,pa,slot,hty,h1,h2,?_⟩;have hA:=ha cpos pins s1 σ H1 _ I1 q1;rw[hs] at hA ⊢;refine Calls.callWith_builtin (by show(false || (backTo cpos (starEach es X.env)).any (·.1))=false;rw[hplain]<;>rfl) (Calls.evalArgs_plain ?_)
 exact thn hA λus s2 ⟨vs,H2,I2,r2,q2⟩=>hm pins s2 σ H2 x vs v us Q I2 r1 r2 q2
end
def MtM(X:Cx)(id:String)(r:V->List V->Hp->VK->Prop):Prop:=
 ∀(pins:List (Addr×Obj)) (s:Shared) (σ:St) (H:Hp) (x:V) (xs:List V) (v:Value) (us:List Value) (Q:VK),Inv X pins σ H s->F4 x v->F1 xs us->r x xs H Q->
  wpAny (model X.prog X.w) X.A (call (.builtin id) (v::us)) (EP X pins σ Q) X.xe s
theorem F1.one:∀{x:V} {us:List Value},F1 [x] us->∃u,us=[u]/\F4 x u
 |_,_,.cons r .nil=>⟨_,rfl,r⟩
theorem F1.two:∀{x y:V} {us:List Value},F1 [x,y] us->∃u v,us=[u,v]/\F4 x u/\F4 y v
 |_,_,_,.cons r (.cons q .nil)=>⟨_,_,rfl,r,q⟩
theorem F1.zero:∀{us:List Value},F1 [] us->us=[]
 |_,.nil=>rfl
theorem F1.dropLast{xs:List V}{us:List Value}(h:F1 xs us):F1 xs.dropLast us.dropLast:=by
 induction h with
 |nil=>exact .nil
 |cons r t ih=>
  cases t with
  |nil=>exact .nil
  |cons q t'=>exact .cons r ih
theorem F1.reverse{xs:List V}{us:List Value}(h:F1 xs us):F1 xs.reverse us.reverse:=by
 induction h with
 |nil=>exact .nil
 |cons r t ih=>rw[List.reverse_cons,List.reverse_cons];exact F1.append ih (.cons r .nil)
theorem tS{α:Type}(l:List α):l.eraseIdx (l.length-1)=l.dropLast:=by
 induction l with
 |nil=>rfl
 |cons a r ih=>
  cases r with
  |nil=>rfl
  |cons b r=>
   have e:(a::b::r).length-1=((b::r).length-1)+1:=by
    have h1:(a::b::r).length=r.length+2:=rfl;have h2:(b::r).length=r.length+1:=rfl;omega
   rw[e,List.eraseIdx_cons_succ,ih]
   all_goals rfl
section
variable {X:Cx} {pins:List (Addr×Obj)} {σ:St} {H:Hp} {s:Shared} {l b:Addr} {xs ys zs:List V}
theorem Inv.lset{its its':List Value}{n:Nat}{f:Array Value->Array Value}{t':Nat}(I:Inv X pins σ H s)(hH:H l=some (.lst xs))
  (e:s.heap.get? l=some { cls:=.type "list",data:=.seq its.toArray n }) (hf:f its.toArray=its'.toArray) (hv:F1 ys its') (hz:ys.length<=sizeLine) :
  Inv X pins σ (upd H l (.lst ys)) { s with heap:=s.heap.update l (Obj.mapSeq f),toks:=t' }:=by
 have q:=PySem.IsL.update e f;rw[hf] at q;refine I.write (x:=l) (e:=l) (by rw[hH];exact trivial) (.inl rfl) (λb' u hb hu=>(get?_update_other s.heap (Obj.mapSeq f) (Ne.symm hb)).trans hu) ⟨_,q⟩ ?_
 exact⟨hz,its',_,hv,q⟩
theorem Inv.lnew{its:List Value}{t':Nat}(I:Inv X pins σ H s)(hv:F1 ys its)(hz:ys.length<=sizeLine) :
  Inv X pins σ (upd H s.heap.objs.size (.lst ys)) { s with heap:=s.heap.push { cls:=.type "list",data:=.seq its.toArray },toks:=t' }:=
 I.laid (λ_ _ q=>get?_push_of_some _ q) (Nat.le_refl _) ⟨hz,its,0,hv,get?_push_size _ rfl⟩
theorem Inv.fresh(I:Inv X pins σ H s):H s.heap.objs.size=none:=I.hok.fresh (Nat.le_refl _)
theorem Inv.lstM(I:Inv X pins σ H s)(hH:H l=some (.lst xs)):xs.length<=sizeLine/\∃(its:List Value) (n:Nat),F1 xs its/\xs.length=its.length/\s.heap.get? l=some { cls:=.type "list",data:=.seq its.toArray n }:=by
 obtain⟨z,its,n,r,e⟩:=I.hok l _ hH;exact⟨z,its,n,r,r.length,e⟩
end
section
variable {X:Cx}
def v8:V->List V->Hp->VK->Prop:=λx vs H Q=>∃l xs y,x=.ref l/\vs=[y]/\H l=some (.lst xs)/\xs.length<sizeLine/\Q .non (upd H l (.lst (xs++[y])))
theorem jZ:MtM X "list.append" v8:=by
 intro pins s σ H x vs v us Q I rx rv h;obtain⟨l,xs,y,rfl,rfl,hH,hz,q⟩:=h;cases rx;obtain⟨u,rfl,ru⟩:=rv.one;obtain⟨z,its,n,r,hl,e⟩:=I.lstM hH;refine call_meets F.slot_list_append ⟨_,e,rfl⟩ F.entry_list_append (F.args_list_append_2 _ _) (PySem.list_append l its.toArray n u (by rw[size_toArray];omega)) ⟨e,?_⟩
 refine⟨.non,_,I.lset (its':=its++[u]) hH e (by simp) (r.append (.cons ru .nil)) ?_,rfl,q⟩
 rw[length_append,length_singleton];omega
def rExtend:V->List V->Hp->VK->Prop:=λx vs H Q=>∃l b xs zs,x=.ref l/\vs=[.ref b]/\H l=some (.lst xs)/\H b=some (.lst zs)/\xs.length+zs.length<=sizeLine/\Q .non (upd H l (.lst (xs++zs)))
def rPop:V->List V->Hp->VK->Prop:=λx vs H Q=>∃l xs y,x=.ref l/\vs=[]/\H l=some (.lst xs)/\xs[xs.length-1]? = some y/\Q y (upd H l (.lst xs.dropLast))
theorem Ev:MtM X "list.pop" rPop:=by
 intro pins s σ H x vs v us Q I rx rv h;obtain⟨l,xs,y,rfl,rfl,hH,hy,q⟩:=h;cases rx;have hus:=rv.zero;subst hus;obtain⟨z,its,n,r,hl,e⟩:=I.lstM hH;obtain⟨u,hu,ru⟩:=r.get hy;have hy':its.toArray[its.toArray.size-1]? = some u:=by
  show its.toArray[its.length-1]? = some u;rw[<- Array.getElem?_toList,<- hl];exact hu
 refine call_meets F.slot_list_pop ⟨_,e,rfl⟩ F.entry_list_pop (F.args_list_pop_1 _) (MeetsSeq.list_pop_last l its.toArray n u hy' (by rw[size_toArray];omega)) ⟨e,?_⟩
 refine⟨y,_,I.lset (its':=its.dropLast) hH e ?_ r.dropLast ?_,ru,q⟩
 ·show its.toArray.eraseIdxIfInBounds (its.toArray.size-1)=its.dropLast.toArray;rw[size_toArray,List.eraseIdxIfInBounds_toArray,tS]
 ·rw[length_dropLast];omega
def Cd:R2:=λx y H Q=>∃l b xs zs,x=.ref l/\y=.ref b/\H l=some (.lst xs)/\H b=some (.lst zs)/\xs.length+zs.length<=sizeLine/\∀p,H p=none->Q (.ref p) (upd H p (.lst (xs++zs)))
theorem bj:OpR X (binaryOp .Add) Cd:=by
 intro pins s σ H x y v u Q I rx ry h;obtain⟨l,b,xs,zs,rfl,rfl,hH,hB,hz,q⟩:=h;cases rx;cases ry;obtain⟨z,its,n,r,hl,e⟩:=I.lstM hH;obtain⟨z2,its2,n2,r2,hl2,e2⟩:=I.lstM hB;refine PySem.P.add_list e e2 ?_ (by rw[size_toArray,size_toArray];omega)
 have ea:its.toArray++its2.toArray=(its++its2).toArray:=by simp
 rw[ea];exact⟨.ref _,_,I.lnew (t':=s.toks) (r.append r2) (by rw[length_append];omega),rfl,q _ I.fresh⟩
end
end L2
namespace Att
open PySem PySem.W PySem.Calls PyProof.Rows
theorem kQ{P:Params}{h:Heap}:∀(ns:List Int) (vs:List Value),WellAll P h vs (ns.map WData.int)->IntsAre vs ns:=by
 intro ns
 induction ns with
 |nil=>
  intro vs w;rw[map_nil] at w;cases w;exact .nil
 |cons n ns ih=>
  intro vs w;rw[map_cons] at w;cases w with
  |cons a b=>
   cases a;exact .cons _ _ (ih _ b)
theorem xM{l:OpenLaw}{n:Nat}(hn:l.most=some n){P:Params}{h:Heap}{args:List WData}{vals:List Value}
  (hpre:l.row.toRowW.claim.pre args=true) (hwl:WellAll P h vals args) :
  ∃a vs ns,vals=[Value.ref a]/\args=[WData.list (ns.map WData.int)]/\h.get? a=some { cls:=.type "list",data:=.seq vs.toArray }/\IntsAre vs ns/\ns.length<=n:=by
 have hsh:WShape.hasAll [] args [.list .int]=true:=(pre_splitW hpre).1;have hc:l.pre.holds [] { args:=args }=true:=(pre_splitW hpre).2;obtain⟨d,r,rfl,h1,h2⟩:=hasAllW_cons hsh;obtain rfl:=hasAllW_nil h2;obtain⟨xs,rfl,h3⟩:=hasW_list h1;obtain⟨ns,rfl⟩:=items_int h3;have hlen:ns.length<=n:=by
  unfold OpenLaw.pre at hc;have h4:(WTm.not (.lt (.lit (.int (n:Int))) (.len (.arg 0)))).holds [] { args:=[.list (ns.map .int)] }=true:=by
   have h4:=(holds_andW hc).1;rw[hn] at h4;exact h4
  have h5:=condW_of h4 (w_not (w_lt w_lit (w_len_list (w_arg rfl))));rw[length_map] at h5;refine Nat.le_of_not_lt λq=>?_
  have q':(n:Int)<((ns.length:Nat):Int):=by omega
  first
   |(rw[decide_eq_true q'] at h5;exact absurd h5 (by decide))
   |(simp at h5;omega)
 cases hwl with
 |cons w1 w2=>
  cases w2;cases w1 with
  |list ho hall=>exact⟨_,_,ns,rfl,rfl,ho,kQ ns _ hall,hlen⟩
theorem wD(l:OpenLaw)(args:List WData):l.row.toRowW.claim.post args (.bool true) args=true:=
 postW_of (r:=l.row.toRowW) (X:=(true==true))
  (show WShape.has [] (.bool true) .bool=true by first|rfl|decide|simp[WShape.has,WShape.arms,WShape.armsAll])
  (show(WTm.eq .res (.lit (.bool true))).value [] { args:=args,res:=some (.bool true),after:=args }=some (.bool (true==true)) from w_eq_bool (w_res rfl) w_lit) rfl
theorem attach_call{l:OpenLaw}{n:Nat}{q:Program}{loose:List Str}{XP:(Str->Option Value)->Heap->Prop}{YP:World->Heap->Prop}{d:DefRec}
  (hn:l.most=some n) (hdf:d.params.defaults=[])
  (call:∀(w:World) (s₀ s₁:Shared) (mg mb:Str->Option Value) (fa:Addr) (o:Obj) (pm cd doc:Value) (a:Addr) (vs:List Value) (ns:List Int),
   Ground q loose [] XP w s₀ mg mb s₁.heap->YP w s₁.heap->
   s₁.heap.get? fa=some o->o.data=.func (docDef d.name d.params d.body d.scope pm cd doc)->s₁.heap.CodeRec cd d.name->mg d.name=some (.ref fa)->
   s₁.heap.get? a=some { cls:=.type "list",data:=.seq vs.toArray }->IntsAre vs ns->ns.length<=n->s₁.gens = #[]->
   codeAny (model l.prog w) callerA (.call (.ref fa) ⟨[.ref a],[]⟩) (λr s'=>r=.ok (.ret (.bool true))/\OldK s₁.heap s'.heap/\s'.os=s₁.os/\AllBare s'.gens) s₁) :
  WalkO q loose XP YP l.row.toRowW d [] (λf vs=>PySem.call f vs):=by
 intro w s₀ s₁ mg mb G Y fa o pm cd doc dV kV ho hd hcd hD hmg hg args vals as hpre hlay hrd hwl hlo;obtain rfl:dV=.none:=Dflts.none hD hdf;obtain rfl:kV=.none:=Dflts.noKw hD;obtain⟨a,vs,ns,rfl,rfl,hobj,hints,hlen⟩:=xM hn hpre hwl;refine enter_call (codeAny_mono (call w s₀ s₁ mg mb fa o pm cd doc a vs ns G Y ho (fd_plain hd) hcd hmg hobj hints hlen hg) λr s' hq=>?_)
 obtain⟨rfl,h2,h3,h4⟩:=hq;exact⟨.inl ⟨.bool true,.bool true,[],rfl,λ_=>rfl,.bool true,wD l _,λ_=>⟨List.Pairwise.nil,λ_ hm=>(nomatch hm)⟩⟩,h2,h3,h4⟩
section
variable {prog:Program} {w:World} {A:Around} {E:Value->Shared->Prop} {s:Shared} {K:Frag}
end
end Att
namespace L2
open PySem PySem.Spec PyProof.Rows
theorem pB:∀{vs:List Value} {ns:List Int},IntsAre vs ns->F1 (ns.map V.int) vs
 |_,_,.nil=>.nil
 |_,_,.cons n t h=>.cons ⟨t,rfl⟩ (pB h)
def EO(H:Hp):Prop:=∀b,H b=none\/∃o xs,H b=some (.frz o (.lst xs))
theorem AT{P:Program}{w:World}{K:Frag}{mg mb:Str->Option Value}{CX:CXT}{k:Nat}{fa a:Addr}{fd:FuncData}{x:Str}{sp:Sp}{s₁:Shared}{vs:List Value}{ns:List Int}
  (KX:K.In s₁.heap) (hns:s₁.heap.Ns mainGlobals mg) (hb:s₁.heap.Ns builtinsNs mb) (hbb:∀x:Str,x≠"__name__"->mb x=bootBuiltins x) (hlim:s₁.heap.NoLimit) (hg:s₁.gens = #[])
  (ha:s₁.heap.get? a=some { cls:=.type "list",data:=.seq vs.toArray }) (hi:IntsAre vs ns) (hl:ns.length<=sizeLine) (hr:F5 k callerA)
  (F:∀base:Heap,K.In base->base.Ns mainGlobals mg->F2 P w K mg base CX k fa fd [x] sp) (hbind:∀(s:Shared) (u:Value),BindsTo s fd ⟨[u],[]⟩ [(x,u)])
  (hsp:∀H:Hp,EO H->SqL K H a (ns.map V.int)->sp [.ref a] H (λv _=>v=.bl true) λ_ _ _=>False)
  (hCX:∀H e s',CX [] H s₁ (λ_ _ _=>False) e s'->False) :
  codeAny (model P w) callerA (.call (.ref fa) ⟨[.ref a],[]⟩) (λr s'=>r=.ok (.ret (.bool true))/\OldK s₁.heap s'.heap/\s'.os=s₁.os/\AllBare s'.gens) s₁:=by
 have rv:=pB hi;have lenV:=hi.length;have core:∀H:Hp,EO H->SqL K H a (ns.map V.int)->HOk P w H s₁.heap->(∀b,H b≠none->b=a)->(H a≠none->K.lookup a=none)->
   codeAny (model P w) callerA (.call (.ref fa) ⟨[.ref a],[]⟩) (λr s'=>r=.ok (.ret (.bool true))/\OldK s₁.heap s'.heap/\s'.os=s₁.os/\AllBare s'.gens) s₁:=by
  intro H hO hS hok hA hK;have base_of:∀{b:Addr} {o:Obj},s₁.heap.get? b=some o->H b=none->(p6 s₁.heap H).get? b=some o:=λe n=>AS e n
  have noA:∀{b:Addr} {o:Obj} {es:Array DictEntry} {ep:Nat},s₁.heap.get? b=some o->o.data=.dict es ep->H b=none:=λ{b o es ep} e d=>by
   cases q:H b with
   |none=>rfl
   |some u=>
    have e':b=a:=hA b (by rw[q];simp)
    subst e';rw[ha] at e;cases e;have d':Data.seq vs.toArray _=Data.dict es ep:=d;cases d'
  have nsK:∀{b:Addr} {m:Str->Option Value},s₁.heap.Ns b m->(p6 s₁.heap H).Ns b m:=λ{b m} ⟨o,es,ep,e,d,r⟩=>⟨o,es,ep,base_of e (noA e d),d,r⟩
  have hKb:K.In (p6 s₁.heap H):=λb o e=>base_of (KX b o e) (by
   cases q:H b with
   |none=>rfl
   |some u=>
    have e':b=a:=hA b (by rw[q];simp)
    subst e';rw[hK (by rw[q];simp)] at e;cases e)
  have hM:Mod K mg (p6 s₁.heap H):=⟨hKb,nsK hns,⟨mb,nsK hb,hbb⟩,let ⟨mc,h1,h2⟩:=hlim;⟨mc,nsK h1,h2⟩⟩
  have e0:Env0 P w K mg (p6 s₁.heap H) callerA [] s₁ H:=⟨rfl,hM,λb o e=>BD e,Nat.le_of_eq (xF _ _),trivial,λb hb=>absurd (show b∈([]:List Addr) from hb) (by simp),hok,.of_eq hg⟩
  refine codeAny_mono ((F _ hKb (nsK hns)).run callerA [] s₁ H ⟨[.ref a],[]⟩ [.ref a] [.ref a] _ _ hr e0 (hbind s₁ (.ref a)) (.cons rfl .nil) (hsp H hO hS)) λr s' h=>?_
  cases r with
  |error e=>exact(hCX H e s' h).elim
  |ok fl=>
   cases fl with
   |next=>exact False.elim h
   |brk=>exact False.elim h
   |cont=>exact False.elim h
   |ret u=>
    obtain⟨v,H',os,bare,un,hok',r',q⟩:=h;have q':v=.bl true:=q;subst q';obtain rfl:u=Value.bool true:=r';refine⟨rfl,OldK.of_keep λb o e=>?_,os,bare⟩
    cases q:H b with
    |none=>exact un.keep b o e q (by intro z;exact absurd (show b∈([]:List Addr) from z) (by simp)) (by simp)
    |some u=>
     rcases hO b with z|⟨ob,xs,z⟩
     ·rw[q] at z;cases z
     ·have z2:=un.frzs b ob _ z;obtain⟨e1,_⟩:=hok b _ z;obtain⟨e2,_⟩:=hok' b _ z2;rw[e] at e1;cases e1;exact e2
 cases hk:K.lookup a with
 |some o=>
  have e:=KX a o hk;rw[ha] at e;cases e;refine core (λ_=>none) (λ_=>.inl rfl) (.inr ⟨_,vs.toArray,_,hk,rfl,rfl,rfl,by rw[size_toArray,lenV];exact hl,by simpa using rv⟩) (λb u z=>by have z':(none:Option HO)=some u:=z;cases z') (λb z=>absurd rfl z) λz=>absurd rfl z
 |none=>
  refine core (λb=>if b=a then some (.frz { cls:=.type "list",data:=.seq vs.toArray } (.lst (ns.map V.int))) else none) (λb=>?_) (.inl (.inr ⟨{ cls:=.type "list",data:=.seq vs.toArray },if_pos rfl⟩)) (λb u z=>?_) (λb z=>?_) λ_=>hk
  ·by_cases hb:b=a
   ·exact .inr ⟨_,_,if_pos hb⟩
   ·exact .inl (if_neg hb)
  ·by_cases hb:b=a
   ·have z':=(if_pos hb).symm.trans z;cases z';subst hb;exact⟨ha,by rw[length_map];exact hl,vs,_,rv,ha⟩
   ·have z':=(if_neg hb).symm.trans z;cases z'
  ·by_cases hb:b=a
   ·exact hb
   ·exact absurd (if_neg hb) z
theorem walk_of{l:PySem.W.OpenLaw}{n k:Nat}{q:Program}{loose:List Str}{XP:(Str->Option Value)->Heap->Prop}{YP:World->Heap->Prop}{d:DefRec}{K:Params->Frag}{CX:World->CXT}{sp:World->Sp}{x:Str}
  (hn:l.most=some n) (hn2:n<=sizeLine) (hdf:d.params.defaults=[]) (hr:F5 k callerA)
  (hY:∀(w:World) (h:Heap),YP w h->(K w.params).In h)
  (F:∀(w:World) (mg:Str->Option Value) (fa:Addr) (h:Heap),(K w.params).In h->h.Ns mainGlobals mg->mg d.name=some (.ref fa)->
   ∃fd:FuncData,(∀(s:Shared) (u:Value),BindsTo s fd ⟨[u],[]⟩ [(x,u)])/\
    ∀base:Heap,(K w.params).In base->base.Ns mainGlobals mg->F2 l.prog w (K w.params) mg base (CX w) k fa fd [x] (sp w))
  (hsp:∀(w:World) (H:Hp) (a:Addr) (ns:List Int),ns.length<=n->EO H->SqL (K w.params) H a (ns.map V.int)->sp w [.ref a] H (λv _=>v=.bl true) λ_ _ _=>False)
  (hCX:∀(w:World) (H:Hp) (s:Shared) (e:Value) (s':Shared),CX w [] H s (λ_ _ _=>False) e s'->False) :
  PySem.W.WalkO q loose XP YP l.row.toRowW d [] (λf vs=>PySem.call f vs):=by
 refine Att.attach_call hn hdf λw s₀ s₁ mg mb fa o pm cd doc a vs ns G Y ho hd hcd hmg hobj hints hlen hg=>?_
 have KX:=hY w _ Y;obtain⟨fd,hb,hF⟩:=F w mg fa _ KX G.T.g hmg;exact AT KX G.T.g G.T.b G.T.builtins G.T.nolimit hg hobj hints (Nat.le_trans hlen hn2) hr hF hb (λH hO hS=>hsp w H a ns hlen hO hS) λH e s'=>hCX w H s₁ e s'
def inClass(s:Stmt)(j:Nat):Stmt:=match s with
 |.ClassDef _ _ _ body _ _ _ _ _ _ _=>body.getD j (.Pass ⟨0,0,0,0⟩)
 |_=>.Pass ⟨0,0,0,0⟩
def aY(s:Stmt):Arguments:=match s with
 |.FunctionDef _ a _ _ _ _ _ _ _ _=>a
 |_=>{ posonlyargs:=[],args:=[],vararg:=none,kwonlyargs:=[],kw_defaults:=[],kwarg:=none,defaults:=[] }
def aQ(s:Stmt):List Stmt:=match s with
 |.FunctionDef _ _ b _ _ _ _ _ _ _=>b
 |_=>[]
def ah(s:Stmt):Scope:=match s with
 |.FunctionDef _ _ _ _ _ _ sc _ _ _=>sc
 |_=>{ kind:=.function,names:=[],isGenerator:=false,isCoroutine:=false }
abbrev CX0:CXT:=λ_ _ _ _ _ _=>False
abbrev E0:XK:=λ_ _ _=>False
theorem sV{X:Cx}:dF CX0 X E0:=λ_ _ _ _ _ _ _ h=>h.elim
structure Fun (K:Frag) (x qual:Str) (st:Stmt) (f:Addr) (fd:FuncData):Prop where
 ex:∃(oc:Value) (od:Option Addr) (kV doc pm:Value) (an:Option Addr) (cdv ct:Value) (osl:Array (Option Value)),
  fd=fnOf x qual (aY st) (aQ st) (ah st) .none kV doc pm an cdv ct/\K.lookup f=some ⟨oc,od,.func fd,osl⟩/\codeIn K cdv qual=true
 kp:keepIn K (.ref f)=true
section
variable {P:Program} {w:World} {K:Frag} {mg:Str->Option Value} {base:Heap}
theorem Fun.ok{x qual:Str}{st:Stmt}{f:Addr}{fd:FuncData}{N ps:List Str}{k:Nat}{sp:Sp}(F:Fun K x qual st f fd)(S:FZ N ps (ah st))(len:∀vs H Q E,sp vs H Q E->vs.length=ps.length)
  (hbody:∀(cdv:Value) (A:Around) (outer:List Env) (s:Shared) (H:Hp) (vs:List V) (Q:VK) (E:XK),F5 k (A.deeper (envOfC qual (ah st) s.heap.objs.size f cdv))->sp vs H Q E->
   ∃t,PSs (dh CX0 P w K mg base N qual (ah st) f cdv A outer s H E).nox (aQ st) t/\t { nx:=λ_ H'=>Q .non H',rt:=Q } (eZ N vs) H):F2 P w K mg base CX0 (k+1) f fd ps sp:=by
 obtain⟨oc,od,kV,doc,pm,an,cdv,ct,osl,rfl,lk,hcd⟩:=F.ex;refine AM lk hcd S len λA outer s H vs Q E hr hsp=>?_
 obtain⟨t,h,q⟩:=hbody cdv A outer s H vs Q E hr hsp;exact⟨t,h.nox,q⟩
theorem Fun.binds{x qual:Str}{st:Stmt}{f:Addr}{fd:FuncData}{ps:List Str}(F:Fun K x qual st f fd)
  (h:∀(kV doc pm:Value) (an:Option Addr) (cdv ct:Value) (us:List Value),us.length=ps.length->bindArgs (fnOf x qual (aY st) (aQ st) (ah st) .none kV doc pm an cdv ct) ⟨us,[]⟩=pure (ps.zip us)):Gf K fd ps []:=by
 obtain⟨oc,od,kV,doc,pm,an,cdv,ct,osl,rfl,lk,hcd⟩:=F.ex;exact .all (h kV doc pm an cdv ct)
theorem eh{x qual:Str}{st:Stmt}{f:Addr}{oc:Value}{od an:Option Addr}{osl:Array (Option Value)}{kV doc pm cdv ct:Value}(l:K.lookup f=some ⟨oc,od,.func (fnOf x qual (aY st) (aQ st) (ah st) .none kV doc pm an cdv ct),osl⟩)
  (c:codeIn K cdv qual=true) (k:keepIn K (.ref f)=true):Fun K x qual st f (fnOf x qual (aY st) (aQ st) (ah st) .none kV doc pm an cdv ct):=⟨⟨oc,od,kV,doc,pm,an,cdv,ct,osl,rfl,l,c⟩,k⟩
end
theorem o8{n:Nat}(h:n<=1000):n<sizeLine:=Nat.lt_of_le_of_lt h (by decide)
section
variable {X:Cx}
theorem pv(i:Nat){x:Str}{pos:Pos}(hN:X.N[i]? = some x:=by rfl)(hv:Vis X.env.scope x:=by first|exact Or.inl rfl|exact Or.inr (Or.inl rfl)|exact Or.inr (Or.inr rfl))(hd:(x==("__debug__" : Str))=false:=by decide)
  (hcd:(x==("__classdict__" : Str))=false:=by decide):PE X (.Name x pos) (uE i):=Ey hN hv hd hcd
end
theorem bS{A B:Prop}(h:B):if false=true then A else B:=by
 rw[if_neg Bool.false_ne_true];exact h
theorem bC{A B:Prop}(h:A):if true=true then A else B:=by
 rw[if_pos rfl];exact h
theorem bt{c A B:Prop}[Decidable c](h1:c->A)(h2:¬c->B):if c then A else B:=by
 by_cases h:c
 ·rw[if_pos h];exact h1 h
 ·rw[if_neg h];exact h2 h
theorem vp{c A B:Prop}[Decidable c](hc:c)(h:B):if (!decide c)=true then A else B:=by
 rw[decide_eq_true hc];exact bS h
def FX(H H':Hp):Prop:=∀b o,H b=some o->H' b=some o
theorem FX.refl(H:Hp):FX H H:=λ_ _ h=>h
theorem FX.trans{H H1 H2:Hp}(a:FX H H1)(b:FX H1 H2):FX H H2:=λc o h=>b c o (a c o h)
theorem FX.free{H H':Hp}(e:FX H H'){l:Addr}(h:H' l=Option.none):H l=Option.none:=by
 cases q:H l with
 |none=>rfl
 |some o=>
  rw[e l o q] at h;cases h
theorem FX.seq{K:Frag}{H H':Hp}{a:Addr}{xs:List V}(e:FX H H')(h:SqL K H a xs):SqL K H' a xs:=by
 rcases h with(h|⟨o,h⟩)|h
 ·exact .inl (.inl (e _ _ h))
 ·exact .inl (.inr ⟨o,e _ _ h⟩)
 ·exact .inr h
section
variable {prog:Program} {w:World} {A:Around} {R:Result->Shared->Prop} {s:Shared}
theorem qI{elt target iter:Expr}{ifs:List Expr}{scope:Scope}{pos:Pos}{it acc:Value}{env:Env}(I:Nat->Shared->Prop)
  (turn:∀n s,I n s->wpAny (model prog w) A (pyNext it) (λr s₁=>match r with
   |none=>R (.ok .next) s₁
   |some v=>wpAny (model prog w) A (letOwnedTupleGo target it v) (λ_ s₁'=>wpAny (model prog w) A (assign target env v) (λ_ s₂=>
     wpAny (model prog w) A (forIn ifs true λc r=>if r=true then do let ok <- isTrue c env (eval c env);pure (ForInStep.yield ok) else pure (ForInStep.yield r)) (λok s₃=>
      if ok=true then wpAny (model prog w) A (eval elt env) (λx s₄=>
       wpAny (model prog w) A (call (.builtin "list.append") [acc,x]) (λ_ s₅=>∃m,m<n/\I m s₅) (λ_ _=>False) s₄) (λ_ _=>False) s₃
      else ∃m,m<n/\I m s₃) (λ_ _=>False) s₂) (λ_ _=>False) s₁') (λ_ _=>False) s₁) (λ_ _=>False) s)
  (n:Nat) (h:I n s) :
  codeAny (model prog w) A (.compLoop (.ListComp elt [⟨target,iter,ifs,0⟩] scope pos) 0 it acc env) R s:=by
 refine codeAny_loop rfl I (λn s hI=>?_) n h
 show wpAny _ A ((compTurn (.ListComp elt [⟨target,iter,ifs,0⟩] scope pos) 0 it acc env).onRaise (λx=>do noteFrame x env;theTreesLotGoes x)) _ _ s
 refine wpAny_noted ?_;rw[compTurn_list];refine wpAny_bind (wpAny_standAt (wpAny_bind (wpAny_mono (turn n s hI) (λr s₁ h₁=>?_) λ_ _ h'=>h'.elim)))
 cases r with
 |none=>exact wpAny_pure h₁
 |some v=>
  refine wpAny_bind (wpAny_mono h₁ (λ_ s₁' h₁'=>?_) λ_ _ h'=>h'.elim)
  refine wpAny_bind (wpAny_mono h₁' (λ_ s₂ h₂=>wpAny_bind (wpAny_mono h₂ (λok s₃ h₃=>?_) λ_ _ h'=>h'.elim)) λ_ _ h'=>h'.elim)
  cases ok with
  |false=>exact wpAny_pure ⟨rfl,h₃⟩
  |true=>
   exact wpAny_bind (wpAny_bind (wpAny_mono h₃ (λx s₄ h₄=>wpAny_bind (wpAny_mono h₄ (λ_ s₅ h₅=>wpAny_pure (wpAny_pure ⟨rfl,h₅⟩)) λ_ _ h'=>h'.elim)) λ_ _ h'=>h'.elim))
end
def dc(env:Env):List (Str×NameKind)->List (Str×Addr)->List (Str×Addr)
 |[],cs=>cs
 |(n,k)::r,cs=>dc env r (if k == .free then(n,(env.cells.lookup n).getD 0)::cs else cs)
theorem mT{env:Env}:∀(l:List (Str×NameKind)) (cs:List (Str×Addr)),(∀x∈l,x.2=.free->∃c,env.cells.lookup x.1=some c)->
  (do let r <- forIn l cs (λ(x:Str×NameKind) (cs:List (Str×Addr))=>if (x.2 == .free)=true then do let a <- cellOf env x.1;pure (ForInStep.yield ((x.1,a)::cs)) else pure (ForInStep.yield cs));pure r:Sem (List (Str×Addr)))=pure (dc env l cs)
 |[],cs,_=>rfl
 |(n,k)::r,cs,h=>by
  have ih:=λcs'=>mT (env:=env) r cs' λx hx=>h x (mem_cons_of_mem _ hx)
  rw[forIn_cons];cases hk:(k==NameKind.free) with
  |false=>
   simp only[hk,Bool.false_eq_true,if_false];show(do let r <- forIn r cs _;pure r:Sem _)=_
   rw[ih];simp only[dc,hk,Bool.false_eq_true,if_false]
  |true=>
   obtain⟨c,hc⟩:=h (n,k) mem_cons_self (by simpa using hk)
   have hco:cellOf env n=pure c:=by unfold cellOf;simp only at hc;rw[hc]
   simp only[hk,if_true,hco];show(do let r <- forIn r ((n,c)::cs) _;pure r:Sem _)=_
   rw[ih];simp only at hc;simp only[dc,hk,if_true,hc,Option.getD_some]
theorem iP{env:Env}{scope:Scope}(h:∀x∈scope.names,x.2=.free->∃c,env.cells.lookup x.1=some c):closureFor scope env=pure (dc env scope.names []):=by
 have q:=mT scope.names [] h;unfold closureFor;exact congrArg (λ(m:Sem (List (Str×Addr)))=>m >>= pure) q
theorem Bl{env:Env}:∀(l:List (Str×NameKind)) (cs:List (Str×Addr)) (n:Str) (c:Addr),(∀x∈l,x.2=.free->∃c,env.cells.lookup x.1=some c)->
  (dc env l cs).lookup n=some c->env.cells.lookup n=some c\/cs.lookup n=some c
 |[],cs,n,c,_,h=>.inr h
 |(m,k)::r,cs,n,c,hf,h=>by
  have ih:=Bl r (if (k == .free)=true then(m,(env.cells.lookup m).getD 0)::cs else cs) n c (λx hx=>hf x (mem_cons_of_mem _ hx)) h
  cases hk:(k==NameKind.free) with
  |false=>
   simp only[hk,Bool.false_eq_true,if_false] at ih;exact ih
  |true=>
   simp only[hk,if_true] at ih
   rcases ih with ih|ih
   ·exact .inl ih
   ·cases hx:n==m with
    |true=>
     simp only[lookup_cons,hx] at ih;obtain⟨c',hc'⟩:=hf (m,k) mem_cons_self (by simpa using hk)
     simp only at hc';rw[hc'] at ih;have e:n=m:=by simpa using hx
     subst e;exact .inl (hc'.trans ih)
    |false=>
     simp only[lookup_cons,hx] at ih;exact .inr ih
theorem sH{env:Env}:∀(l:List (Str×NameKind)) (cs:List (Str×Addr)) (n:Str),(∃c,cs.lookup n=some c)->∃c,(dc env l cs).lookup n=some c
 |[],cs,n,h=>h
 |(m,k)::r,cs,n,⟨c,h⟩=>by
  refine sH r _ n ?_
  by_cases hk:(k==NameKind.free)=true
  ·rw[if_pos hk];cases hx:n==m with
   |true=>exact⟨(env.cells.lookup m).getD 0,by simp only[lookup_cons,hx]⟩
   |false=>exact⟨c,by simp only[lookup_cons,hx];exact h⟩
  ·rw[if_neg hk];exact⟨c,h⟩
theorem qV{env:Env}:∀(l:List (Str×NameKind)) (cs:List (Str×Addr)) (n:Str),(n,NameKind.free)∈l->∃c,(dc env l cs).lookup n=some c
 |[],_,_,h=>absurd h (by simp)
 |(m,k)::r,cs,n,h=>by
  rcases List.mem_cons.mp h with e|e
  ·cases e;refine sH r _ _ ?_;exact⟨_,by simp[lookup_cons];rfl⟩
  ·exact qV r _ n e
theorem fy{env:Env}:∀(names:List (Str×NameKind)) (x:Str),
  (names.map λ(n,k)=>if (k==NameKind.free&&env.scope.kind == .function&&env.kindOf n==some .cell) then(n,NameKind.cell) else(n,k)).lookup x
   = (names.lookup x).map λk=>if (k==NameKind.free&&env.scope.kind == .function&&env.kindOf x==some .cell)=true then NameKind.cell else k
 |[],x=>rfl
 |(n,k)::r,x=>by
  have ih:=fy (env:=env) r x;show List.lookup x ((if (k==NameKind.free&&env.scope.kind == .function&&env.kindOf n==some .cell)=true then(n,NameKind.cell) else(n,k))::_)=_
  cases hx:x==n with
  |true=>
   have e:x=n:=by simpa using hx
   subst e
   by_cases hc:(k==NameKind.free&&env.scope.kind == .function&&env.kindOf x==some .cell)=true
   ·rw[if_pos hc];simp only[lookup_cons,hx,Option.map_some];rw[if_pos hc]
   ·rw[if_neg hc];simp only[lookup_cons,hx,Option.map_some];rw[if_neg hc]
  |false=>
   by_cases hc:(k==NameKind.free&&env.scope.kind == .function&&env.kindOf n==some .cell)=true
   ·rw[if_pos hc];simp only[lookup_cons,hx];exact ih
   ·rw[if_neg hc];simp only[lookup_cons,hx];exact ih
def ma(outer scope:Scope):Bool:=
 scope.kind == .function&&outer.kind == .function&&scope.names.all λx=>x.2 != .cell&&(x.2 != .local || scope.names.lookup x.1==some .local)&&(x.2 != .free || (outer.names.lookup x.1==some .cell || outer.names.lookup x.1==some .free))
def kO(XN N:List Str)(src:List (Option Nat))(scope:Scope):Bool:=
 src.length==N.length&&(List.range N.length).all λi=>match src[i]?.join with
  |none=>true
  |some j=>N[i]? == XN[j]? && (N[i]?).any λx=>scope.names.lookup x==some .free
def dC(src:List (Option Nat))(σ:St):St:=src.map λo=>o.bind λj=>(σ[j]?).join
def cxC(X:Cx)(N:List Str)(scope:Scope)(s:Shared)(H:Hp)(ex:List Addr):Cx where
 prog:=X.prog
 w:=X.w
 K:=X.K
 mg:=X.mg
 base:=X.base
 A:=X.A
 N:=N
 s₀:=s
 H₀:=H
 env:=compEnvC scope (dc X.env scope.names []) s.heap.objs.size X.env
 outer:=X.stack
 stack:=X.stack
 ex:=ex
 fn:=λ_=>false
 calm:=X.calm
 pn:=[]
 xe:=λ_ _=>False
structure Gh (X:Cx) (scope:Scope):Prop where
 kind:scope.kind=.function
 nocell:∀x∈scope.names,x.2≠.cell
 names:∀x∈scope.names,x.2=.local->scope.names.lookup x.1=some .local
 free:∀x∈scope.names,x.2=.free->X.env.kindOf x.1=some .cell\/X.env.kindOf x.1=some .free
theorem jR{X:Cx}{scope:Scope}(h:ma X.env.scope scope=true):Gh X scope:=by
 unfold ma at h;simp only[Bool.and_eq_true,beq_iff_eq,all_eq_true,Bool.or_eq_true,bne_iff_ne] at h;obtain⟨⟨h1,_⟩,h2⟩:=h;refine⟨h1,λx hx=>(h2 x hx).1.1,λx hx e=>?_,λx hx e=>?_⟩
 ·rcases(h2 x hx).1.2 with z|z
  ·exact absurd e z
  ·exact z
 ·rcases(h2 x hx).2 with z|z
  ·exact absurd e z
  ·exact z
theorem Gh.cells{X:Cx}{scope:Scope}(f:Gh X scope)(ok:X.Ok):∀x∈scope.names,x.2=.free->∃c,X.env.cells.lookup x.1=some c:=λx hx e=>ok.has x.1 (f.free x hx e)
theorem Gh.cl{X:Cx}{scope:Scope}(f:Gh X scope)(ok:X.Ok){n:Str}{c:Addr}(h:(dc X.env scope.names []).lookup n=some c):X.env.cells.lookup n=some c:=by
 rcases Bl _ _ _ _ (f.cells ok) h with z|z
 ·exact z
 ·cases z
theorem Gh.kf{X:Cx}{scope:Scope}(f:Gh X scope){x:Str}(h:(relabel scope X.env).names.lookup x=some .cell\/(relabel scope X.env).names.lookup x=some .free):scope.names.lookup x=some .free:=by
 unfold relabel at h;simp only at h;rw[fy] at h;cases e:scope.names.lookup x with
 |none=>rw[e] at h;rcases h with z|z<;>cases z
 |some k=>
  rw[e] at h;simp only[Option.map_some,Option.some.injEq] at h;cases k with
  |free=>rfl
  |cell=>exact absurd rfl (f.nocell _ (PySem.mem_of_lookup e))
  |_=>simp at h
theorem Gh.fk{X:Cx}{scope:Scope}{x:Str}(h:scope.names.lookup x=some .free):(relabel scope X.env).names.lookup x=some .cell\/(relabel scope X.env).names.lookup x=some .free:=by
 unfold relabel;simp only;rw[fy,h];simp only[Option.map_some,Option.some.injEq]
 split
 ·exact .inl rfl
 ·exact .inr rfl
theorem AG{XN N:List Str}{src:List (Option Nat)}{scope:Scope}(h:kO XN N src scope=true):src.length=N.length/\∀(i:Nat) (x:Str) (j:Nat),N[i]? = some x->src[i]? = some (some j)->XN[j]? = some x/\scope.names.lookup x=some .free:=by
 unfold kO at h;simp only[Bool.and_eq_true,beq_iff_eq,all_eq_true] at h;refine⟨h.1,λi x j h1 h2=>?_⟩
 have hi:i<N.length:=(List.getElem?_eq_some_iff.mp h1).1;have q:=h.2 i (List.mem_range.mpr hi);rw[h2,h1] at q;simp only[Option.join_some,Bool.and_eq_true,beq_iff_eq,Option.any_some] at q;exact⟨q.1.symm,q.2⟩
section
variable {X:Cx} {pins:List (Addr×Obj)} {σ:St} {H:Hp} {s:Shared}
theorem mq{N:List Str}{src:List (Option Nat)}{scope:Scope}{ex:List Addr}{h1:Heap}{m:Str->Option Value}{tk:Nat}(I:Inv X pins σ H s)(f:Gh X scope)(hsrc:kO X.N N src scope=true)
  (hex:∀b∈ex,b<s.heap.objs.size/\b≠X.env.locals/\b∉X.fs/\(∀x c,X.env.cells.lookup x=some c->c≠b)/\∀o,X.base.get? b≠some o)
  (hn:h1.Ns s.heap.objs.size m) (hk:∀b o,s.heap.get? b=some o->h1.get? b=some o) :
  Inv (cxC X N scope s H ex) [] (dC src σ) H { s with heap:=h1,toks:=tk }:=by
 obtain⟨hlen,hix⟩:=AG hsrc;have ok:=I.ok;have cellL:∀x c,(dc X.env scope.names []).lookup x=some c->∃v,s.heap.IsCell c v:=λx c e=>I.cell x c (f.cl ok e)
 have cellLt:∀x c,(dc X.env scope.names []).lookup x=some c->c<s.heap.objs.size:=λx c e=>by
  obtain⟨v,o,ho,_⟩:=cellL x c e;exact lt_size ho
 have fsL:∀b∈frs X.stack,b∈X.env.locals::X.fs:=I.stkSub
 refine⟨⟨ok.mod,f.kind,ok.glob,ok.blt,Nat.le_refl _,λx y c h1 h2=>ok.inj x y c (f.cl ok h1) (f.cl ok h2),λx hx=>?_,λx c hx=>?_,ok.hd,ok.frames,.inl rfl,λb hb=>⟨Nat.ne_of_lt (hex b hb).1,λx c e=>(hex b hb).2.2.2.1 x c (f.cl ok e)⟩,I.bs,Nat.le_trans ok.bsz I.sz,λb o e hb=>(hex b hb).2.2.2.2 o e,λb hb hb'=>?_,I.stack,I.stkFree⟩,
  rfl,I.bare,Un.kept hk,⟨m,hn,λi x v e1 e2 e3=>?_⟩,λx c e=>?_,I.hok.fresh (Nat.le_refl _),λx c e=>I.freeC x c (f.cl ok e),λp hp=>absurd (show p∈([]:List (Addr×Obj)) from hp) (by simp),I.hok.kept hk,?_⟩
 ·exact qV _ _ _ (PySem.mem_of_lookup (f.kf hx))
 ·cases hx
 ·rcases List.mem_cons.mp (fsL b hb') with z|z
  ·exact(hex b hb).2.1 z
  ·exact(hex b hb).2.2.1 z
 ·have e2':(dC src σ)[i]? = some (some v):=e2;unfold dC at e2';rw[getElem?_map] at e2';cases hs:src[i]? with
  |none=>rw[hs] at e2';cases e2'
  |some o=>
   rw[hs] at e2';cases o with
   |none=>cases e2'
   |some j=>
    obtain⟨q1,q2⟩:=hix i x j e1 hs;have e4:σ[j]? = some (some v):=by
     simp only[Option.map_some,Option.bind_some,Option.some.injEq] at e2';cases z:σ[j]? with
     |none=>rw[z] at e2';cases e2'
     |some o=>rw[z] at e2';simp only[Option.join_some] at e2';rw[e2']
    have kx:=f.free (x,.free) (PySem.mem_of_lookup q2) rfl;obtain⟨mX,hnX,hl⟩:=I.loc;obtain⟨u,r,l⟩:=hl j x v q1 e4 (by rcases kx with z|z;exact .inr (.inl z);exact .inr (.inr z))
    refine⟨u,r,.inr ⟨Gh.fk (X:=X) q2,?_⟩⟩
    rcases l with⟨l,_⟩|⟨_,c,ec,ic⟩
    ·rcases kx with z|z
     ·rw[z] at l;cases l
     ·rw[z] at l;cases l
    ·obtain⟨c',hc'⟩:=qV (env:=X.env) scope.names [] x (PySem.mem_of_lookup q2);have z:=f.cl ok hc';rw[ec] at z;cases z;obtain⟨oc,ho,hd⟩:=ic;exact⟨c,hc',oc,hk c oc ho,hd⟩
 ·obtain⟨v,o,ho,hd⟩:=cellL x c e;exact⟨v,o,hk c o ho,hd⟩
 ·show(dC src σ).length=N.length;unfold dC;rw[length_map];exact hlen
def PIf(X:Cx)(ifs:List Expr)(t:TT):Prop:=
 ∀(pins:List (Addr×Obj)) (s:Shared) (σ:St) (H:Hp) (Q:Bool->Hp->Prop),Inv X pins σ H s->t σ H Q->
  wpAny (model X.prog X.w) X.A (forIn ifs true λc r=>if r=true then do let ok <- isTrue c X.env (eval c X.env);pure (ForInStep.yield ok) else pure (ForInStep.yield r)) (TP X pins σ Q) X.xe s
def oh:TT:=λ_ H Q=>Q true H
theorem bi:PIf X [] oh:=λpins s σ H Q I h=>wpAny_pure ⟨H,I,h⟩
theorem qL{c:Expr}{t:TT}(hc:PT X c t):PIf X [c] t:=by
 intro pins s σ H Q I h;rw[forIn_cons];simp only[if_true];refine wpAny_bind (wpAny_bind (thn (hc pins s σ H Q I h) λb s1 q=>wpAny_pure ?_))
 exact wpAny_pure q
def da(J:It)(src:List (Option Nat))(g:TG)(tt:TT)(te:TE)(σ:St)(H1:Hp)(Q:VK):Prop:=∀acc,H1 acc=none->
 ∃W:Nat->Nat->St->Hp->Prop,(∃m,W 0 m (dC src σ) (upd H1 acc (.lst [])))/\∀i m σ H,W i m σ H->
  (J.stop i H/\Q (.ref acc) H)\/(J.go i H/\∃N:St->Hp->Prop,(∀σ' H',N σ' H'->∃m',m'<m/\W (i+1) m' σ' H')/\∀x H',J.yld i H x H'->g x σ H' λσ2 H2=>tt σ2 H2 λb H3=>
   if b=true then te σ2 H3 λy H4=>∃ys,H4 acc=some (.lst ys)/\ys.length<sizeLine/\N σ2 (upd H4 acc (.lst (ys++[y]))) else N σ2 H3)
def zr(src:List (Option Nat))(wi:TI)(g:TG)(tt:TT)(te:TE):TE:=λσ H Q=>wi σ H λJ H1=>da J src g tt te σ H1 Q
theorem rH{elt tg iter:Expr}{ifs:List Expr}{scope:Scope}{pos:Pos}{N:List Str}{src:List (Option Nat)}{g:TG}{tt:TT}{te:TE}(use:Option (Value->Sem Unit))(PQ:Value->Shared->Prop)(E:Value->Shared->Prop)
  (hcalm:X.calm=true) (f:Gh X scope) (hsrc:kO X.N N src scope=true)
  (hb:∀(s:Shared) (H:Hp) (ex:List Addr),PG (cxC X N scope s H ex) tg g/\PIf (cxC X N scope s H ex) ifs tt/\PE (cxC X N scope s H ex) elt te)
  {it:Addr} {fp:List Addr} {tn:Nat->Heap->Prop} {J:It} (I:Inv X pins σ H s) (T:qc X.prog X.w X.K tg J fp it tn) (st:tn 0 s.heap) (hf:∀b∈fp,gU X pins H b) {Q:VK}
  (h:da J src g tt te σ H Q)
  (hfin:∀(acc C:Addr) (s':Shared) (H':Hp) (m:Str->Option Value),s'.heap.Ns C m->gU X pins H' C->(∀h',Heap.SameBut C s'.heap h'->Inv X pins σ H' { s' with heap:=h' })->Q (.ref acc) H'->compPost (model X.prog X.w) X.A E use PQ (.ref acc) C (.ok .next) s') :
  wpAny (model X.prog X.w) X.A (newList []) (λacc s₃=>
   wpAny (model X.prog X.w) X.A (newFunctionEnv scope X.env.globals (dc X.env scope.names []) [] X.env.qual none .none (some X.env)) (λcenv s₄=>
    codeAny (model X.prog X.w) X.A (.compStart (.ListComp elt [⟨tg,iter,ifs,0⟩] scope pos) 0 (.ref it) acc { cenv with scope:=relabel scope X.env }) (compPost (model X.prog X.w) X.A E use PQ acc cenv.locals) s₄) E s₃) E s:=by
 have ok:=I.ok;have I3:Inv X pins σ (upd H s.heap.objs.size (.lst [])) { s with heap:=s.heap.push { cls:=.type "list",data:=.seq ([]:List Value).toArray },toks:=s.toks }:=I.lnew (ys:=[]) (its:=[]) .nil (Nat.zero_le _)
 obtain⟨W,⟨m0,w0⟩,turn⟩:=h s.heap.objs.size (I.hok.fresh (Nat.le_refl _));refine wpAny_newObj_type (wpAny_newFunctionEnv f.nocell (by intro y hy;simp at hy) (λh₁ hns₁ hsb₁=>?_) f.kind)
 dsimp only at hns₁ hsb₁ ⊢;generalize hs3:({ s with heap:=s.heap.push { cls:=.type "list",data:=.seq ([]:List Value).toArray },toks:=s.toks }:Shared)=s3 at I3
 have e3:s3.heap=s.heap.push { cls:=.type "list",data:=.seq ([]:List Value).toArray }:=by rw[<- hs3]
 have hk:∀b o,s3.heap.get? b=some o->h₁.get? b=some o:=λb o e=>by
  rw[e3] at e;exact hsb₁.extBut b o (Nat.ne_of_lt (lt_size e)) (get?_push_of_some _ e)
 have up3:∀b o,s.heap.get? b=some o->s3.heap.get? b=some o:=λb o e=>by rw[e3];exact get?_push_of_some _ e
 have nacc:∀b∈fp,b≠s.heap.objs.size:=λb hb z=>by
  obtain⟨o,e,_⟩:=T.obj 0 _ st b hb;exact absurd (lt_size e) (by rw[z];exact Nat.lt_irrefl _)
 have hex:∀b∈fp,b<s3.heap.objs.size/\b≠X.env.locals/\b∉X.fs/\(∀x c,X.env.cells.lookup x=some c->c≠b)/\∀o,X.base.get? b≠some o:=λb hb=>by
  obtain⟨o,e,_⟩:=T.obj 0 _ st b hb;obtain⟨f0,f1,f2,f3,f4,f5⟩:=hf b hb;refine⟨lt_size (up3 b o e),f1,f2,f4,λo' z=>?_⟩
  rcases f3 with q|q
  ·exact ok.noex b o' z q
  ·exact absurd (Nat.lt_of_lt_of_le (lt_size (ok.bs b o' z).1) q) (Nat.lt_irrefl _)
 have hns₁':h₁.Ns s3.heap.objs.size (λx=>([]:List (Str×Value)).reverse.lookup x):=by rw[e3];exact hns₁
 have IY0:Inv (cxC X N scope s3 (upd H s.heap.objs.size (.lst [])) fp) [] (dC src σ) (upd H s.heap.objs.size (.lst [])) { s3 with heap:=h₁,toks:=s.toks+([]:List (Str×Value)).length }:=
  mq (tk:=s.toks+([]:List (Str×Value)).length) I3 f hsrc hex hns₁' hk
 generalize hY:cxC X N scope s3 (upd H s.heap.objs.size (.lst [])) fp=Y at IY0;have hb':PG Y tg g/\PIf Y ifs tt/\PE Y elt te:=by rw[<- hY];exact hb s3 _ fp
 obtain⟨hg,ht,he⟩:=hb';have Yp:Y.prog=X.prog:=by rw[<- hY];rfl
 have Yw:Y.w=X.w:=by rw[<- hY];rfl
 have YK:Y.K=X.K:=by rw[<- hY];rfl
 have YA:Y.A=X.A:=by rw[<- hY];rfl
 have Yc:Y.calm=true:=by rw[<- hY];exact hcalm
 have Yx:Y.xe=λ_ _=>False:=by rw[<- hY];rfl
 have Ye:Y.env=compEnvC scope (dc X.env scope.names []) s3.heap.objs.size X.env:=by rw[<- hY];rfl
 have Ys:Y.s₀=s3:=by rw[<- hY];rfl
 have YH:Y.H₀=upd H s.heap.objs.size (.lst []):=by rw[<- hY];rfl
 have Yf:Y.fs=frs X.stack:=by rw[<- hY];rfl
 have Yex:Y.ex=fp:=by rw[<- hY];rfl
 have Ypn:Y.pn=[]:=by rw[<- hY];rfl
 have stat:∀{H':Hp},(∀b∈fp,H' b=none)->∀b∈fp,gU Y [] H' b:=λ{H'} hn b hb=>by
  obtain⟨x1,x2,x3,x4,x5⟩:=hex b hb;refine⟨hn b hb,?_,?_,.inl (by rw[Yex];exact hb),?_,λp hp=>?_⟩
  ·rw[Ye];exact Nat.ne_of_lt x1
  ·rw[Yf];intro z
   rcases List.mem_cons.mp (I.stkSub b z) with q|q
   ·exact x2 q
   ·exact x3 q
  ·rw[Ye];intro x c e;exact x4 x c (f.cl ok e)
  ·rw[Ypn] at hp;exact absurd hp (by simp)
 have loop:∀s4:Shared,s4=({ s3 with heap:=h₁,toks:=s.toks+([]:List (Str×Value)).length }:Shared)->
   codeAny (model X.prog X.w) X.A (.compLoop (.ListComp elt [⟨tg,iter,ifs,0⟩] scope pos) 0 (.ref it) (.ref s.heap.objs.size) (compEnvC scope (dc X.env scope.names []) s3.heap.objs.size X.env))
    (compPost (model X.prog X.w) X.A E use PQ (.ref s.heap.objs.size) s3.heap.objs.size) s4:=by
  rintro s4 rfl;refine qI (λn s'=>∃i σ' H',Inv Y [] σ' H' s'/\tn i s'.heap/\(∀b∈fp,H' b=none)/\W i n σ' H') ?_ m0
   ⟨0,dC src σ,_,IY0,T.keep 0 _ _ st λb hb o e=>hk b o (up3 b o e),λb hb=>by rw[ar (nacc b hb)];exact(hf b hb).1,w0⟩
  rintro n s5 ⟨i,σ5,H5,I5,st5,fr5,w5⟩
  rcases turn i n σ5 H5 w5 with⟨stop,qn⟩|⟨go,Nn,hNn,step⟩
  ·have q:=T.done Y Yp Yw YK Yc i [] s5 σ5 H5 (λ_ _=>False) I5 (stat fr5) st5 stop
   rw[YA] at q;refine thn q λr s6 ⟨hr,I6⟩=>?_
   subst hr;obtain⟨m6,hn6,_⟩:=id I6.loc;have eL:Y.env.locals=s3.heap.objs.size:=by rw[Ye];rfl
   rw[eL] at hn6;refine hfin s.heap.objs.size s3.heap.objs.size s6 H5 m6 hn6 (I3.fpOk (Nat.le_refl _) (by have z:=I6.free;rw[eL] at z;exact z)) (λh' sb=>?_) qn
   ·have b6:=I6.base;rw[Ys,YH,Yf,Yex] at b6;have ne:∀b o,s3.heap.get? b=some o->b≠s3.heap.objs.size:=λb o e=>Nat.ne_of_lt (lt_size e)
    have u6:Un (frs X.stack) fp (upd H s.heap.objs.size (.lst [])) H5 s3.heap h':=
     ⟨λb o e n hb hx=>(sb.2 b (ne b o e)).trans (b6.keep b o e n hb hx),λb o e n hb hx=>by
       obtain⟨sl,z⟩:=b6.slot b o e n hb hx;exact⟨sl,(sb.2 b (ne b o e)).trans z⟩,b6.free,λb o e hx=>by
       obtain⟨o',z⟩:=b6.there b o e hx;exact⟨o',(sb.2 b (ne b o e)).trans z⟩,b6.tups,b6.frzs,b6.tbls⟩
    have fL:H5 s3.heap.objs.size=none:=by
     have z:=I6.free;rw[eL] at z;exact z
    have hok6:HOk X.prog X.w H5 h':=by
     have z:=I6.hok;rw[Yp,Yw] at z;intro b ob e;refine(z b ob e).stay (λc w' hc q=>(sb.2 c ?_).trans q) (λ_ q=>q) λ_ _ q=>q
     rintro rfl
     rcases hc with rfl|hc
     ·rw[fL] at e;cases e
     ·rw[fL] at hc;cases hc
    have os6:s6.os=s3.os:=by
     have z:=I6.os;rw[Ys] at z;exact z
    refine Inv.call' (s':={ s6 with heap:=h' }) I3 os6 u6 hok6 I6.bare λb hb=>?_
    obtain⟨f0,f1,f2,f3,f4,f5⟩:=hf b hb;exact⟨f3,f1,f4,f5⟩
  ·have q:=T.item Y Yp Yw YK Yc i [] s5 σ5 H5 (λ_ _=>False) I5 (stat fr5) st5 go
   rw[YA] at q;refine thn q λr s6 ⟨u,hr,h6⟩=>?_
   subst hr;refine thn h6 λ_ s7 ⟨x,H7,I7,r7,y7,st7,fr7⟩=>?_
   have I7':=I7.pinned (stat fr7) (T.obj _ _ st7);have back:∀{σ9:St} {H9:Hp} {s9:Shared},Inv Y ([]++jX fp s7.heap) σ9 H9 s9->tn (i+1) s9.heap/\∀b∈fp,H9 b=none:=λ{σ9 H9 s9} I9=>
    ⟨T.keep _ _ _ st7 λb hb o e=>(I9.pin (b,o) (mem_append_right _ (mem_append_right _ (dX hb e)))).1,λb hb=>by
     obtain⟨o,e,d⟩:=T.obj _ _ st7 b hb;exact(I9.pin (b,o) (mem_append_right _ (mem_append_right _ (dX hb e)))).2.1⟩
   have g1:=hg _ s7 σ5 H7 x u _ I7' r7 (step x H7 y7);rw[YA,Yx,Yp,Yw,Ye] at g1;refine thn g1 λ_ s8 ⟨σ8,H8,I8,q8⟩=>?_
   have g2:=ht _ s8 σ8 H8 _ I8 q8;rw[YA,Yx,Yp,Yw,Ye] at g2;refine thn g2 λb s9 ⟨H9,I9,q9⟩=>?_
   cases b with
   |false=>
    simp only[Bool.false_eq_true,if_false] at q9 ⊢;obtain⟨m',hm,w9⟩:=hNn _ _ q9;exact⟨m',hm,i+1,σ8,H9,I9.unpinned,(back I9).1,(back I9).2,w9⟩
   |true=>
    simp only[if_true] at q9 ⊢;have g3:=he _ s9 σ8 H9 _ I9 q9;rw[YA,Yx,Yp,Yw,Ye] at g3;refine thn g3 λyv s10 ⟨y,H10,I10,r10,ys,hys,hz,n10⟩=>?_
    obtain⟨m',hm,w10⟩:=hNn _ _ n10;have g4:=jZ (X:=Y) _ s10 σ8 H10 (.ref s.heap.objs.size) [y] (.ref s.heap.objs.size) [yv] (λ_ H11=>H11=upd H10 s.heap.objs.size (.lst (ys++[y]))) I10 rfl (.cons r10 .nil) ⟨_,ys,y,rfl,rfl,hys,hz,rfl⟩
    rw[YA,Yx,Yp,Yw] at g4;refine thn g4 λ_ s11 ⟨_,H11,I11,_,e11⟩=>?_
    subst e11;exact⟨m',hm,i+1,σ8,_,I11.unpinned,(back I11).1,(back I11).2,w10⟩
 have q:=loop _ rfl;have eqs:({ s3 with heap:=h₁,toks:=s.toks+([]:List (Str×Value)).length }:Shared)={ s with heap:=h₁,toks:=s.toks+([]:List (Str×Value)).length }:=by rw[<- hs3]
 rw[eqs] at q;rw[e3] at q;have stn:tn 0 h₁:=T.keep 0 _ _ st λb hb o e=>hk b o (up3 b o e)
 exact codeAny_compStart_list q (T.self X.A 0 _ _ _ stn q)
theorem cD{elt tg iter:Expr}{ifs:List Expr}{scope:Scope}{pos:Pos}{N:List Str}{src:List (Option Nat)}{wi:TI}{g:TG}{tt:TT}{te:TE}
  (hcalm:X.calm=true) (hsc:ma X.env.scope scope=true) (hsrc:kO X.N N src scope=true) (hi:PI X tg iter wi)
  (hb:∀(s:Shared) (H:Hp) (ex:List Addr),PG (cxC X N scope s H ex) tg g/\PIf (cxC X N scope s H ex) ifs tt/\PE (cxC X N scope s H ex) elt te)
  (hs:∀x,foldedSetIterable iter X.env x=pure x:=by intro _;rfl) :
  PE X (.ListComp elt [⟨tg,iter,ifs,0⟩] scope pos) (zr src wi g tt te):=by
 intro pins s σ H Q I h;have f:=jR hsc;rw[eval_ListComp];refine wpAny_comprehension_free (use:=none) rfl hs (iP (f.cells I.ok)) f.kind f.names (thn (hi pins s σ H _ I h) λv s1 h1=>thn h1 λitv s2 h2=>?_)
 obtain⟨it,fp,tn,J,H2,rfl,I2,T,st2,f2,q2⟩:=h2;refine rH (N:=N) (src:=src) none (EP X pins σ Q) X.xe hcalm f hsrc hb I2 T st2 f2 q2 ?_;intro acc C s' H' m hn _ hI hq;exact⟨m,hn,λh' sb=>⟨.ref acc,H',hI h' sb,rfl,hq⟩⟩
theorem pZ{i:Nat}{y:Str}{py spos:Pos}{elt tg iter:Expr}{ifs:List Expr}{scope:Scope}{pos:Pos}{N:List Str}{src:List (Option Nat)}{wi:TI}{g:TG}{tt:TT}{te:TE}
  (hN:X.N.Nodup) (hix:X.N[i]? = some y) (hx:Loc X.env.scope y)
  (hcalm:X.calm=true) (hsc:ma X.env.scope scope=true) (hsrc:kO X.N N src scope=true) (hi:PI X tg iter wi)
  (hb:∀(s:Shared) (H:Hp) (ex:List Addr),PG (cxC X N scope s H ex) tg g/\PIf (cxC X N scope s H ex) ifs tt/\PE (cxC X N scope s H ex) elt te)
  (hs:∀x,foldedSetIterable iter X.env x=pure x:=by intro _;rfl)
  (hsw:swapsWith (.ListComp elt [⟨tg,iter,ifs,0⟩] scope pos) (some (.Name y py)) spos.line X.env=pure true:=by rfl)
  (hf:X.fn y=true\/X.env.scope.names.lookup y=some .local:=by first|exact .inl rfl|exact .inr rfl|assumption) :
  PS X (.Assign [.Name y py] (.ListComp elt [⟨tg,iter,ifs,0⟩] scope pos) spos) (uz (zr src wi g tt te) (di i)):=by
 intro pins s σ H D I h;have f:=jR hsc;rw[exec_Assign_Name_used _ _ _ _ hsw];refine wpAny_bind (wpAny_standAt (wpAny_bind ?_));show wpAny _ X.A (do let _ <- comprehension (.ListComp elt [⟨tg,iter,ifs,0⟩] scope pos) scope X.env _ (newList []) false (eval iter X.env) (some (assign (.Name y py) X.env))) _ _ s
 refine wpAny_bind (wpAny_mono (wpAny_comprehension_free (use:=some (assign (.Name y py) X.env)) (Q:=λ_ s'=>SP X pins D .next s') rfl hs (iP (f.cells I.ok)) f.kind f.names
  (thn (hi pins s σ H _ I h) λv s1 h1=>thn h1 λitv s2 h2=>?_)) (λ_ s' hq=>wpAny_pure (wpAny_pure hq)) λ_ _ e=>e)
 obtain⟨it,fp,tn,J,H2,rfl,I2,T,st2,f2,q2⟩:=h2;refine rH (N:=N) (src:=src) (some (assign (.Name y py) X.env)) (λ_ s'=>SP X pins D .next s') X.xe hcalm f hsrc hb I2 T st2 f2 (Q:=λx H1=>di i x σ H1 D.nx) q2 ?_
 intro acc C s' H' m hn fpC hI hq;obtain⟨c0,c1,c2,c3,c4,c5⟩:=fpC;have I':Inv X pins σ H' s':=hI s'.heap (Heap.SameBut.refl ..);show wpAny _ X.A (assign (.Name y py) X.env (.ref acc)) _ _ _;refine wpAny_assign_Name (j0 (v:=.ref acc) I' hN hix hx rfl (λs2 J2 ⟨a,sb,ha⟩=>?_) hf)
 have hCa:C≠a:=by
  rcases ha with rfl|ha
  ·exact c1
  ·exact λz=>c4 y a ha z.symm
 refine⟨m,hn.sameBut sb hCa,λh' sb'=>?_⟩
 exact⟨_,H',J2.turned (t':=s2.toks) (λb o hb e=>(sb'.2 b hb).trans e) c0 c1 c3 c4 c5,hq⟩
end
def SqI(t:Bool)(h:Heap)(it l:Addr)(i:Nat):Prop:=if t=true then h.IsTupleIter it l i else h.IsListIter it l i
def SqO(t:Bool)(h:Heap)(l:Addr)(xs:Array Value):Prop:=if t=true then h.IsTuple l xs else h.IsList l xs
def SqV(t:Bool)(K:Frag)(H:Hp)(a:Addr)(xs:List V):Prop:=if t=true then SqT K H a xs else SqL K H a xs
theorem SqI.at{t:Bool}{h h':Heap}{it l:Addr}{i:Nat}(x:SqI t h it l i)(k:∀o,h.get? it=some o->h'.get? it=some o):SqI t h' it l i:=by
 cases t
 ·exact Heap.IsListIter.at x k
 ·obtain⟨o,ho,r⟩:=(show h.IsTupleIter it l i from x)
  exact(show h'.IsTupleIter it l i from⟨o,k o ho,r⟩)
theorem SqI.obj{t:Bool}{h:Heap}{it l:Addr}{i:Nat}(x:SqI t h it l i):∃o,h.get? it=some o/\∀v,o.data≠.cell v:=by
 cases t
 ·obtain⟨o,ho,_,d⟩:=(show h.IsListIter it l i from x)
  exact⟨o,ho,λv z=>by rw[d] at z;cases z⟩
 ·obtain⟨o,ho,_,d⟩:=(show h.IsTupleIter it l i from x)
  exact⟨o,ho,λv z=>by rw[d] at z;cases z⟩
theorem SqO.at{t:Bool}{h h':Heap}{l:Addr}{xs:Array Value}(x:SqO t h l xs)(k:∀o,h.get? l=some o->h'.get? l=some o):SqO t h' l xs:=by
 cases t
 ·obtain⟨o,ho,r⟩:=(show h.IsList l xs from x)
  exact(show h'.IsList l xs from⟨o,k o ho,r⟩)
 ·obtain⟨o,ho,r⟩:=(show h.IsTuple l xs from x)
  exact(show h'.IsTuple l xs from⟨o,k o ho,r⟩)
theorem SqO.obj{t:Bool}{h:Heap}{l:Addr}{xs:Array Value}(x:SqO t h l xs):∃o,h.get? l=some o:=by
 cases t
 ·obtain⟨o,ho,r⟩:=(show h.IsList l xs from x)
  exact⟨o,ho⟩
 ·obtain⟨o,ho,r⟩:=(show h.IsTuple l xs from x)
  exact⟨o,ho⟩
theorem Inv.seqV{X:Cx}{pins:List (Addr×Obj)}{σ:St}{H:Hp}{s:Shared}{t:Bool}{a:Addr}{xs:List V}(I:Inv X pins σ H s)(h:SqV t X.K H a xs):∃its:List Value,F1 xs its/\SqO t s.heap a its.toArray/\xs.length<=sizeLine:=by
 cases t
 ·obtain⟨its,r,p,z⟩:=I.list (show SqL X.K H a xs from h)
  exact⟨its,r,p.isList,z⟩
 ·obtain⟨its,r,p,z⟩:=I.tuple (show SqT X.K H a xs from h)
  exact⟨its,r,p,z⟩
theorem Inv.seqV_inj{X:Cx}{pins:List (Addr×Obj)}{σ:St}{H:Hp}{s:Shared}{t:Bool}{a:Addr}{xs ys:List V}(I:Inv X pins σ H s)(h:SqV t X.K H a xs)(h':SqV t X.K H a ys):xs=ys:=by
 cases t
 ·exact I.list_inj h h'
 ·exact I.tuple_inj h h'
section
variable {prog:Program} {w:World} {A:Around} {E:Value->Shared->Prop} {s:Shared}
theorem fO{it l:Addr}{i:Nat}{items:Array Value}{x:Value}{Q:Value->Shared->Prop}(hit:s.heap.IsTupleIter it l i)
  (hl:s.heap.IsTuple l items) (hx:items[i]? = some x)
  (hQ:∀h',h'.IsTupleIter it l (i+1)->Heap.SameBut it s.heap h'->Q x { s with heap:=h' }) :
  wpAny (model prog w) A (Builtin.SmallTypes.nextOf (.ref it)) Q E s:=by
 obtain⟨o,ho,hc,hd⟩:=id hit;obtain⟨ol,hol,_,nl,hdl⟩:=hl;unfold Builtin.SmallTypes.nextOf;refine wpAny_bind (wpAny_callSpecial?_slot (name:=Str.ofString "__next__") hit.typeIs F.slot_tuple_iterator_next
  (wpAny_call_entry F.slot_tuple_iterator_next hit.typeIs F.entry_tuple_iterator_next ?_ (F.args_tuple_iterator_next_1 _)))
 show wpAny _ _ (field (.ref it) 0 >>= _) _ _ s;refine wpAny_bind (wpAny_field ho hd (x:=.ref l) rfl ?_);show wpAny _ _ (if (Value.ref l==Value.none)=true then _ else _) _ _ s
 rw[if_neg (show ¬((Value.ref l==Value.none)=true) from Bool.false_ne_true)]
 show wpAny _ _ (field (.ref it) 1 >>= _) _ _ s;refine wpAny_bind (wpAny_field ho hd (x:=.int i 0) rfl ?_);show wpAny _ _ (seqItems? (.ref l) >>= _) _ _ s;refine wpAny_bind (wpAny_seqItems hol hdl ?_);simp only[Int.toNat_natCast,hx];refine wpAny_bind (wpAny_setField ho hd (by simp) (wpAny_pure ⟨x,rfl,wpAny_pure (hQ _ ?_ (Heap.SameBut.update ..))⟩))
 exact⟨_,get?_update_self _ ho (Obj.isFreed_of_fields (Obj.data_mapFields hd _)),(Obj.cls_mapFields ..).trans hc,by
  rw[Obj.data_mapFields hd];simp[rawInt]⟩
theorem gb{it l:Addr}{i:Nat}{items:Array Value}{Q:Value->Shared->Prop}(hh:A.handled=none)
  (hit:s.heap.IsTupleIter it l i) (hl:s.heap.IsTuple l items) (hx:items[i]? = none)
  (hE:∀h' e,Heap.ExtBut it s.heap h'->(∃o,h'.get? e=some o/\o.cls=.type "StopIteration")->E (.ref e) { s with heap:=h' }) :
  wpAny (model prog w) A (Builtin.SmallTypes.nextOf (.ref it)) Q E s:=by
 obtain⟨o,ho,hc,hd⟩:=id hit;obtain⟨ol,hol,_,nl,hdl⟩:=hl;unfold Builtin.SmallTypes.nextOf;refine wpAny_bind (wpAny_callSpecial?_slot (name:=Str.ofString "__next__") hit.typeIs F.slot_tuple_iterator_next
  (wpAny_call_entry F.slot_tuple_iterator_next hit.typeIs F.entry_tuple_iterator_next ?_ (F.args_tuple_iterator_next_1 _)))
 show wpAny _ _ (field (.ref it) 0 >>= _) _ _ s;refine wpAny_bind (wpAny_field ho hd (x:=.ref l) rfl ?_);show wpAny _ _ (if (Value.ref l==Value.none)=true then _ else _) _ _ s
 rw[if_neg (show ¬((Value.ref l==Value.none)=true) from Bool.false_ne_true)]
 show wpAny _ _ (field (.ref it) 1 >>= _) _ _ s;refine wpAny_bind (wpAny_field ho hd (x:=.int i 0) rfl ?_);show wpAny _ _ (seqItems? (.ref l) >>= _) _ _ s;refine wpAny_bind (wpAny_seqItems hol hdl ?_);simp only[Int.toNat_natCast,hx];refine wpAny_bind (wpAny_rule (wpAny_bind (wpAny_setField ho hd (by simp) ?_)))
 show wpAny _ _ (newExc (.type "StopIteration") [] >>= _) _ _ _;refine wpAny_bind ?_;simp only[newExc,newTuple];refine wpAny_bind (wpAny_newObj_type ?_ (by size_fits))
 refine wpAny_bind (m:=firstArgMember _ _) (wpAny_of_eq (a:=Value.none) (by first|rfl|(simp only[firstArgMember];rfl)) ?_)
 refine wpAny_newObj_type ?_ (by size_fits)
 simp only[raiseNew];refine wpAny_bind (wpAny_handled ?_)
 first|rw[show A.in1.handled=none from hh]|rw[hh]
 refine wpAny_bind (wpAny_pure (wpAny_throw ?_));exact hE _ _ (((Heap.SameBut.update ..).extBut.push _).push _) ⟨_,get?_push_size _ rfl,rfl⟩
theorem il{t:Bool}{it l:Addr}{i:Nat}{items:Array Value}{x:Value}{Q:Value->Shared->Prop}(hit:SqI t s.heap it l i)
  (hl:SqO t s.heap l items) (hx:items[i]? = some x)
  (hQ:∀h',SqI t h' it l (i+1)->Heap.SameBut it s.heap h'->Q x { s with heap:=h' }) :
  wpAny (model prog w) A (Builtin.SmallTypes.nextOf (.ref it)) Q E s:=by
 cases t
 ·exact wpAny_nextOf_list_item hit hl hx hQ
 ·exact fO hit hl hx hQ
theorem nP{t:Bool}{it l:Addr}{i:Nat}{items:Array Value}{Q:Value->Shared->Prop}(hh:A.handled=none)
  (hit:SqI t s.heap it l i) (hl:SqO t s.heap l items) (hx:items[i]? = none)
  (hE:∀h' e,Heap.ExtBut it s.heap h'->(∃o,h'.get? e=some o/\o.cls=.type "StopIteration")->E (.ref e) { s with heap:=h' }) :
  wpAny (model prog w) A (Builtin.SmallTypes.nextOf (.ref it)) Q E s:=by
 cases t
 ·exact wpAny_nextOf_list_end hh hit hl hx hE
 ·exact gb hh hit hl hx hE
theorem oN{t:Bool}{l:Addr}{items:Array Value}{Q:Value->Shared->Prop}(hl:SqO t s.heap l items)
  (hQ:∀o,SqI t (s.heap.push o) s.heap.objs.size l 0->Q (.ref s.heap.objs.size) { s with heap:=s.heap.push o }):wpAny (model prog w) A (pyIter (.ref l)) Q E s:=by
 cases t
 ·exact wpAny_pyIter_list hl (hQ _ (show Heap.IsListIter _ _ _ _ from⟨_,get?_push_size _ rfl,rfl,rfl⟩))
 ·exact wpAny_pyIter_tuple hl (hQ _ (show Heap.IsTupleIter _ _ _ _ from⟨_,get?_push_size _ rfl,rfl,rfl⟩))
theorem wW{t1 t2:Bool}{z TI TO i1 i2 l1 l2:Addr}{k1 k2:Nat}{xs ys:Array Value}{x y a b:Value}{Q:Value->Shared->Prop}(D:ZipApart z TI TO i1 i2 l1 l2)
  (hz:IsZip s.heap z TI TO .none) (hTI:IsPair s.heap TI (.ref i1) (.ref i2)) (hTO:IsPair s.heap TO a b)
  (h1:SqI t1 s.heap i1 l1 k1) (h2:SqI t2 s.heap i2 l2 k2) (hl1:SqO t1 s.heap l1 xs) (hl2:SqO t2 s.heap l2 ys) (hx:xs[k1]? = some x) (hy:ys[k2]? = some y)
  (hQ:∀h',IsZip h' z TI TO (rawInt s.heap.objs.size)->IsPair h' TO x y->SqI t1 h' i1 l1 (k1+1)->SqI t2 h' i2 l2 (k2+1)->IsPair h' s.heap.objs.size x y->h'.objs.size=s.heap.objs.size+1->
   (∀c o,c≠z->c≠TO->c≠i1->c≠i2->s.heap.get? c=some o->h'.get? c=some o)->Q (.ref s.heap.objs.size) { s with heap:=h' }) :
  wpAny (model prog w) A (Builtin.«zip.__next__» ⟨[.ref z],[]⟩) (λfin s'=>∃v,fin=.done (.ret v)/\Q v s') E s:=by
 show wpAny _ _ (field (.ref z) 2 >>= _) _ _ _;refine wpAny_bind (wpAny_field hz rfl (x:=.bool false) rfl ?_);show wpAny _ _ (field (.ref z) 3 >>= _) _ _ _;refine wpAny_bind (wpAny_field hz rfl (x:=.ref TI) rfl ?_);refine wpAny_bind (wpAny_seqItems hTI rfl ?_);show wpAny _ _ (Builtin.SmallTypes.ownedTupleIsFree (.ref z) >>= _) _ _ _;refine wpAny_bind ?_;unfold Builtin.SmallTypes.ownedTupleIsFree;refine wpAny_bind (wpAny_field hz rfl (x:=.none) rfl (wpAny_pure ?_));simp only[if_true];refine wpAny_bind (wpAny_rule ?_);refine wpAny_bind (wpAny_field hz rfl (x:=.ref TO) rfl ?_);refine wpAny_bind (wpAny_setField_rec hz (by simp) λh₁ hz₁ hs₁=>?_)
 replace hz₁:IsZip h₁ z TI TO .ellipsis:=hz₁
 refine wpAny_bind ?_;simp only[List.zipIdx_cons,List.zipIdx_nil,forIn_cons,forIn_nil];refine wpAny_bind (wpAny_bind (wpAny_onRaise ?_));show wpAny _ _ (Builtin.SmallTypes.nextOf (.ref i1) >>= _) _ _ _;refine wpAny_bind (il (h1.at λo e=>hs₁.extBut _ _ D.i1z e) (hl1.at λo e=>hs₁.extBut _ _ D.l1z e) hx λh₂ h1₂ hs₂=>wpAny_pure ?_)
 have hTO₂:IsPair h₂ TO a b:=hs₂.extBut _ _ D.TOi1 (hs₁.extBut _ _ D.TOz hTO);refine wpAny_bind (wpAny_seqItems hTO₂ rfl ?_);refine wpAny_bind (wpAny_updateSeq_pair hTO₂ λh₃ hTO₃ hs₃=>?_)
 replace hTO₃:IsPair h₃ TO x b:=hTO₃
 refine wpAny_bind (wpAny_letGo (wpAny_pure ?_));refine wpAny_bind (wpAny_bind (wpAny_onRaise ?_));show wpAny _ _ (Builtin.SmallTypes.nextOf (.ref i2) >>= _) _ _ _;refine wpAny_bind (il (h2.at λo e=>hs₃.extBut _ _ D.TOi2.symm (hs₂.extBut _ _ D.i12.symm (hs₁.extBut _ _ D.i2z e)))
  (hl2.at λo e=>hs₃.extBut _ _ D.l2TO (hs₂.extBut _ _ D.l2i1 (hs₁.extBut _ _ D.l2z e))) hy λh₄ h2₄ hs₄=>wpAny_pure ?_)
 have hTO₄:IsPair h₄ TO x b:=hs₄.extBut _ _ D.TOi2 hTO₃;refine wpAny_bind (wpAny_seqItems hTO₄ rfl ?_);refine wpAny_bind (wpAny_updateSeq_pair hTO₄ λh₅ hTO₅ hs₅=>?_)
 replace hTO₅:IsPair h₅ TO x y:=hTO₅
 refine wpAny_bind (wpAny_letGo (wpAny_pure (wpAny_pure ?_)));refine wpAny_bind (wpAny_seqItems hTO₅ rfl ?_);refine wpAny_bind (wpAny_newTuple ?_);have hsz:h₅.objs.size=s.heap.objs.size:=by rw[hs₅.1,hs₄.1,hs₃.1,hs₂.1,hs₁.1]
 have hz₅:IsZip h₅ z TI TO .ellipsis:=hs₅.extBut _ _ D.TOz.symm (hs₄.extBut _ _ D.i2z.symm (hs₃.extBut _ _ D.TOz.symm (hs₂.extBut _ _ D.i1z.symm hz₁)));have hk₅:∀c o,c≠z->c≠TO->c≠i1->c≠i2->s.heap.get? c=some o->h₅.get? c=some o:=λc o c1 c2 c3 c4 e=>
  hs₅.extBut _ _ c2 (hs₄.extBut _ _ c4 (hs₃.extBut _ _ c2 (hs₂.extBut _ _ c3 (hs₁.extBut _ _ c1 e))))
 have h1₅:SqI t1 h₅ i1 l1 (k1+1):=h1₂.at λo e=>hs₅.extBut _ _ D.TOi1.symm (hs₄.extBut _ _ D.i12 (hs₃.extBut _ _ D.TOi1.symm e))
 have h2₅:SqI t2 h₅ i2 l2 (k2+1):=h2₄.at λo e=>hs₅.extBut _ _ D.TOi2.symm e
 have hzlt:z<h₅.objs.size:=lt_size hz₅;have hTOlt:TO<h₅.objs.size:=lt_size hTO₅;show wpAny _ _ (Builtin.SmallTypes.ownedTupleHandOut (.ref z) (.ref h₅.objs.size) >>= _) _ _ _;refine wpAny_bind ?_;unfold Builtin.SmallTypes.ownedTupleHandOut;have hz₆:IsZip (h₅.push { cls:=.type "tuple",data:=.seq #[x,y] }) z TI TO .ellipsis:=get?_push_of_some _ hz₅;refine wpAny_bind (wpAny_setField_rec hz₆ (by simp) λh₇ hz₇ hs₇=>?_)
 replace hz₇:IsZip h₇ z TI TO (rawInt h₅.objs.size):=hz₇
 refine wpAny_setField_rec hz₇ (by simp) λh₈ hz₈ hs₈=>?_
 replace hz₈:IsZip h₈ z TI TO (rawInt h₅.objs.size):=hz₈
 have up:∀c o,c≠z->h₅.get? c=some o->h₈.get? c=some o:=λc o c1 e=>hs₈.extBut _ _ c1 (hs₇.extBut _ _ c1 (get?_push_of_some _ e))
 have hT₈:IsPair h₈ h₅.objs.size x y:=hs₈.extBut _ _ (Nat.ne_of_gt hzlt) (hs₇.extBut _ _ (Nat.ne_of_gt hzlt) (get?_push_size _ rfl));have hz8:h₈.objs.size=h₅.objs.size+1:=by rw[hs₈.1,hs₇.1,size_push]
 rw[hsz] at hz₈ hT₈ hz8;refine wpAny_pure ⟨_,rfl,?_⟩;show Q (.ref h₅.objs.size) _;rw[hsz];exact hQ h₈ hz₈ (up _ _ D.TOz hTO₅) (h1₅.at λo e=>up _ o D.i1z e) (h2₅.at λo e=>up _ o D.i2z e) hT₈ hz8 λc o c1 c2 c3 c4 e=>up c o c1 (hk₅ c o c1 c2 c3 c4 e)
theorem Aw{t1 t2:Bool}{z TI TO i1 i2 l1 l2:Addr}{k1 k2:Nat}{xs ys:Array Value}{a b:Value}{Q:PySem.Fin->Shared->Prop}(hh:A.handled=none)(D:ZipApart z TI TO i1 i2 l1 l2)
  (hz:IsZip s.heap z TI TO .none) (hTI:IsPair s.heap TI (.ref i1) (.ref i2)) (hTO:IsPair s.heap TO a b)
  (h1:SqI t1 s.heap i1 l1 k1) (h2:SqI t2 s.heap i2 l2 k2) (hl1:SqO t1 s.heap l1 xs) (hl2:SqO t2 s.heap l2 ys) (hend:xs[k1]? = none\/ys[k2]? = none)
  (hE:∀h' e,(∀c o,c≠z->c≠TO->c≠i1->c≠i2->s.heap.get? c=some o->h'.get? c=some o)->(∃o,h'.get? e=some o/\o.cls=.type "StopIteration")->E (.ref e) { s with heap:=h' }) :
  wpAny (model prog w) A (Builtin.«zip.__next__» ⟨[.ref z],[]⟩) Q E s:=by
 show wpAny _ _ (field (.ref z) 2 >>= _) _ _ _;refine wpAny_bind (wpAny_field hz rfl (x:=.bool false) rfl ?_);show wpAny _ _ (field (.ref z) 3 >>= _) _ _ _;refine wpAny_bind (wpAny_field hz rfl (x:=.ref TI) rfl ?_);refine wpAny_bind (wpAny_seqItems hTI rfl ?_);show wpAny _ _ (Builtin.SmallTypes.ownedTupleIsFree (.ref z) >>= _) _ _ _;refine wpAny_bind ?_;unfold Builtin.SmallTypes.ownedTupleIsFree;refine wpAny_bind (wpAny_field hz rfl (x:=.none) rfl (wpAny_pure ?_));simp only[if_true];refine wpAny_bind (wpAny_rule ?_);refine wpAny_bind (wpAny_field hz rfl (x:=.ref TO) rfl ?_);refine wpAny_bind (wpAny_setField_rec hz (by simp) λh₁ hz₁ hs₁=>?_)
 replace hz₁:IsZip h₁ z TI TO .ellipsis:=hz₁
 refine wpAny_bind ?_;simp only[List.zipIdx_cons,List.zipIdx_nil,forIn_cons,forIn_nil];refine wpAny_bind (wpAny_bind (wpAny_onRaise ?_));show wpAny _ _ (Builtin.SmallTypes.nextOf (.ref i1) >>= _) _ _ _;cases hx:xs[k1]? with
 |none=>
  refine wpAny_bind (nP hh (h1.at λo e=>hs₁.extBut _ _ D.i1z e) (hl1.at λo e=>hs₁.extBut _ _ D.l1z e) hx λh₂ e hs₂ he=>?_)
  obtain⟨oe,hoe,hce⟩:=he;have hz₂:IsZip h₂ z TI TO .ellipsis:=hs₂ _ _ D.i1z.symm hz₁;have hez:e≠z:=λx=>by subst x;rw[hz₂] at hoe;cases hoe;simp at hce
  refine wpAny_setField_rec hz₂ (by simp) λh₃ _ hs₃=>hE h₃ e (λc o c1 _ c3 _ x=>hs₃.extBut _ _ c1 (hs₂ _ _ c3 (hs₁.extBut _ _ c1 x))) ⟨oe,hs₃.extBut _ _ hez hoe,hce⟩
 |some x=>
  have hy:ys[k2]? = none:=by rcases hend with h|h;rw[hx] at h;cases h;exact h
  refine wpAny_bind (il (h1.at λo e=>hs₁.extBut _ _ D.i1z e) (hl1.at λo e=>hs₁.extBut _ _ D.l1z e) hx λh₂ h1₂ hs₂=>wpAny_pure ?_)
  have hTO₂:IsPair h₂ TO a b:=hs₂.extBut _ _ D.TOi1 (hs₁.extBut _ _ D.TOz hTO);refine wpAny_bind (wpAny_seqItems hTO₂ rfl ?_);refine wpAny_bind (wpAny_updateSeq_pair hTO₂ λh₃ hTO₃ hs₃=>?_)
  refine wpAny_bind (wpAny_letGo (wpAny_pure ?_));refine wpAny_bind (wpAny_bind (wpAny_onRaise ?_));show wpAny _ _ (Builtin.SmallTypes.nextOf (.ref i2) >>= _) _ _ _;refine wpAny_bind (nP hh (h2.at λo e=>hs₃.extBut _ _ D.TOi2.symm (hs₂.extBut _ _ D.i12.symm (hs₁.extBut _ _ D.i2z e)))
   (hl2.at λo e=>hs₃.extBut _ _ D.l2TO (hs₂.extBut _ _ D.l2i1 (hs₁.extBut _ _ D.l2z e))) hy λh₄ e hs₄ he=>?_)
  obtain⟨oe,hoe,hce⟩:=he;have hz₄:IsZip h₄ z TI TO .ellipsis:=hs₄ _ _ D.i2z.symm (hs₃.extBut _ _ D.TOz.symm (hs₂.extBut _ _ D.i1z.symm hz₁));have hez:e≠z:=λx=>by subst x;rw[hz₄] at hoe;cases hoe;simp at hce
  refine wpAny_setField_rec hz₄ (by simp) λh₅ _ hs₅=>hE h₅ e (λc o c1 c2 c3 c4 x=>hs₅.extBut _ _ c1 (hs₄ _ _ c4 (hs₃.extBut _ _ c2 (hs₂.extBut _ _ c3 (hs₁.extBut _ _ c1 x))))) ⟨oe,hs₅.extBut _ _ hez hoe,hce⟩
theorem kc{t1 t2:Bool}{z TI TO i1 i2 l1 l2:Addr}{k1 k2:Nat}{xs ys:Array Value}{x y a b:Value}{Q:Option Value->Shared->Prop}(D:ZipApart z TI TO i1 i2 l1 l2)
  (hz:IsZip s.heap z TI TO .none) (hTI:IsPair s.heap TI (.ref i1) (.ref i2)) (hTO:IsPair s.heap TO a b)
  (h1:SqI t1 s.heap i1 l1 k1) (h2:SqI t2 s.heap i2 l2 k2) (hl1:SqO t1 s.heap l1 xs) (hl2:SqO t2 s.heap l2 ys) (hx:xs[k1]? = some x) (hy:ys[k2]? = some y)
  (hQ:∀h',IsZip h' z TI TO (rawInt s.heap.objs.size)->IsPair h' TO x y->SqI t1 h' i1 l1 (k1+1)->SqI t2 h' i2 l2 (k2+1)->IsPair h' s.heap.objs.size x y->h'.objs.size=s.heap.objs.size+1->
   (∀c o,c≠z->c≠TO->c≠i1->c≠i2->s.heap.get? c=some o->h'.get? c=some o)->Q (some (.ref s.heap.objs.size)) { s with heap:=h' }) :
  wpAny (model prog w) A (pyNext (.ref z)) Q E s:=by
 have hT:s.TypeIs (.ref z) "zip":=⟨_,hz,rfl⟩;unfold pyNext;exact wpAny_bind (wpAny_attempt (wpAny_callSpecial?_slot (name:=Str.ofString "__next__") hT F.slot_zip_next
  (wpAny_call_entry F.slot_zip_next hT F.entry_zip_next
   (wW D hz hTI hTO h1 h2 hl1 hl2 hx hy λh' a1 a2 a3 a4 a5 a6 a7=>wpAny_pure (hQ h' a1 a2 a3 a4 a5 a6 a7)) (F.args_zip_next_1 _))))
theorem kU{t1 t2:Bool}{z TI TO i1 i2 l1 l2:Addr}{k1 k2:Nat}{xs ys:Array Value}{a b:Value}{Q:Option Value->Shared->Prop}(hh:A.handled=none)(D:ZipApart z TI TO i1 i2 l1 l2)
  (hz:IsZip s.heap z TI TO .none) (hTI:IsPair s.heap TI (.ref i1) (.ref i2)) (hTO:IsPair s.heap TO a b)
  (h1:SqI t1 s.heap i1 l1 k1) (h2:SqI t2 s.heap i2 l2 k2) (hl1:SqO t1 s.heap l1 xs) (hl2:SqO t2 s.heap l2 ys) (hend:xs[k1]? = none\/ys[k2]? = none)
  (hQ:∀h',(∀c o,c≠z->c≠TO->c≠i1->c≠i2->s.heap.get? c=some o->h'.get? c=some o)->Q none { s with heap:=h' }):wpAny (model prog w) A (pyNext (.ref z)) Q E s:=by
 have hT:s.TypeIs (.ref z) "zip":=⟨_,hz,rfl⟩;unfold pyNext;refine wpAny_bind (wpAny_attempt (wpAny_callSpecial?_slot (name:=Str.ofString "__next__") hT F.slot_zip_next
  (wpAny_call_entry F.slot_zip_next hT F.entry_zip_next (Aw hh D hz hTI hTO h1 h2 hl1 hl2 hend λh' e hk he=>?_) (F.args_zip_next_1 _))))
 obtain⟨o,ho,hc⟩:=he;refine wpAny_bind (wpAny_isInstance (T := "StopIteration") (b:=true) ⟨o,ho,hc⟩ isSubtype_stop ?_);exact wpAny_pure (hQ _ hk)
end
def vA(t:Bool)(l:Addr):Obj:=if t=true then { cls:=.type "tuple_iterator",data:=.fields #[.ref l,.int 0 0] } else { cls:=.type "list_iterator",data:=.fields #[.ref l,.int 0 0] }
theorem sS{t:Bool}{h:Heap}{it l:Addr}(e:h.get? it=some (vA t l)):SqI t h it l 0:=by
 cases t
 ·exact(show h.IsListIter it l 0 from⟨_,e,rfl,rfl⟩)
 ·exact(show h.IsTupleIter it l 0 from⟨_,e,rfl,rfl⟩)
abbrev CS(t1:Bool)(h:Heap)(l1:Addr):Heap:=h.push (vA t1 l1)
abbrev Cg(t1 t2:Bool)(h:Heap)(l1 l2:Addr):Heap:=(CS t1 h l1).push (vA t2 l2)
abbrev CU(t1 t2:Bool)(h:Heap)(l1 l2:Addr):Heap:=(Cg t1 t2 h l1 l2).push { cls:=.type "tuple",data:=.seq #[.ref h.objs.size,.ref (CS t1 h l1).objs.size] }
abbrev CH(t1 t2:Bool)(h:Heap)(l1 l2:Addr):Heap:=(CU t1 t2 h l1 l2).push { cls:=.type "tuple",data:=.seq #[.none,.none] }
abbrev uv(t1 t2:Bool)(h:Heap)(l1 l2:Addr):Heap:=(CH t1 t2 h l1 l2).push { cls:=.type "zip",data:=.fields #[.none,.bool false,.bool false,.ref (Cg t1 t2 h l1 l2).objs.size,.ref (CU t1 t2 h l1 l2).objs.size] }
set_option maxHeartbeats 8000000 in
theorem uD(t1 t2:Bool)(l1 l2:Addr)(xs ys:Array Value) :
  Meets (Builtin.«zip.__new__» ⟨[.type "zip",.ref l1,.ref l2],[]⟩) (λ_ R s=>SqO t1 s.heap l1 xs/\SqO t2 s.heap l2 ys/\
   R (.ok (.ret (.ref (CH t1 t2 s.heap l1 l2).objs.size))) { s with heap:=uv t1 t2 s.heap l1 l2 }):=
 .of_wp λprog w A R s h=>by
  obtain⟨hp,g,d,tk,os⟩:=s;obtain⟨hl1,hl2,h⟩:=h;have hsub:=sub_zip;cases t1<;>cases t2
  ·have hL1:Heap.IsList (Shared.heap ⟨hp,g,d,tk,os⟩) l1 xs:=hl1;have hL2:Heap.IsList (Shared.heap ⟨hp.push { cls:=.type "list_iterator",data:=.fields #[.ref l1,.int 0 0] },g,d,tk,os⟩) l2 ys:=Heap.IsList.push hl2 _
   wp_walk using wpAny_pyIter_list hL1,wpAny_pyIter_list hL2
   exact⟨_,rfl,h⟩
  ·have hL1:Heap.IsList (Shared.heap ⟨hp,g,d,tk,os⟩) l1 xs:=hl1;have hL2:Heap.IsTuple (Shared.heap ⟨hp.push { cls:=.type "list_iterator",data:=.fields #[.ref l1,.int 0 0] },g,d,tk,os⟩) l2 ys:=Heap.IsTuple.push hl2 _
   wp_walk using wpAny_pyIter_list hL1,wpAny_pyIter_tuple hL2
   exact⟨_,rfl,h⟩
  ·have hL1:Heap.IsTuple (Shared.heap ⟨hp,g,d,tk,os⟩) l1 xs:=hl1;have hL2:Heap.IsList (Shared.heap ⟨hp.push { cls:=.type "tuple_iterator",data:=.fields #[.ref l1,.int 0 0] },g,d,tk,os⟩) l2 ys:=Heap.IsList.push hl2 _
   wp_walk using wpAny_pyIter_tuple hL1,wpAny_pyIter_list hL2
   exact⟨_,rfl,h⟩
  ·have hL1:Heap.IsTuple (Shared.heap ⟨hp,g,d,tk,os⟩) l1 xs:=hl1;have hL2:Heap.IsTuple (Shared.heap ⟨hp.push { cls:=.type "tuple_iterator",data:=.fields #[.ref l1,.int 0 0] },g,d,tk,os⟩) l2 ys:=Heap.IsTuple.push hl2 _
   wp_walk using wpAny_pyIter_tuple hL1,wpAny_pyIter_tuple hL2
   exact⟨_,rfl,h⟩
section
variable {prog:Program} {w:World} {A:Around} {E:Value->Shared->Prop} {s:Shared}
theorem xu{t1 t2:Bool}{l1 l2:Addr}{xs ys:Array Value}{Q:Value->Shared->Prop}(hl1:SqO t1 s.heap l1 xs)(hl2:SqO t2 s.heap l2 ys)
  (h:∀h',IsZip h' (s.heap.objs.size+4) (s.heap.objs.size+2) (s.heap.objs.size+3) .none->IsPair h' (s.heap.objs.size+2) (.ref s.heap.objs.size) (.ref (s.heap.objs.size+1))->
   IsPair h' (s.heap.objs.size+3) .none .none->SqI t1 h' s.heap.objs.size l1 0->SqI t2 h' (s.heap.objs.size+1) l2 0->h'.objs.size=s.heap.objs.size+5->
   (∀c o,s.heap.get? c=some o->h'.get? c=some o)->Q (.ref (s.heap.objs.size+4)) { s with heap:=h' }) :
  wpAny (model prog w) A (call (.type "zip") [.ref l1,.ref l2]) Q E s:=by
 refine callType_new F.called_zip (by decide) (F.typeCall_zip_2 _ _) (F.newCall_zip_2 _ _) (λobj=>F.args_object_init_3 obj _ _) F.entry_zip_new
  (uD t1 t2 l1 l2 xs ys) ⟨hl1,hl2,?_⟩
 have fr:∀t l,(vA t l).isFreed=false:=λt l=>by cases t<;>rfl
 have z1:(CS t1 s.heap l1).objs.size=s.heap.objs.size+1:=size_push ..;have z2:(Cg t1 t2 s.heap l1 l2).objs.size=s.heap.objs.size+2:=by rw[size_push,z1]
 have z3:(CU t1 t2 s.heap l1 l2).objs.size=s.heap.objs.size+3:=by rw[size_push,z2]
 have z4:(CH t1 t2 s.heap l1 l2).objs.size=s.heap.objs.size+4:=by rw[size_push,z3]
 have z5:(uv t1 t2 s.heap l1 l2).objs.size=s.heap.objs.size+5:=by rw[size_push,z4]
 have g5:(uv t1 t2 s.heap l1 l2).get? (CH t1 t2 s.heap l1 l2).objs.size=some _:=get?_push_size _ rfl;have g4:(uv t1 t2 s.heap l1 l2).get? (CU t1 t2 s.heap l1 l2).objs.size=some _:=get?_push_of_some _ (get?_push_size _ rfl);have g3:(uv t1 t2 s.heap l1 l2).get? (Cg t1 t2 s.heap l1 l2).objs.size=some _:=get?_push_of_some _ (get?_push_of_some _ (get?_push_size _ rfl));have g2:(uv t1 t2 s.heap l1 l2).get? (CS t1 s.heap l1).objs.size=some _:=get?_push_of_some _ (get?_push_of_some _ (get?_push_of_some _ (get?_push_size _ (fr t2 l2))));have g1:(uv t1 t2 s.heap l1 l2).get? s.heap.objs.size=some _:=get?_push_of_some _ (get?_push_of_some _ (get?_push_of_some _ (get?_push_of_some _ (get?_push_size _ (fr t1 l1)))));show _/\_;rw[z2,z3,z4] at g5;rw[z1,z2] at g3;rw[z3] at g4;rw[z1] at g2;rw[z4];exact⟨⟨_,g5,rfl⟩,h _ g5 g3 g4 (sS g1) (sS g2) z5 λc o x=>
  get?_push_of_some _ (get?_push_of_some _ (get?_push_of_some _ (get?_push_of_some _ (get?_push_of_some _ x))))⟩
end
def Itz(t1 t2:Bool)(K:Frag)(a b:Addr):It:=
 ⟨λi H=>∃xs ys x y,SqV t1 K H a xs/\SqV t2 K H b ys/\xs[i]? = some x/\ys[i]? = some y,
  λi H v H'=>∃p x y,v=.ref p/\H p=none/\H'=upd H p (.tup [x,y])/\(∀xs,SqV t1 K H a xs->xs[i]? = some x)/\∀ys,SqV t2 K H b ys->ys[i]? = some y,
  λi H=>∃xs ys,SqV t1 K H a xs/\SqV t2 K H b ys/\(xs.length<=i\/ys.length<=i)⟩
def Zst(t1 t2:Bool)(z TI TO i1 i2 a b:Addr)(i:Nat)(h:Heap):Prop:=
 IsZip h z TI TO .none/\IsPair h TI (.ref i1) (.ref i2)/\(∃x y,IsPair h TO x y)/\SqI t1 h i1 a i/\SqI t2 h i2 b i
structure C3 (z TI TO i1 i2:Addr):Prop where
 TIz:TI≠z
 TOz:TO≠z
 i1z:i1≠z
 i2z:i2≠z
 TITO:TI≠TO
 TIi1:TI≠i1
 TIi2:TI≠i2
 TOi1:TO≠i1
 TOi2:TO≠i2
 i12:i1≠i2
theorem Inv.turnedN{X:Cx}{pins:List (Addr×Obj)}{σ:St}{H:Hp}{s:Shared}{h':Heap}{t':Nat}{fp:List Addr}(I:Inv X pins σ H s)(k:∀b o,b∉fp->s.heap.get? b=some o->h'.get? b=some o)(hf:∀b∈fp,gU X pins H b):Inv X pins σ H { s with heap:=h',toks:=t' }:=by
 have nit:∀b u,H b=some u->b∉fp:=λb u e z=>by rw[(hf b z).1] at e;cases e
 refine I.step (g':=s.gens) (d':=s.drawn) (ch:=fp) (λb hb=>?_) (λb o _ _ hc e _=>k b o hc e) (λb o _ _ hc e _=>⟨o.slots,k b o hc e⟩) (λ_ _ _ _ n=>n)
  (λb o hc e=>⟨o,k b o hc e⟩) (λ_ _ e=>e) (λ_ _ _ e=>e) (λb ps e=>⟨#[],by rw[e];simp⟩) (λm hm=>?_) (λb u e=>?_) I.bare
 ·obtain⟨f0,f1,f2,f3,f4,f5⟩:=hf b hb;exact⟨f3,f1,f4,f5⟩
 ·obtain⟨o,es,ep,ho,r⟩:=hm;exact⟨o,es,ep,k _ o (λz=>(hf _ z).2.1 rfl) ho,r⟩
 ·refine(I.hok b u e).stay (λc v hc q=>k c v ?_ q) (λ_ q=>q) λ_ _ q=>q
  rcases hc with z|z
  ·rw[z];exact nit b u e
  ·exact nit c _ z
theorem FD(n:Nat):C3 (n+4) (n+2) (n+3) n (n+1):=by
 constructor<;>(intro h;have h':(_:Nat)=_:=h;omega)
theorem gd{X:Cx}{pins:List (Addr×Obj)}{σ:St}{H:Hp}{s:Shared}{fp:List Addr}{t:Bool}{l:Addr}{vs:List V}(I:Inv X pins σ H s)(hf:∀b∈fp,gU X pins H b)(q:SqV t X.K H l vs):l∉fp:=λhl=>by
 have hn:=hf l hl;have old:∀o,X.K.lookup l=some o->False:=λo hk=>by
  rcases hn.2.2.2.1 with z'|z'
  ·exact I.ok.noex l o (I.ok.mod.kin l o hk) z'
  ·exact absurd (Nat.lt_of_lt_of_le (lt_size (I.ok.bs l o (I.ok.mod.kin l o hk)).1) z') (Nat.lt_irrefl _)
 cases t
 ·rcases(show SqL X.K H l vs from q) with(q|⟨o,q⟩)|⟨o,_,_,hk,_⟩
  ·rw[hn.1] at q;cases q
  ·rw[hn.1] at q;cases q
  ·exact old o hk
 ·rcases(show SqT X.K H l vs from q) with(q|⟨o,q⟩)|⟨o,_,_,hk,_⟩
  ·rw[hn.1] at q;cases q
  ·rw[hn.1] at q;cases q
  ·exact old o hk
theorem AQ{P:Program}{w:World}{K:Frag}{es:List Expr}{ek:Nat}{ep:Pos}{t1 t2:Bool}(a b z TI TO i1 i2:Addr)(D:C3 z TI TO i1 i2) :
  qc P w K (.Tuple es ek ep) (Itz t1 t2 K a b) [z,TI,TO,i1,i2] z (Zst t1 t2 z TI TO i1 i2 a b) where
 mem:=by simp
 obj:=λi h ⟨hz,hTI,⟨x,y,hTO⟩,h1,h2⟩ c hc=>by
  simp only[mem_cons,not_mem_nil,or_false] at hc
  rcases hc with rfl|rfl|rfl|rfl|rfl
  ·exact⟨_,hz,λv z=>by cases z⟩
  ·exact⟨_,hTI,λv z=>by cases z⟩
  ·exact⟨_,hTO,λv z=>by cases z⟩
  ·exact h1.obj
  ·exact h2.obj
 keep:=λi h h' ⟨hz,hTI,⟨x,y,hTO⟩,h1,h2⟩ k=>
  ⟨k z (by simp) _ hz,k TI (by simp) _ hTI,⟨x,y,k TO (by simp) _ hTO⟩,h1.at λo e=>k i1 (by simp) o e,h2.at λo e=>k i2 (by simp) o e⟩
 item:=by
  intro X hP hw hK hc i pins s σ H E I hf st hg;subst hP hw hK;obtain⟨xs,ys,x,y,qx,qy,hx,hy⟩:=hg;obtain⟨hz,hTI,⟨xo,yo,hTO⟩,h1,h2⟩:=st;obtain⟨ix,rx,px,zx⟩:=I.seqV qx;obtain⟨iy,ry,py,zy⟩:=I.seqV qy;obtain⟨u,hu,ru⟩:=rx.get hx;obtain⟨v,hv,rv⟩:=ry.get hy;have inFp:∀c,c∈[z,TI,TO,i1,i2]->H c=none:=λc hc=>(hf c hc).1
  have na:=gd I hf qx;have nb:=gd I hf qy;simp only[mem_cons,not_mem_nil,or_false,not_or] at na nb;have DA:ZipApart z TI TO i1 i2 a b:=⟨D.TIz,D.TOz,D.i1z,D.i2z,D.TITO,D.TIi1,D.TIi2,D.TOi1,D.TOi2,D.i12,na.1,na.2.2.1,na.2.2.2.1,na.2.2.2.2,nb.1,nb.2.2.1,nb.2.2.2.1,nb.2.2.2.2⟩;refine kc DA hz hTI hTO h1 h2 px py (x:=u) (y:=v) (by simpa using hu) (by simpa using hv) λh' a1 a2 a3 a4 a5 a6 hk=>?_
  refine⟨_,rfl,wpAny_letOwnedTupleGo_zip a1 λh'' hz'' sb=>?_⟩
  have kk:∀c o,c∉[z,TI,TO,i1,i2]->s.heap.get? c=some o->h''.get? c=some o:=λc o hc e=>by
   simp only[mem_cons,not_mem_nil,or_false,not_or] at hc;exact(sb.2 c hc.1).trans (hk c o hc.1 hc.2.2.1 hc.2.2.2.1 hc.2.2.2.2 e)
  have lt5:∀c∈[z,TI,TO,i1,i2],c<s.heap.objs.size:=λc hc=>by
   simp only[mem_cons,not_mem_nil,or_false] at hc
   rcases hc with rfl|rfl|rfl|rfl|rfl
   ·exact lt_size hz
   ·exact lt_size hTI
   ·exact lt_size hTO
   ·obtain⟨o,e,_⟩:=h1.obj;exact lt_size e
   ·obtain⟨o,e,_⟩:=h2.obj;exact lt_size e
  have nT:s.heap.objs.size∉[z,TI,TO,i1,i2]:=λhc=>absurd (lt5 _ hc) (Nat.lt_irrefl _)
  have hT:h''.get? s.heap.objs.size=some { cls:=.type "tuple",data:=.seq #[u,v] }:=(sb.2 _ (λe=>nT (by simp[e]))).trans a5
  have fresh:H s.heap.objs.size=none:=I.hok.fresh (Nat.le_refl _);have gT:(s.heap.push { cls:=.type "tuple",data:=.seq #[u,v] }).get? s.heap.objs.size=some { cls:=.type "tuple",data:=.seq #[u,v] }:=get?_push_size _ rfl;have I1:Inv X pins σ (upd H s.heap.objs.size (.tup [x,y])) { s with heap:=s.heap.push { cls:=.type "tuple",data:=.seq #[u,v] },toks:=s.toks }:=
   I.laid (λb o e=>get?_push_of_some _ e) (Nat.le_refl _) ⟨by show 2<=sizeLine;decide,[u,v],.cons ru (.cons rv .nil),_,gT,rfl,_,rfl⟩
  have fp1:∀c∈[z,TI,TO,i1,i2],gU X pins (upd H s.heap.objs.size (.tup [x,y])) c:=λc hc=>
   ⟨by rw[ar (Nat.ne_of_lt (lt5 c hc))];exact(hf c hc).1,(hf c hc).2⟩
  have I2:=I1.turnedN (h':=h'') (t':=s.toks) (fp:=[z,TI,TO,i1,i2]) (λc o hc e=>by
   rcases Heap.get?_push_cases e with⟨e1,e2⟩|e1
   ·rw[e1,e2];exact hT
   ·exact kk c o hc e1) fp1
  refine⟨.ref s.heap.objs.size,_,I2,rfl,⟨_,x,y,rfl,fresh,rfl,λxs' q=>by rw[I.seqV_inj q qx];exact hx,λys' q=>by rw[I.seqV_inj q qy];exact hy⟩,?_,λc hc=>(fp1 c hc).1⟩
  exact⟨hz'',(sb.2 _ D.TIz).trans (hk _ _ D.TIz D.TITO D.TIi1 D.TIi2 hTI),⟨u,v,(sb.2 _ D.TOz).trans a2⟩,a3.at λo e=>(sb.2 _ D.i1z).trans e,a4.at λo e=>(sb.2 _ D.i2z).trans e⟩
 done:=by
  intro X hP hw hK hc i pins s σ H E I hf st hg;subst hP hw hK;obtain⟨xs,ys,qx,qy,hend⟩:=hg;obtain⟨hz,hTI,⟨xo,yo,hTO⟩,h1,h2⟩:=st;obtain⟨ix,rx,px,zx⟩:=I.seqV qx;obtain⟨iy,ry,py,zy⟩:=I.seqV qy;have na:=gd I hf qx;have nb:=gd I hf qy;simp only[mem_cons,not_mem_nil,or_false,not_or] at na nb;have DA:ZipApart z TI TO i1 i2 a b:=⟨D.TIz,D.TOz,D.i1z,D.i2z,D.TITO,D.TIi1,D.TIi2,D.TOi1,D.TOi2,D.i12,na.1,na.2.2.1,na.2.2.2.1,na.2.2.2.2,nb.1,nb.2.2.1,nb.2.2.2.1,nb.2.2.2.2⟩;have lx:=rx.length;have ly:=ry.length;refine kU (I.ok.hd hc) DA hz hTI hTO h1 h2 px py ?_ λh' hk=>⟨rfl,I.turnedN (t':=s.toks) (λc o hc e=>?_) hf⟩
  ·rcases hend with q|q
   ·exact .inl (by simp;omega)
   ·exact .inr (by simp;omega)
  ·simp only[mem_cons,not_mem_nil,or_false,not_or] at hc;exact hk c o hc.1 hc.2.2.1 hc.2.2.2.1 hc.2.2.2.2 e
 self:=λ_ _ _ _ _ st h=>wpAny_pyIter_zip st.1 h
def E7(t1 t2:Bool)(K:Frag)(ta:TA):TI:=λσ H R=>ta σ H λvs H1=>∃a b,vs=[.ref a,.ref b]/\(∃xs,SqV t1 K H1 a xs)/\(∃ys,SqV t2 K H1 b ys)/\R (Itz t1 t2 K a b) H1
theorem EZ{X:Cx}(t1 t2:Bool){es:List Expr}{ek:Nat}{ep:Pos}{a b:Expr}{ta:TA}{p pos:Pos}(hg:Gl X "zip")(hm:X.mg "zip" = none)(ha:PA X [a,b] ta)(hs:starEach [a,b] X.env=[(false,eval a X.env),(false,eval b X.env)]:=by rfl)(hs2:starEach [b] X.env=[(false,eval b X.env)]:=by rfl) :
  PI X (.Tuple es ek ep) (.Call (.Name "zip" p) [a,b] [] pos) (E7 t1 t2 X.K ta):=by
 intro pins s σ H R I h;refine Call_ (io I hg hm boot_zip (PyProof.Rows.callWith_type1 (thn (ha pos pins s σ H _ I h) λus s1 ⟨vs,H1,I1,r1,q1⟩=>?_) (by rw[hs,hs2]) (by rw[hs2];rfl)))
 obtain⟨l1,l2,e,⟨xs,qx⟩,⟨ys,qy⟩,q⟩:=q1;subst e;cases r1 with
 |cons r rr=>
  cases rr with
  |cons r' rr=>
   cases rr;cases r;cases r';obtain⟨ix,rx,px,zx⟩:=I1.seqV qx;obtain⟨iy,ry,py,zy⟩:=I1.seqV qy;refine xu px py λh' a1 a2 a3 a4 a5 a6 a7=>?_
   have I2:Inv X pins σ H1 { s1 with heap:=h',toks:=s1.toks }:=I1.kept a7
   refine wpAny_pyIter_zip (s:={ s1 with heap:=h' }) a1 ?_
   refine⟨_,[s1.heap.objs.size+4,s1.heap.objs.size+2,s1.heap.objs.size+3,s1.heap.objs.size,s1.heap.objs.size+1],_,_,H1,rfl,I2,AQ l1 l2 (s1.heap.objs.size+4) (s1.heap.objs.size+2) (s1.heap.objs.size+3) s1.heap.objs.size (s1.heap.objs.size+1) (FD _),⟨a1,a2,⟨_,_,a3⟩,a4,a5⟩,λb hb=>?_,q⟩
   have hb':s1.heap.objs.size<=b:=by
    simp only[mem_cons,not_mem_nil,or_false] at hb
    rcases hb with rfl|rfl|rfl|rfl|rfl
    ·exact Nat.le_add_right _ _
    ·exact Nat.le_add_right _ _
    ·exact Nat.le_add_right _ _
    ·exact Nat.le_refl _
    ·exact Nat.le_add_right _ _
   exact I1.fpOk hb' (I1.hok.fresh hb')
mutual
inductive DR (K:Frag) (H:Hp):PyData->V->Prop
 |non:DR K H .none .non
 |bl (b:Bool):DR K H (.bool b) (.bl b)
 |int (i:Int):DR K H (.int i) (.int i)
 |str (x:Str):DR K H (.str x) (.str x)
 |tup {a:Addr} {vs:List V} {ds:List PyData}:SqT K H a vs->DRs K H ds vs->DR K H (.tuple ds) (.ref a)
 |lst {a:Addr} {vs:List V} {ds:List PyData}:SqL K H a vs->DRs K H ds vs->DR K H (.list ds) (.ref a)
inductive DRs (K:Frag) (H:Hp):List PyData->List V->Prop
 |nil:DRs K H [] []
 |cons {d:PyData} {v:V} {ds:List PyData} {vs:List V}:DR K H d v->DRs K H ds vs->DRs K H (d::ds) (v::vs)
end
section
variable {X:Cx} {pins:List (Addr×Obj)} {σ:St} {H:Hp} {s:Shared}
mutual
theorem DR.reads(I:Inv X pins σ H s):∀{d:PyData} {v:V} {u:Value},DR X.K H d v->F4 v u->∃as,Reads s.heap u d as
 |_,_,_,.non,r=>by cases (show _=Value.none from r);exact⟨_,.none⟩
 |_,_,_,.bl b,r=>by cases (show _=Value.bool b from r);exact⟨_,.bool b⟩
 |_,_,_,.int i,r=>by obtain⟨t,q⟩:=(show ∃t,_=Value.int i t from r);subst q;exact⟨_,.int i t⟩
 |_,_,_,.str x,r=>by obtain⟨t,q⟩:=(show ∃t,_=Value.str x t from r);subst q;exact⟨_,.str x t⟩
 |_,_,_,.tup (a:=a) q qs,r=>by
  cases (show _=Value.ref a from r)
  obtain⟨its,rv,⟨o,e,c,n,d⟩,z⟩:=I.tuple q;obtain⟨as,ra⟩:=DRs.reads I qs rv;exact⟨as,.tuple e c d (by simpa using ra)⟩
 |_,_,_,.lst (a:=a) q qs,r=>by
  cases (show _=Value.ref a from r)
  obtain⟨its,rv,⟨o,n,e,c,_,d⟩,z⟩:=I.list q;obtain⟨as,ra⟩:=DRs.reads I qs rv;exact⟨_,.list e c d (by simpa using ra)⟩
theorem DRs.reads(I:Inv X pins σ H s):∀{ds:List PyData} {vs:List V} {us:List Value},DRs X.K H ds vs->F1 vs us->∃as,ReadsAll s.heap us ds as
 |_,_,_,.nil,r=>by cases r;exact⟨_,.nil⟩
 |_,_,_,.cons q qs,r=>by
  cases r with
  |cons r rr=>
   obtain⟨as,ra⟩:=DR.reads I q r;obtain⟨bs,rb⟩:=DRs.reads I qs rr;exact⟨_,.cons ra rb⟩
end
def Fz(K:Frag):R2:=λx y H Q=>∃d e,DR K H d x/\DR K H e y/\SeqAt.shaped d=true/\SeqAt.shaped e=true/\Q (.bl (PyData.eqv d e)) H
def FK(K:Frag):R2:=λx y H Q=>∃d e,DR K H d x/\DR K H e y/\SeqAt.shaped d=true/\SeqAt.shaped e=true/\Q (.bl (!PyData.eqv d e)) H
theorem DE(hu:X.A.units+64<cLine):OpR X (compareOp .Eq) (Fz X.K):=by
 intro pins s σ H x y v u Q I rx ry h;obtain⟨d,e,dx,dy,sx,sy,q⟩:=h;obtain⟨as,ra⟩:=dx.reads I rx;obtain⟨bs,rb⟩:=dy.reads I ry;exact eq_dataH ra rb sx sy hu ⟨.bl _,H,I,rfl,q⟩
theorem DV(hu:X.A.units+64<cLine):OpR X (compareOp .NotEq) (FK X.K):=by
 intro pins s σ H x y v u Q I rx ry h;obtain⟨d,e,dx,dy,sx,sy,q⟩:=h;obtain⟨as,ra⟩:=dx.reads I rx;obtain⟨bs,rb⟩:=dy.reads I ry;exact ne_dataH ra rb sx sy hu ⟨.bl _,H,I,rfl,q⟩
end
def gX(ns:List Int):PyData:=.tuple (ns.map .int)
theorem md{K:Frag}{H:Hp}:∀ns:List Int,DRs K H (ns.map PyData.int) (ns.map V.int)
 |[]=>.nil
 |n::r=>.cons (.int n) (md r)
theorem iC{K:Frag}{H:Hp}{a:Addr}{ns:List Int}(h:SqT K H a (ns.map V.int)):DR K H (gX ns) (.ref a):=.tup h (md ns)
theorem dB(ns:List Int):SeqAt.shaped (gX ns)=true:=by
 simp[gX,SeqAt.shaped,PyData.canLay0,PyData.depth,PySem.W.ke_canLayAll0,PySem.W.ke_depthAll]
theorem g7:∀ns ms:List Int,PyData.eqvAll (ns.map PyData.int) (ms.map PyData.int)=decide (ns=ms)
 |[],[]=>by simp[PyData.eqvAll]
 |[],_::_=>by simp[PyData.eqvAll]
 |_::_,[]=>by simp[PyData.eqvAll]
 |a::r,b::t=>by
  simp only[map_cons,PyData.eqvAll,PyData.eqv,g7 r t]
  by_cases h:a=b<;>by_cases h':r=t<;>simp[h,h']
theorem mD(ns ms:List Int):PyData.eqv (gX ns) (gX ms)=decide (ns=ms):=by
 simp only[gX,PyData.eqv];exact g7 ns ms
section
variable {X:Cx}
theorem Walks.sq{prog:Program}{w:World}{A:Around}(t:Bool)(hh:A.handled=none)(I ax:Addr)(hne:ax≠I)(items:Array Value) :
  Walks prog w A I [I,ax] [I] items.size (λi v=>items[i]? = some v) (λi h=>SqI t h I ax i/\SqO t h ax items):=by
 cases t
 ·exact Walks.list hh I ax hne items
 ·exact Walks.tuple hh I ax hne items
theorem wE(hc:X.calm=true)(t:Bool):eY X (.builtin "all") (λxs H Q=>∃(p:Addr) (bs:List Bool),xs=[.ref p]/\SqV t X.K H p (bs.map V.bl)/\Q (.bl (bs.all id)) H):=by
 intro pins s σ H xs us Q I rv h;obtain⟨p,bs,rfl,q,hq⟩:=h;obtain⟨u,rfl,ru⟩:=gM rv;cases ru;obtain⟨its,rb,po,z⟩:=I.seqV q;have hh:X.A.in1.handled=none:=I.ok.hd hc;refine call_all_walk (oN po λo hi=>?_)
 have hlt:p<s.heap.objs.size:=by obtain⟨ob,e⟩:=po.obj;exact lt_size e
 refine⟨s.heap.objs.size,_,_,_,_,_,λi=>bs.getD i false,rfl,Walks.sq t hh s.heap.objs.size p (Nat.ne_of_lt hlt) its.toArray,⟨hi,po.at λo' e=>get?_push_of_some _ e⟩,?_,λh' tk hk=>?_⟩
 ·intro i v s' Q' E' hv hQ;have hv':its[i]? = some v:=by simpa using hv
  have hlen:=rb.length;have hil:i<its.length:=(List.getElem?_eq_some_iff.mp hv').1;rw[length_map] at hlen;have hb:(bs.map V.bl)[i]? = some (.bl (bs.getD i false)):=by
   rw[getElem?_map,getD_eq_getElem?_getD,getElem?_eq_getElem (by omega)]
   rfl
  obtain⟨u,hu,ru⟩:=rb.get hb;rw[hv'] at hu;cases hu;cases (show v=Value.bool _ from ru)
  exact wpAny_truthy_bool hQ
 ·have I1:Inv X pins σ H { s with heap:=s.heap.push o,toks:=s.toks }:=I.kept λb u e=>get?_push_of_some _ e
  have fp:gU X pins H s.heap.objs.size:=I.fpOk (Nat.le_refl _) (I.hok.fresh (Nat.le_refl _));have I2:Inv X pins σ H { s with heap:=h',toks:=tk }:=by
   have:=I1.turnedN (fp:=[s.heap.objs.size]) (h':=h') (t':=tk) (λb ob hb e=>hk b ob hb e) (λb hb=>by have e:b=s.heap.objs.size:=by simpa using hb
                                                                                                     subst e;exact fp)
   exact this
  refine⟨.bl (bs.all id),H,I2,?_,hq⟩;show Value.bool _=Value.bool _;congr 1;have hlen:=rb.length;rw[length_map] at hlen;have hsz:its.toArray.size=bs.length:=by simp[hlen]
  rw[hsz];rw[Bool.eq_iff_iff];simp only[all_eq_true,List.mem_range]
  constructor
  ·intro h b hb;obtain⟨i,hi,rfl⟩:=List.getElem_of_mem hb;have:=h i hi;simpa[getD_eq_getElem?_getD,getElem?_eq_getElem hi] using this
  ·intro h i hi;have:=h (bs[i]) (List.getElem_mem hi);simpa[getD_eq_getElem?_getD,getElem?_eq_getElem hi] using this
theorem rg(ns:List Int):∀k,k<=ns.length->preSum (λi=>ns.getD i 0) k=(ns.take k).sum:=by
 intro k
 induction k with
 |zero=>intro _;rfl
 |succ k ih=>
  intro h;have e:=ih (by omega)
  show preSum _ k+_=_;rw[e,take_succ,List.sum_append,getElem?_eq_getElem (by omega)]
  show _+ns.getD k 0=_;rw[getD_eq_getElem?_getD,getElem?_eq_getElem (by omega)]
  simp
theorem wv(hc:X.calm=true)(t:Bool):eY X (.builtin "sum") (λxs H Q=>∃(p:Addr) (ns:List Int),xs=[.ref p]/\SqV t X.K H p (ns.map V.int)/\Q (.int ns.sum) H):=by
 intro pins s σ H xs us Q I rv h;obtain⟨p,ns,rfl,q,hq⟩:=h;obtain⟨u,rfl,ru⟩:=gM rv;cases ru;obtain⟨its,rb,po,z⟩:=I.seqV q;have hh:X.A.in1.handled=none:=I.ok.hd hc;refine call_sum_walkG (oN po λo hi=>?_)
 have hlt:p<s.heap.objs.size:=by obtain⟨ob,e⟩:=po.obj;exact lt_size e
 refine⟨s.heap.objs.size,_,_,_,_,_,λi=>ns.getD i 0,rfl,Walks.sq t hh s.heap.objs.size p (Nat.ne_of_lt hlt) its.toArray,⟨hi,po.at λo' e=>get?_push_of_some _ e⟩,λb hb=>?_,?_,λh' tk t' hk=>?_⟩
 ·show b<(s.heap.push o).objs.size;rw[size_push]
  rcases List.mem_cons.mp hb with rfl|hb
  ·exact Nat.lt_succ_self _
  ·rcases List.mem_cons.mp hb with rfl|hb
   ·exact Nat.lt_succ_of_lt hlt
   ·cases hb
 ·intro i v hv;have hv':its[i]? = some v:=by simpa using hv
  have hlen:=rb.length;have hil:i<its.length:=(List.getElem?_eq_some_iff.mp hv').1;rw[length_map] at hlen;have hb:(ns.map V.int)[i]? = some (.int (ns.getD i 0)):=by
   rw[getElem?_map,getD_eq_getElem?_getD,getElem?_eq_getElem (by omega)]
   rfl
  obtain⟨u,hu,ru⟩:=rb.get hb;rw[hv'] at hu;cases hu;exact ru
 ·have I1:Inv X pins σ H { s with heap:=s.heap.push o,toks:=s.toks }:=I.kept λb u e=>get?_push_of_some _ e
  have fp:gU X pins H s.heap.objs.size:=I.fpOk (Nat.le_refl _) (I.hok.fresh (Nat.le_refl _));have I2:Inv X pins σ H { s with heap:=h',toks:=tk }:=by
   have:=I1.turnedN (fp:=[s.heap.objs.size]) (h':=h') (t':=tk) (λb ob hb e=>hk b ob hb e) (λb hb=>by have e:b=s.heap.objs.size:=by simpa using hb
                                                                                                     subst e;exact fp)
   exact this
  have hlen:=rb.length;rw[length_map] at hlen;have hsz:its.toArray.size=ns.length:=by simp[hlen]
  refine⟨.int ns.sum,H,I2,⟨t',?_⟩,hq⟩;rw[hsz,rg ns _ (Nat.le_refl _),take_of_length_le (Nat.le_refl _)]
end
end L2
namespace L2
open PySem PySem.Spec PyProof.Rows
section
variable {X:Cx} {pos:Pos}
def rIsT(K:Frag):List V->Hp->VK->Prop:=λxs H Q=>∃(x:V) (t:Value) (c:String) (b:Bool),xs=[x,.ty c]/\TyOf K H x t/\kitOne K t (.type c)=some b/\Q (.bl b) H
theorem y4:eY X (.builtin "isinstance") (rIsT X.K):=by
 intro pins s σ H xs us Q I rv h;obtain⟨x,t,c,b,rfl,ty,e,q⟩:=h;obtain⟨u,u',rfl,r1,r2⟩:=vN rv;cases (show u'=Value.type c from r2)
 exact wk I r1 ty e λtk=>⟨.bl b,H,I.tok tk,rfl,q⟩
theorem kP:bootBuiltins "isinstance"=some (.builtin "isinstance"):=by decide +kernel
theorem xQ:bootBuiltins "all"=some (.builtin "all"):=by decide +kernel
theorem xj:bootBuiltins "sum"=some (.builtin "sum"):=by decide +kernel
theorem xW:bootBuiltins "abs"=some (.builtin "abs"):=by decide +kernel
theorem gZ:bootBuiltins "tuple"=some (.type "tuple"):=by decide +kernel
theorem gI:bootBuiltins "list"=some (.type "list"):=by decide +kernel
theorem fm:bootBuiltins "int"=some (.type "int"):=by decide +kernel
theorem uN:bootBuiltins "bool"=some (.type "bool"):=by decide +kernel
theorem km:bootBuiltins "ValueError"=some (.type "ValueError"):=by decide +kernel
theorem ju:OpR X (binaryOp .Mult) (rI IntMulOk λi j=>.int (i*j)):=opI λ_ _ _ _ _ _ _ hc q=>mul_int q hc
end
structure FnB (P:Program) (w:World) (K:Frag) (mg:Str->Option Value) (base:Heap) (k:Nat) (x:Str) (sp:Sp):Prop where
 ex:∃f fd ps,F2 P w K mg base CX0 k f fd ps sp/\mg x=some (.ref f)/\keepIn K (.ref f)=true/\Gf K fd ps []
structure Blt (mg:Str->Option Value):Prop where
 len:mg "len" = none
 range:mg "range" = none
 zip:mg "zip" = none
 all:mg "all" = none
 sum:mg "sum" = none
 max:mg "max" = none
 min:mg "min" = none
 abs:mg "abs" = none
 tuple:mg "tuple" = none
 list:mg "list" = none
 int:mg "int" = none
 bool:mg "bool" = none
 isinst:mg "isinstance" = none
 enum:mg "enumerate" = none
 sorted:mg "sorted" = none
 set:mg "set" = none
 str:mg "str" = none
section
variable {X:Cx} {p pos:Pos} {e e2:Expr} {es:List Expr} {t:TA} {te te2:TE}
theorem aR{x:Str}{k:Nat}{sp:Sp}(F:FnB X.prog X.w X.K X.mg X.base k x sp)(hr:F5 k X.A)(ha:PA X (e::es) t)(hg:Gl X x:=by rfl)(hdb:(x==("__debug__" : Str))=false:=by decide)
  (he:starEach (e::es) X.env=(false,eval e X.env)::starEach es X.env:=by rfl) (hpl:(backTo pos (starEach es X.env)).any (·.1)=false:=by rfl):PE X (.Call (.Name x p) (e::es) [] pos) (mf sp [] E0 t):=by
 obtain⟨f,fd,ps,F',hm,hk,hb⟩:=F.ex;exact uT F' hr hg hm hk hb .nil sV ha hdb he hpl
theorem DZ(T:Blt X.mg)(ha:PE X e te)(hg:Gl X "len":=by rfl)(hs:starEach [e] X.env=[(false,eval e X.env)]:=by rfl):PE X (.Call (.Name "len" p) [e] [] pos) (tCB (λxs H Q=>∃p ys,xs=[.ref p]/\(SqL X.K H p ys\/SqT X.K H p ys)/\Q (.int ys.length) H) (dO te fT)):=
 fu ql hg T.len PySem.boot_len (aa ha ae hs) (by decide) (by decide) hs
theorem DC(T:Blt X.mg)(ha:PE X e te)(b:Bool)(hc:X.calm=true:=by rfl)(hg:Gl X "all":=by rfl)(hs:starEach [e] X.env=[(false,eval e X.env)]:=by rfl):PE X (.Call (.Name "all" p) [e] [] pos) (tCB (λxs H Q=>∃(p:Addr) (bs:List Bool),xs=[.ref p]/\SqV b X.K H p (bs.map V.bl)/\Q (.bl (bs.all id)) H) (dO te fT)):=
 fu (wE hc b) hg T.all xQ (aa ha ae hs) (by decide) (by decide) hs
theorem Ek(T:Blt X.mg)(ha:PE X e te)(b:Bool)(hc:X.calm=true:=by rfl)(hg:Gl X "sum":=by rfl)(hs:starEach [e] X.env=[(false,eval e X.env)]:=by rfl):PE X (.Call (.Name "sum" p) [e] [] pos) (tCB (λxs H Q=>∃(p:Addr) (ns:List Int),xs=[.ref p]/\SqV b X.K H p (ns.map V.int)/\Q (.int ns.sum) H) (dO te fT)):=
 fu (wv hc b) hg T.sum xj (aa ha ae hs) (by decide) (by decide) hs
theorem Af(T:Blt X.mg)(ha:PE X e te)(hg:Gl X "tuple":=by rfl)(hs:starEach [e] X.env=[(false,eval e X.env)]:=by rfl):PE X (.Call (.Name "tuple" p) [e] [] pos) (tCB (λxs H Q=>∃p ys,xs=[.ref p]/\SqL X.K H p ys/\∀l,H l=none->Q (.ref l) (upd H l (.tup ys))) (dO te fT)):=by
 refine bK (r:=λxs H Q=>∃p ys,xs=[.ref p]/\SqL X.K H p ys/\∀l,H l=none->Q (.ref l) (upd H l (.tup ys))) ?_ hg T.tuple gZ (aa ha ae hs) (by decide) (by decide) hs
 intro pins s σ H xs us Q I rv h;obtain⟨p,ys,rfl,q,hq⟩:=h;exact ox pins s σ H _ us Q I rv ⟨p,ys,rfl,.inl ⟨q,hq⟩⟩
theorem yH(T:Blt X.mg)(ha:PE X e te)(hg:Gl X "abs":=by rfl)(hs:starEach [e] X.env=[(false,eval e X.env)]:=by rfl):PE X (.Call (.Name "abs" p) [e] [] pos) (tCB (λxs H Q=>∃i,xs=[.int i]/\Q (.int (if i<0 then -i else i)) H) (dO te fT)):=
 fu yD hg T.abs xW (aa ha ae hs) (by decide) (by decide) hs
def BA(K:Frag):List V->Hp->VK->Prop:=λxs H Q=>match xs with
 |[x,.ty c]=>∃(t:Value) (b:Bool),TyOf K H x t/\kitOne K t (.type c)=some b/\Q (.bl b) H
 |_=>False
theorem AL:eY X (.builtin "isinstance") (BA X.K):=by
 intro pins s σ H xs us Q I rv h;unfold BA at h
 split at h
 ·obtain⟨t,b,ty,e,q⟩:=h;exact y4 pins s σ H _ us Q I rv ⟨_,t,_,b,rfl,ty,e,q⟩
 ·exact h.elim
theorem E9{cn:Str}{c:String}{p2:Pos}(T:Blt X.mg)(ha:PE X e te)(hm:X.mg cn=none)(hv:bootBuiltins cn=some (.type c))(hg:Gl X "isinstance":=by rfl)(hg2:Gl X cn:=by rfl)(hn:cn≠"__name__":=by decide)(hd:(cn==("__debug__" : Str))=false:=by decide)
  (he:starEach [e,.Name cn p2] X.env=(false,eval e X.env)::starEach [.Name cn p2] X.env:=by rfl) (he2:starEach [.Name cn p2] X.env=[(false,eval (.Name cn p2) X.env)]:=by rfl) :
  PE X (.Call (.Name "isinstance" p) [e,.Name cn p2] [] pos) (tCB (BA X.K) (dO te (dO (tC (.ty c)) fT))):=
 fu (X:=X) (p:=p) (pos:=pos) AL hg T.isinst kP (aa ha (aa (vf (v:=.ty c) (pos:=p2) hg2 hm hv rfl hn hd) ae he2) he) (by decide) (by decide) he (by rw[he2];rfl)
end
theorem gW{J:It}{n:Nat}{acc:Addr}{g:TG}{tt:TT}{te:TE}{Q:VK}{σ0:St}{H0:Hp}(Pv:Nat->List V->St->Hp->Prop)(hn:n<=sizeLine)(h0:Pv 0 [] σ0 (upd H0 acc (.lst [])))
  (hgo:∀i zs σ H,i<n->H acc=some (.lst zs)->Pv i zs σ H->J.go i H)
  (hst:∀zs σ H,H acc=some (.lst zs)->Pv n zs σ H->J.stop n H)
  (hs:∀i zs σ H x H',i<n->H acc=some (.lst zs)->zs.length<=i->Pv i zs σ H->J.yld i H x H'->g x σ H' λσ2 H2=>tt σ2 H2 λb H3=>
   if b=true then te σ2 H3 λy H4=>∃ys,H4 acc=some (.lst ys)/\ys.length<sizeLine/\∃zs,(upd H4 acc (.lst (ys++[y]))) acc=some (.lst zs)/\zs.length<=i+1/\Pv (i+1) zs σ2 (upd H4 acc (.lst (ys++[y])))
   else ∃zs,H3 acc=some (.lst zs)/\zs.length<=i+1/\Pv (i+1) zs σ2 H3)
  (hd:∀zs σ H,H acc=some (.lst zs)->zs.length<=n->Pv n zs σ H->Q (.ref acc) H) :
  ∃W:Nat->Nat->St->Hp->Prop,(∃m,W 0 m σ0 (upd H0 acc (.lst [])))/\∀i m σ H,W i m σ H->
   (J.stop i H/\Q (.ref acc) H)\/(J.go i H/\∃N:St->Hp->Prop,(∀σ' H',N σ' H'->∃m',m'<m/\W (i+1) m' σ' H')/\∀x H',J.yld i H x H'->g x σ H' λσ2 H2=>tt σ2 H2 λb H3=>
    if b=true then te σ2 H3 λy H4=>∃ys,H4 acc=some (.lst ys)/\ys.length<sizeLine/\N σ2 (upd H4 acc (.lst (ys++[y]))) else N σ2 H3):=by
 refine⟨λi m σ H=>m=n-i/\i<=n/\∃zs,H acc=some (.lst zs)/\zs.length<=i/\Pv i zs σ H,⟨n,by simp,Nat.zero_le _,[],FY,Nat.le_refl _,h0⟩,?_⟩
 rintro i m σ H ⟨rfl,hi,zs,hz,hl,p⟩
 by_cases hlt:i<n
 ·refine .inr ⟨hgo i zs σ H hlt hz p,λσ' H'=>∃zs,H' acc=some (.lst zs)/\zs.length<=i+1/\Pv (i+1) zs σ' H',λσ' H' p'=>⟨n-(i+1),by omega,rfl,hlt,p'⟩,λx H' y=>?_⟩
  exact hs i zs σ H x H' hlt hz hl p y
 ·have e:i=n:=by omega
  subst e;exact .inl ⟨hst zs σ H hz p,hd zs σ H hz hl p⟩
theorem FX.sqT{K:Frag}{H H':Hp}{a:Addr}{xs:List V}(e:FX H H')(h:SqT K H a xs):SqT K H' a xs:=by
 rcases h with(h|⟨o,h⟩)|h
 ·exact .inl (.inl (e _ _ h))
 ·exact .inl (.inr ⟨o,e _ _ h⟩)
 ·exact .inr h
theorem FX.sqV{t:Bool}{K:Frag}{H H':Hp}{a:Addr}{xs:List V}(e:FX H H')(h:SqV t K H a xs):SqV t K H' a xs:=by
 cases t
 ·exact FX.seq e h
 ·exact FX.sqT e h
theorem FX.new{H:Hp}{a:Addr}{o:HO}(h:H a=none):FX H (upd H a o):=λb u e=>by rw[ar (al e h)];exact e
theorem FX.put{H H':Hp}{a:Addr}{o:HO}(s:FX H H')(h:H a=none):FX H (upd H' a o):=λb u e=>by rw[ar (al e h)];exact s b u e
theorem qr{α β γ:Type}(f:α->β->γ):∀(xs:List α) (ys:List β) (i:Nat) (x:α) (y:β),xs[i]? = some x->ys[i]? = some y->(List.zipWith f xs ys).take (i+1)=(List.zipWith f xs ys).take i++[f x y]:=by
 intro xs ys i x y hx hy;rw[take_succ,List.getElem?_zipWith,hx,hy]
 rfl
theorem nB{α β:Type}(f:α->β)(xs:List α)(i:Nat)(x:α)(hx:xs[i]? = some x):(xs.map f).take (i+1)=(xs.map f).take i++[f x]:=by
 rw[take_succ,getElem?_map,hx]
 rfl
theorem Ag{K:Frag}{a:Addr}{xs:List V}{te:TE}{Q:VK}{rest:St}{src:List (Option Nat)}{σ:St}{H0:Hp}(f:V->V)(hσ:dC src σ=none::rest)(hx:SqT K H0 a xs)(hl:xs.length<=sizeLine)
  (he:∀(i:Nat) x H (R:VK),xs[i]? = some x->FX H0 H->R (f x) H->te (some x::rest) H R)
  (hd:∀acc H,H0 acc=none->FX H0 H->H acc=some (.lst (xs.map f))->Q (.ref acc) H) :
  da (Itt K a) src (di 0) oh te σ H0 Q:=by
 intro acc hacc;rw[hσ];have hlen:(xs.map f).length=xs.length:=length_map ..;refine gW (n:=xs.length) (λi zs σ H=>FX H0 H/\zs=(xs.map f).take i/\∃u,σ=u::rest) (by omega) ⟨FX.new hacc,rfl,none,rfl⟩ ?_ ?_ ?_ ?_
 ·rintro i zs σ H hi hz ⟨sm,_⟩;exact⟨xs,xs[i],sm.sqT hx,by simp⟩
 ·rintro zs σ H hz ⟨sm,_⟩;exact⟨xs,sm.sqT hx,Nat.le_refl _⟩
 ·rintro i zs σ H x H' hi hz hzl ⟨sm,ez,u,rfl⟩ ⟨rfl,gx⟩;have hx1:=gx xs (sm.sqT hx);show te (some x::rest) _ _;refine he i x _ _ hx1 sm ?_;refine⟨zs,hz,by omega,zs++[f x],FY,by rw[length_append,length_singleton];omega,sm.put hacc,?_,_,rfl⟩
  rw[nB f xs i x hx1,ez]
 ·rintro zs σ H hz hzl ⟨sm,ez,_⟩;refine hd acc H hacc sm ?_;rw[hz,ez,take_of_length_le (by omega)]
theorem fe{J:It}{n:Nat}{src:List (Option Nat)}{g:TG}{tt:TT}{te:TE}{Q:VK}{σ σ0:St}{H0:Hp}(hσ:dC src σ=σ0)(Pv:Addr->Nat->List V->St->Hp->Prop)(hn:n<=sizeLine)(h0:∀acc,H0 acc=none->Pv acc 0 [] σ0 (upd H0 acc (.lst [])))
  (hgo:∀acc i zs σ H,H0 acc=none->i<n->H acc=some (.lst zs)->Pv acc i zs σ H->J.go i H)
  (hst:∀acc zs σ H,H0 acc=none->H acc=some (.lst zs)->Pv acc n zs σ H->J.stop n H)
  (hs:∀acc i zs σ H x H',H0 acc=none->i<n->H acc=some (.lst zs)->zs.length<=i->Pv acc i zs σ H->J.yld i H x H'->g x σ H' λσ2 H2=>tt σ2 H2 λb H3=>
   if b=true then te σ2 H3 λy H4=>∃ys,H4 acc=some (.lst ys)/\ys.length<sizeLine/\∃zs,(upd H4 acc (.lst (ys++[y]))) acc=some (.lst zs)/\zs.length<=i+1/\Pv acc (i+1) zs σ2 (upd H4 acc (.lst (ys++[y])))
   else ∃zs,H3 acc=some (.lst zs)/\zs.length<=i+1/\Pv acc (i+1) zs σ2 H3)
  (hd:∀acc zs σ H,H0 acc=none->H acc=some (.lst zs)->zs.length<=n->Pv acc n zs σ H->Q (.ref acc) H):da J src g tt te σ H0 Q:=by
 intro acc hacc;rw[hσ];exact gW (Pv acc) hn (h0 acc hacc) (λi zs σ H=>hgo acc i zs σ H hacc) (λzs σ H=>hst acc zs σ H hacc) (λi zs σ H x H'=>hs acc i zs σ H x H' hacc) (λzs σ H=>hd acc zs σ H hacc)
theorem cv{X:Cx}{i:Nat}{x:Str}{pos:Pos}(hN:X.N.Nodup)(hi:X.N[i]? = some x)(hx:X.env.scope.names.lookup x=some .local):PG X (.Name x pos) (di i):=js hN hi (.inl hx) (.inr hx)
section
variable {X:Cx} (K:Frag) {p pos:Pos} {e e2:Expr} {es:List Expr} {t:TA} {te te2:TE}
theorem iF{i j:Nat}{x y:Str}{p1 p2 pos:Pos}{k:Nat}(hK:X.K=K)(hc:X.calm=true)(hN:X.N.Nodup)(hi:X.N[i]? = some x)(hj:X.N[j]? = some y)(hx:X.env.scope.names.lookup x=some .local)(hy:X.env.scope.names.lookup y=some .local) :
  PG X (.Tuple [.Name x p1,.Name y p2] k pos) (Ep K 2 (tz (di i) (tz (di j) DD))):=by
 subst hK;exact EC hc (rG (cv hN hi hx) (rG (cv hN hj hy) BI))
theorem ay(hK:X.K=K):IxR X (Fx K):=hK▸CJ
theorem aL(hK:X.K=K):IxR X (Ff K):=hK▸EJ
theorem bu(hK:X.K=K):SlR X (Cq K):=hK▸Cy
theorem rV(hK:X.K=K)(hu:X.A.units+64<cLine):OpR X (compareOp .Eq) (Fz K):=hK▸DE hu
theorem B8(hK:X.K=K)(hu:X.A.units+64<cLine):OpR X (compareOp .NotEq) (FK K):=hK▸DV hu
theorem bI{tg:Expr}(hK:X.K=K)(hl:PE X e te):PI X tg e (Dz K te):=hK▸BJ hl
theorem Co{tg:Expr}(hK:X.K=K)(hl:PE X e te):PI X tg e (Fa K te):=hK▸Ee hl
theorem qe(t1 t2:Bool){es:List Expr}{ek:Nat}{ep:Pos}{a b:Expr}{ta:TA}(hK:X.K=K)(hg:Gl X "zip")(hm:X.mg "zip" = none)(ha:PA X [a,b] ta)(hs:starEach [a,b] X.env=[(false,eval a X.env),(false,eval b X.env)]:=by rfl)(hs2:starEach [b] X.env=[(false,eval b X.env)]:=by rfl) :
  PI X (.Tuple es ek ep) (.Call (.Name "zip" p) [a,b] [] pos) (E7 t1 t2 K ta):=hK▸EZ t1 t2 hg hm ha hs hs2
def rLen(K:Frag):List V->Hp->VK->Prop:=λxs H Q=>∃p ys,xs=[.ref p]/\(SqL K H p ys\/SqT K H p ys)/\Q (.int ys.length) H
def rAll(b:Bool)(K:Frag):List V->Hp->VK->Prop:=λxs H Q=>∃(p:Addr) (bs:List Bool),xs=[.ref p]/\SqV b K H p (bs.map V.bl)/\Q (.bl (bs.all id)) H
def rSum(b:Bool)(K:Frag):List V->Hp->VK->Prop:=λxs H Q=>∃(p:Addr) (ns:List Int),xs=[.ref p]/\SqV b K H p (ns.map V.int)/\Q (.int ns.sum) H
def EV(K:Frag):List V->Hp->VK->Prop:=λxs H Q=>∃p ys,xs=[.ref p]/\SqL K H p ys/\∀l,H l=none->Q (.ref l) (upd H l (.tup ys))
theorem cG(T:Blt X.mg)(ha:PE X e te)(hK:X.K=K:=by rfl)(hg:Gl X "len":=by rfl)(hs:starEach [e] X.env=[(false,eval e X.env)]:=by rfl):PE X (.Call (.Name "len" p) [e] [] pos) (tCB (rLen K) (dO te fT)):=by
 subst hK;exact DZ T ha hg hs
theorem fM(T:Blt X.mg)(ha:PE X e te)(b:Bool)(hK:X.K=K:=by rfl)(hc:X.calm=true:=by rfl)(hg:Gl X "all":=by rfl)(hs:starEach [e] X.env=[(false,eval e X.env)]:=by rfl):PE X (.Call (.Name "all" p) [e] [] pos) (tCB (rAll b K) (dO te fT)):=by
 subst hK;exact DC T ha b hc hg hs
theorem Cf(T:Blt X.mg)(ha:PE X e te)(b:Bool)(hK:X.K=K:=by rfl)(hc:X.calm=true:=by rfl)(hg:Gl X "sum":=by rfl)(hs:starEach [e] X.env=[(false,eval e X.env)]:=by rfl):PE X (.Call (.Name "sum" p) [e] [] pos) (tCB (rSum b K) (dO te fT)):=by
 subst hK;exact Ek T ha b hc hg hs
theorem wG(T:Blt X.mg)(ha:PE X e te)(hK:X.K=K:=by rfl)(hg:Gl X "tuple":=by rfl)(hs:starEach [e] X.env=[(false,eval e X.env)]:=by rfl):PE X (.Call (.Name "tuple" p) [e] [] pos) (tCB (EV K) (dO te fT)):=by
 subst hK;exact Af T ha hg hs
theorem hJ{cn:Str}{c:String}{p2:Pos}(T:Blt X.mg)(ha:PE X e te)(hm:X.mg cn=none)(hv:bootBuiltins cn=some (.type c))(hK:X.K=K:=by rfl)(hg:Gl X "isinstance":=by rfl)(hg2:Gl X cn:=by rfl)(hn:cn≠"__name__":=by decide)(hd:(cn==("__debug__" : Str))=false:=by decide)
  (he:starEach [e,.Name cn p2] X.env=(false,eval e X.env)::starEach [.Name cn p2] X.env:=by rfl) (he2:starEach [.Name cn p2] X.env=[(false,eval (.Name cn p2) X.env)]:=by rfl) :
  PE X (.Call (.Name "isinstance" p) [e,.Name cn p2] [] pos) (tCB (BA K) (dO te (dO (tC (.ty c)) fT))):=by
 subst hK;exact E9 T ha hm hv hg hg2 hn hd he he2
end
section
variable {X:Cx} (K:Frag) {p pos:Pos} {e e2:Expr} {es:List Expr} {t:TA} {te te2:TE}
def DW(K:Frag):List V->Hp->VK->Prop:=λxs H Q=>∃p ys,xs=[.ref p]/\(SqL K H p ys\/SqT K H p ys)/\∀l,H l=none->Q (.ref l) (upd H l (.lst ys))
theorem A1(T:Blt X.mg)(ha:PE X e te)(hK:X.K=K:=by rfl)(hg:Gl X "list":=by rfl)(hs:starEach [e] X.env=[(false,eval e X.env)]:=by rfl):PE X (.Call (.Name "list" p) [e] [] pos) (tCB (DW K) (dO te fT)):=by
 subst hK;exact bK pU hg T.list gI (aa ha ae hs) (by decide) (by decide) hs
end
theorem TyOf.same{K:Frag}{H H':Hp}{x:V}{t:Value}(s:FX H H')(h:TyOf K H x t):TyOf K H' x t:=by
 cases h with
 |non=>exact .non
 |bl b=>exact .bl b
 |int i=>exact .int i
 |str x=>exact .str x
 |flt x=>exact .flt x
 |lst e=>exact .lst (s _ _ e)
 |frz e=>exact .frz (s _ _ e)
 |tup e=>exact .tup (s _ _ e)
 |dK e=>exact .dK (s _ _ e)
 |dT e=>exact .dT (s _ _ e)
 |ins e cl ha hn htk hm=>exact .ins (s _ _ e) cl ha hn htk hm
theorem qt{i:Nat}{x:V}{t u:TS}{D:fJ}{σ:St}{H:Hp}(M:St->Hp->Prop)(h1:∀R:St->Hp->Prop,(∀σ' H',M σ' H'->R σ' H')->t { D with nx:=R } (σ.set i (some x)) H)(h2:∀σ' H',M σ' H'->u D σ' H'):di i x σ H (cf t u D):=h1 (u D) h2
section
open PySem.SeqAt
open PySem.AutoSeq1 (wpAny_loadPart')
open PySem.MeetsSeq PySem.MeetsSeq2 PySem.MeetsSeq3
def RcO(op:CmpOp)(A:Around)(s:Shared)(y x:Value)(b:Bool):Prop:=
 ∀(prog:Program) (w:World) (E:Value->Shared->Prop) (Q:Value->Shared->Prop),Q (.bool b) s->wpAny (model prog w) A (richCompare op y x) Q E s
inductive qO (op:CmpOp) (A:Around) (s:Shared):List Value->List Value->List (Bool×Bool)->Prop
 |nil (ws:List Value):qO op A s [] ws []
 |nilr (vs:List Value):qO op A s vs [] []
 |cons {v w:Value} {e r:Bool} {vs ws:List Value} {ks:List (Bool×Bool)}:EqAt A s v w e->(e=false->RcO op A s v w r)->qO op A s vs ws ks->qO op A s (v::vs) (w::ws) ((e,r)::ks)
def rD:List (Bool×Bool)->Bool->Bool
 |[],f=>f
 |(true,_)::r,f=>rD r f
 |(false,b)::_,_=>b
theorem ur(l b:Addr)(items items2:Array Value)(n n2:Nat)(dd dd2:Option Addr)(sl sl2:Array (Option Value))(ks:List (Bool×Bool)) :
  Meets (Builtin.«tuple.__gt__» ⟨[.ref l,.ref b],[]⟩)
   (λA R s=>s.heap.get? l=some { cls:=.type "tuple",dict:=dd,data:=.seq items n,slots:=sl }/\s.heap.get? b=some { cls:=.type "tuple",dict:=dd2,data:=.seq items2 n2,slots:=sl2 }/\
    qO .Gt A.in1 s items.toList items2.toList ks/\R (.ok (.ret (.bool (rD ks (decide (items.size>items2.size)))))) s):=
 .of_wp λprog w A R s h=>by
  obtain⟨hp,g,d,tk,os⟩:=s;obtain⟨hl,hb,hc,h⟩:=h;have f2:=AutoSeq1.sub_tuple_tuple
  wp_walk using wpAny_loadPart' hl,wpAny_loadPart' hb,wpAny_forIn_list _ (λrest b s'=>b.1=none/\s'=⟨hp,g,d,tk,os⟩/\∃(vs ws:List Value) (ks':List (Bool×Bool)),rest=vs.zip ws/\
   qO .Gt A.in1 ⟨hp,g,d,tk,os⟩ vs ws ks'/\R (.ok (.ret (.bool (rD ks' (decide (items.size>items2.size)))))) ⟨hp,g,d,tk,os⟩) _
  case turn=>
   rintro⟨y,x⟩ rest b s' ⟨hb',rfl,vs,ws,ks',hz,hk,hR⟩;cases hk with
   |nil=>rw[List.zip_nil_left] at hz;cases hz
   |nilr=>rw[List.zip_nil_right] at hz;cases hz
   |@cons v w' e r vs' ws' ks'' he hr hk'=>
    rw[zip_cons_cons] at hz;injection hz with hyx hrest
    injection hyx with hy hx
    subst hy hx;refine wpAny_bind (he prog w _ _ ?_);cases e with
    |true=>
     wp_walk
     exact⟨rfl,rfl,_,_,_,hrest,hk',hR⟩
    |false=>
     have hri:=hr rfl prog w
     wp_walk using hri
     exact⟨_,rfl,hR⟩
  case fin=>
   rintro⟨b1,b2⟩ s' ⟨hb',rfl,vs,ws,ks',hz,hk,hR⟩;simp only at hb';subst hb';have hks:ks'=[]:=by
    cases hk with
    |nil=>rfl
    |nilr=>rfl
    |cons he hr hk'=>rw[zip_cons_cons] at hz;cases hz
   subst hks
   wp_walk
   exact⟨_,rfl,by simpa[Builtin.Tuple.tupleCompareSizes,rD] using hR⟩
  case h=>
   exact⟨rfl,rfl,items.toList,items2.toList,ks,rfl,hc,h⟩
theorem Dh{A:Around}{s:Shared}{l b:Addr}{items items2:Array Value}{ks:List (Bool×Bool)}(hl:s.heap.IsTuple l items)(hb:s.heap.IsTuple b items2)(hu:A.units<cLine)(hk:qO .Gt A.in1 s items.toList items2.toList ks) :
  RcO .Gt A s (.ref l) (.ref b) (rD ks (decide (items.size>items2.size))):=λprog w E Q h=>by
 obtain⟨⟨cls,dd,data,sl⟩,ho,hc,n,hd⟩:=id hl;obtain⟨⟨cls2,dd2,data2,sl2⟩,ho2,hc2,n2,hd2⟩:=id hb;simp only at hc hd hc2 hd2;subst hc hd hc2 hd2;exact richCompare_meets_room (op:=.Gt) ⟨_,ho,rfl⟩ ⟨_,ho2,rfl⟩ PySem.F.slot_tuple_gt PySem.F.entry_tuple_gt (PySem.F.args_tuple_gt_2 _ _) (ur l b items items2 n n2 dd dd2 sl sl2 ks)
  ⟨ho,ho2,hk,show Value.bool _≠Value.notImplemented/\Q (.bool _) s from⟨(λx=>nomatch x),h⟩⟩ hu
end
def FP(f:Int->Int->Bool)(fin:Bool)(ns ms:List Int):Bool:=rD (List.zipWith (λa b=>(a==b,f a b)) ns ms) fin
def gtI(a b:Int):Bool:=decide (b<a)
def rA(ns ms:List Int):Bool:=FP gtI (decide (ns.length>ms.length)) ns ms
def hgt(m:Int)(ns:List Int)(n:Int)(ms:List Int):Bool:=if m=n then(if ns=ms then false else rA ns ms) else gtI m n
theorem tH(A:Around)(s:Shared)(a:Int)(t:Tok)(c:Int)(u:Tok):RcO .Gt A s (.int a t) (.int c u) (gtI a c):=λprog w E Q h=>
 (PyProof.Rows.gt_int h:wpAny (model prog w) A (compareOp .Gt (.int a t) (.int c u)) Q E s)
theorem oS{op:CmpOp}{A:Around}{s:Shared}{f:Int->Int->Bool}(hf:∀a t c u,RcO op A s (.int a t) (.int c u) (f a c)):∀{ns ms:List Int} {us ws:List Value},F1 (ns.map V.int) us->F1 (ms.map V.int) ws->
  qO op A s us ws (List.zipWith (λa b=>(a==b,f a b)) ns ms)
 |[],_,_,ws,.nil,_=>.nil ws
 |_::_,[],us,_,_,.nil=>.nilr us
 |n::ns,m::ms,_,_,.cons r rr,.cons q qq=>by
  obtain⟨t,rfl⟩:=(show ∃t,_=Value.int n t from r)
  obtain⟨u,rfl⟩:=(show ∃t,_=Value.int m t from q)
  exact .cons (SeqAt.EqAt.int_int n t m u) (λ_=>hf n t m u) (oS hf rr qq)
theorem mV:∀{ns ms:List Int},ns.map V.int=ms.map V.int->ns=ms
 |[],[],_=>rfl
 |[],_::_,h=>by cases h
 |_::_,[],h=>by cases h
 |n::ns,m::ms,h=>by
  rw[map_cons,map_cons] at h;injection h with h1 h2
  injection h1 with h1
  rw[h1,mV h2]
theorem pM{k:Nat}{A:Around}(hr:F5 (k+1) A):A.in1.units+64<cLine:=hr.in1.units
section
variable {X:Cx} {K:Frag}
def rGtP(K:Frag):R2:=λx y H Q=>∃(a b ta tb:Addr) (m n:Int) (ns ms:List Int),x=.ref a/\y=.ref b/\SqT K H a [.int m,.ref ta]/\SqT K H b [.int n,.ref tb]/\SqT K H ta (ns.map V.int)/\SqT K H tb (ms.map V.int)/\Q (.bl (hgt m ns n ms)) H
theorem kgtP{k:Nat}(hK:X.K=K)(hr:F5 (k+2) X.A):OpR X (compareOp .Gt) (rGtP K):=by
 subst hK;intro pins s σ H x y v u Q I rx ry h;obtain⟨a,b,ta,tb,m,n,ns,ms,rfl,rfl,ha,hb,hta,htb,q⟩:=h;cases rx;cases ry;obtain⟨its,r1,p1,_⟩:=I.tuple ha;obtain⟨its2,r2,p2,_⟩:=I.tuple hb;obtain⟨jts,r3,p3,_⟩:=I.tuple hta;obtain⟨jts2,r4,p4,_⟩:=I.tuple htb;have e3:=r3.length;have e4:=r4.length;rw[length_map] at e3 e4;obtain⟨u1,u2,rfl,q1,q2⟩:=vN r1;obtain⟨w1,w2,rfl,q3,q4⟩:=vN r2;obtain⟨t1,rfl⟩:=(show ∃t,u1=Value.int m t from q1)
 obtain⟨t3,rfl⟩:=(show ∃t,w1=Value.int n t from q3)
 cases (show u2=Value.ref ta from q2)
 cases (show w2=Value.ref tb from q4)
 have hu1:X.A.in1.units<cLine:=by have:=pM (k:=k+1) hr;omega
 have hu2:=pM (k:=k+1) hr;have eqr:SeqAt.EqAt X.A.in1 s (.ref ta) (.ref tb) (decide (ns=ms)):=by
  by_cases hab:ta=tb
  ·subst hab;have e:=I.tuple_inj hta htb;have e':ns=ms:=mV e;rw[decide_eq_true e'];exact SeqAt.EqAt.same _
  ·refine SeqAt.EqAt.of_refs hab λprog w E Q' hq=>?_
   obtain⟨as,ra⟩:=(iC hta).reads I rfl;obtain⟨bs,rb⟩:=(iC htb).reads I rfl;exact eq_dataH ra rb (dB _) (dB _) hu2 (by rw[mD];exact hq)
 have gt2:RcO .Gt X.A.in1 s (.ref ta) (.ref tb) (rA ns ms):=by
  have z:=Dh (show s.heap.IsTuple ta jts.toArray from p3) (show s.heap.IsTuple tb jts2.toArray from p4) hu1 (oS (ns:=ns) (ms:=ms) (λ_ _ _ _=>tH _ _ _ _ _ _) (by simpa using r3) (by simpa using r4))
  rw[size_toArray,size_toArray,<- e3,<- e4] at z;exact z
 have ck:qO .Gt X.A.in1 s [.int m t1,.ref ta] [.int n t3,.ref tb] [(m==n,gtI m n),(decide (ns=ms),rA ns ms)]:=
  .cons (SeqAt.EqAt.int_int m t1 n t3) (λ_=>tH _ _ _ _ _ _) (.cons eqr (λ_=>gt2) (.nil _))
 refine Dh (show s.heap.IsTuple a _ from p1) (show s.heap.IsTuple b _ from p2) hr.units0 ck X.prog X.w _ _ ⟨.bl (hgt m ns n ms),H,I,?_,q⟩
 show Value.bool _=Value.bool _;congr 1;unfold hgt
 by_cases h1:m=n
 ·rw[if_pos h1,show(m==n)=true by simpa using h1]
  by_cases h2:ns=ms
  ·rw[if_pos h2,decide_eq_true h2]
   rfl
  ·rw[if_neg h2,decide_eq_false h2]
   rfl
 ·rw[if_neg h1,show(m==n)=false by simpa using h1]
  rfl
end
def Cp(t1 t2:TE):TE:=λσ H Q=>t1 σ H Q\/t2 σ H Q
def tMk0(C:Addr):TE:=λσ H Q=>∀x dx,H x=none->H dx=none->dx≠x->Q (.ref x) (upd (upd H dx (.own x)) x (.ins C dx []))
section
variable {X:Cx} {C:Addr} {x:Str} {p pos apos:Pos} {e o:Expr} {es:List Expr} {te ta t1 t2:TE} {t:TA}
theorem dJ(h1:PE X e t1)(h2:PE X e t2):PE X e (Cp t1 t2):=λpins s σ H Q I h=>h.elim (h1 pins s σ H Q I) (h2 pins s σ H Q I)
structure Mk0 (K:Frag) (C:Addr):Prop where
 makes:makesIn K C=true
 init:findIn K (.ref C) "__init__"=some (some (.builtin "object.__init__"))
 kp:keepIn K (.ref C)=true
theorem AY(M:Mk0 X.K C)(hm:X.mg x=some (.ref C))(hg:Gl X x:=by rfl)(hdb:(x==("__debug__" : Str))=false:=by decide):PE X (.Call (.Name x p) [] [] pos) (tMk0 C):=by
 intro pins s σ H Q I h;refine wpAny_Call_Name_kw (fh I hg hm ?_ hdb);have hq:=h (s.heap.objs.size+1) s.heap.objs.size (I.hok.fresh (Nat.le_succ _)) (I.hok.fresh (Nat.le_refl _)) (Nat.ne_of_lt (Nat.lt_succ_self _));have I2:=Inv.made (C:=C) I;refine PySem.W.callWith_K0 I.kIn M.kp (wpAny_call (xa I.kIn M.makes M.init (λself=>PySem.W.Looks.of_pure (PySem.W.oi_bind self)) ?_))
 have Y:=PySem.W.makes_of (M:=model X.prog X.w) I.kIn M.makes;have hx:((s.heap.push emptyDict).push (instObj C s.heap.objs.size)).get? (s.heap.objs.size+1)=some (instObj C s.heap.objs.size):=by
  have:=get?_push_size (s.heap.push emptyDict) (o:=instObj C s.heap.objs.size) rfl;rwa [size_push] at this
 have y1:Looks (model X.prog X.w) ((s.heap.push emptyDict).push (instObj C s.heap.objs.size)) (typeOf (.ref (s.heap.objs.size+1))) (.ref C):=(PySem.W.Looks.ld hx).andThen .now;have y2:Looks (model X.prog X.w) ((s.heap.push emptyDict).push (instObj C s.heap.objs.size)) (isInstance (.ref (s.heap.objs.size+1)) (.type "object")) true:=y1.andThen (Y.top.keeps λb o e=>get?_push_of_some _ (get?_push_of_some _ e))
 obtain⟨hh,g,d,tk,os⟩:=s;refine codeAny_call_builtin PySem.W.oi_plain PySem.W.entry_oi (@PySem.W.check_slot (model X.prog X.w) _ _ _ "object.__init__" "object" "__init__" (.ref (hh.objs.size+1)) [] [] _ PySem.W.oi_kind PySem.W.oi_split y2 (PySem.W.oi_args (.ref (hh.objs.size+1))) ?_);rw[PySem.W.oi_run];exact wpAny_pure (And.intro rfl ⟨V.ref (hh.objs.size+1),_,I2,rfl,hq⟩)
end
structure MtB (P:Program) (w:World) (K:Frag) (mg:Str->Option Value) (base:Heap) (k:Nat) (C:Addr) (m:Str) (sp:Sp):Prop where
 ex:∃f fd ps,F2 P w K mg base CX0 k f fd ps sp/\gB K C m f/\Gf K fd ps []
 cl:Cls K C
structure MkB (P:Program) (w:World) (K:Frag) (mg:Str->Option Value) (base:Heap) (k:Nat) (C:Addr) (x:Str) (sp:Sp):Prop where
 ex:∃f fd ps,F2 P w K mg base CX0 k f fd ps sp/\Mk K C f/\Gf K fd ps []
 at_:mg x=some (.ref C)
section
variable {X:Cx} {C:Addr} {x m:Str} {k:Nat} {sp:Sp} {p pos apos:Pos} {e o:Expr} {es:List Expr} {te ta:TE} {t:TA}
theorem pD{pl:Sem Bool}(M:MtB X.prog X.w X.K X.mg X.base k C m sp)(hr:F5 k X.A)(he:PE X o ta)(ha:PA X (e::es) t)
  (hst:starEach (e::es) X.env=(false,eval e X.env)::starEach es X.env:=by rfl) (hpl:(backTo pos (starEach es X.env)).any (·.1)=false:=by rfl)
  (ht:eval (.Call (.Attribute o m apos) (e::es) [] pos) X.env=(do
   let ov <- eval o X.env
   standAt apos.atName
   let (f,first) <- holding [ov] (getMethod ov m pl)
   callWith pos f first (backTo pos (starEach (e::es) X.env)) (backToKw pos (keywordEach [] X.env))):=by rfl) :
  PE X (.Call (.Attribute o m apos) (e::es) [] pos) (ig C m sp [] E0 ta t):=by
 obtain⟨f,fd,ps,F,hm,hb⟩:=M.ex;exact vm he M.cl hm F hr hb .nil sV ha hst hpl ht
theorem yp(M:MkB X.prog X.w X.K X.mg X.base k C x sp)(hr:F5 (k+1) X.A)(ha:PA X (e::es) t)(hg:Gl X x:=by rfl)(hdb:(x==("__debug__" : Str))=false:=by decide)
  (he:starEach (e::es) X.env=(false,eval e X.env)::starEach es X.env:=by rfl) (hpl:(backTo pos (starEach es X.env)).any (·.1)=false:=by rfl) :
  PE X (.Call (.Name x p) (e::es) [] pos) (yA C sp [] E0 t):=by
 obtain⟨f,fd,ps,F,hm,hb⟩:=M.ex;exact vM hm F hr hg M.at_ hb .nil sV ha hdb he hpl
end
end L2
namespace L2
def nrm(a b:Int):Int×Int:=if b<0 then(a.fdiv (-(Int.gcd a b:Int)),b.fdiv (-(Int.gcd a b:Int))) else(a.fdiv (Int.gcd a b:Int),b.fdiv (Int.gcd a b:Int))
theorem qZ(a b:Int)(h:b≠0):∃(g:Nat) (a' b':Int),0<g/\Int.gcd a b=g/\a=g*a'/\b=g*b'/\Int.gcd a' b'=1/\nrm a b=(if b<0 then(-a',-b') else(a',b')):=by
 have hg:0<Int.gcd a b:=Int.gcd_pos_of_ne_zero_right a h;obtain⟨a',ha⟩:=Int.gcd_dvd_left (a:=a) (b:=b);obtain⟨b',hb⟩:=Int.gcd_dvd_right (a:=a) (b:=b);have hg0:(Int.gcd a b:Int)≠0:=by omega
 refine⟨Int.gcd a b,a',b',hg,rfl,ha,hb,?_,?_⟩
 ·have e:Int.gcd (Int.gcd a b*a') (Int.gcd a b*b')=Int.gcd a b*Int.gcd a' b':=by
   rw[Int.gcd_mul_left];rfl
  rw[<- ha,<- hb] at e;have:Int.gcd a b*1=Int.gcd a b*Int.gcd a' b':=by omega
  exact(Nat.eq_of_mul_eq_mul_left hg this).symm
 ·unfold nrm;generalize hG:(Int.gcd a b:Int)=G at *;have f1:a.fdiv G=a':=by rw[ha];exact Int.mul_fdiv_cancel_left _ hg0
  have f2:b.fdiv G=b':=by rw[hb];exact Int.mul_fdiv_cancel_left _ hg0
  have f3:a.fdiv (-G) = -a':=by rw[ha,show G*a'=(-G)*(-a') by rw[Int.neg_mul_neg]];exact Int.mul_fdiv_cancel_left _ (by omega)
  have f4:b.fdiv (-G) = -b':=by rw[hb,show G*b'=(-G)*(-b') by rw[Int.neg_mul_neg]];exact Int.mul_fdiv_cancel_left _ (by omega)
  rw[f1,f2,f3,f4]
theorem BH(a b:Int)(h:b≠0):0<(nrm a b).2:=by
 obtain⟨g,a',b',hg,_,ha,hb,_,e⟩:=qZ a b h;rw[e]
 by_cases hb0:b<0
 ·rw[if_pos hb0];show 0 < -b';have:¬0<=b':=λz=>by have:=Int.mul_nonneg (show(0:Int)<=g by omega) z;omega
  omega
 ·rw[if_neg hb0];show 0<b';have:¬b'<=0:=λz=>by have:=Int.mul_nonneg (show(0:Int)<=g by omega) (show 0 <= -b' by omega);rw[Int.mul_neg] at this;omega
  omega
theorem vJ(a b:Int)(h:b≠0):Int.gcd (nrm a b).1 (nrm a b).2=1:=by
 obtain⟨g,a',b',hg,_,ha,hb,c,e⟩:=qZ a b h;rw[e]
 split
 ·show Int.gcd (-a') (-b')=1;rw[Int.neg_gcd,Int.gcd_neg];exact c
 ·exact c
theorem iN(g:Nat)(x:Int)(hg:0<g):x.natAbs<=((g:Int)*x).natAbs:=by
 rw[Int.natAbs_mul,Int.natAbs_natCast];exact Nat.le_mul_of_pos_left _ hg
theorem za(a b:Int)(h:b≠0):(nrm a b).1.natAbs<=a.natAbs/\(nrm a b).2.natAbs<=b.natAbs:=by
 obtain⟨g,a',b',hg,_,ha,hb,c,e⟩:=qZ a b h;have h1:=iN g a' hg;have h2:=iN g b' hg;rw[<- ha] at h1;rw[<- hb] at h2;rw[e]
 split
 ·exact⟨by show(-a').natAbs<=_;omega,by show(-b').natAbs<=_;omega⟩
 ·exact⟨h1,h2⟩
theorem nv(a b:Int)(h:0<b):nrm a b=(a,b)↔Int.gcd a b=1:=by
 obtain⟨g,a',b',hg,eg,ha,hb,c,e⟩:=qZ a b (by omega)
 constructor
 ·intro z;have:=vJ a b (by omega)
  rw[z] at this;exact this
 ·intro z;rw[z] at eg;subst eg;rw[e,if_neg (by omega)]
  rw[show a'=a by omega,show b'=b by omega]
end L2
namespace L2
open PySem PySem.Spec PyProof.Rows
theorem yS{K:Frag}{a:Addr}{xs:List V}{te:TE}{Q:VK}{rest:St}{src:List (Option Nat)}{σ:St}{H0:Hp}(f:V->V)(hσ:dC src σ=none::rest)(hx:SqL K H0 a xs)(hl:xs.length<=sizeLine)
  (he:∀(i:Nat) x H (R:VK),xs[i]? = some x->FX H0 H->R (f x) H->te (some x::rest) H R)
  (hd:∀acc H,H0 acc=none->FX H0 H->H acc=some (.lst (xs.map f))->Q (.ref acc) H) :
  da (Itl K a) src (di 0) oh te σ H0 Q:=by
 intro acc hacc;rw[hσ];have hlen:(xs.map f).length=xs.length:=length_map ..;refine gW (n:=xs.length) (λi zs σ H=>FX H0 H/\zs=(xs.map f).take i/\∃u,σ=u::rest) (by omega) ⟨FX.new hacc,rfl,none,rfl⟩ ?_ ?_ ?_ ?_
 ·rintro i zs σ H hi hz ⟨sm,_⟩;exact⟨xs,xs[i],sm.seq hx,by simp⟩
 ·rintro zs σ H hz ⟨sm,_⟩;exact⟨xs,sm.seq hx,Nat.le_refl _⟩
 ·rintro i zs σ H x H' hi hz hzl ⟨sm,ez,u,rfl⟩ ⟨rfl,gx⟩;have hx1:=gx xs (sm.seq hx);show te (some x::rest) _ _;refine he i x _ _ hx1 sm ?_;refine⟨zs,hz,by omega,zs++[f x],FY,by rw[length_append,length_singleton];omega,sm.put hacc,?_,_,rfl⟩
  rw[nB f xs i x hx1,ez]
 ·rintro zs σ H hz hzl ⟨sm,ez,_⟩;refine hd acc H hacc sm ?_;rw[hz,ez,take_of_length_le (by omega)]
end L2
set_option exponentiation.threshold 5000
namespace L2
open PySem PySem.Spec PyProof.Rows
def ji(P:Int)(x y:Int×Int):Int×Int:=if P=0 then nrm (x.1*y.2+y.1*x.2) (x.2*y.2) else((x.1+y.1)%P,1)
def Fu(P:Int)(x y:Int×Int):Int×Int:=if P=0 then nrm (x.1*y.2-y.1*x.2) (x.2*y.2) else((x.1-y.1)%P,1)
def iL(P:Int)(x y:Int×Int):Int×Int:=if P=0 then nrm (x.1*y.1) (x.2*y.2) else((x.1*y.1)%P,1)
def OkN(P:Int)(x:Int×Int):Prop:=(P=0/\0<x.2/\Int.gcd x.1 x.2=1)\/(P≠0/\0<=x.1/\x.1<P/\x.2=1)
theorem qv{a b:Int}(h:b≠0):OkN 0 (nrm a b):=.inl ⟨rfl,BH a b h,vJ a b h⟩
theorem kZ{P a:Int}(h:0<=P)(h0:P≠0):OkN P (a%P,1):=.inr ⟨h0,Int.emod_nonneg a h0,Int.emod_lt_of_pos a (by omega),rfl⟩
theorem OkN.den{P:Int}{x:Int×Int}(h:OkN P x):0<x.2:=by
 rcases h with⟨_,h,_⟩|⟨_,_,_,h⟩<;>omega
theorem jL{x y:Int×Int}(h1:0<x.2)(h2:0<y.2):x.2*y.2≠0:=λz=>by have:=Int.mul_pos h1 h2;omega
theorem BV{P:Int}{x y:Int×Int}(hP:0<=P)(h1:OkN P x)(h2:OkN P y):OkN P (ji P x y):=by
 unfold ji
 split
 ·rename_i h;subst h;exact qv (jL h1.den h2.den)
 ·exact kZ hP ‹_›
theorem Cw{P:Int}{x y:Int×Int}(hP:0<=P)(h1:OkN P x)(h2:OkN P y):OkN P (iL P x y):=by
 unfold iL
 split
 ·rename_i h;subst h;exact qv (jL h1.den h2.den)
 ·exact kZ hP ‹_›
theorem mm{P:Int}(hP:0<=P)(h2:P≠1):OkN P (0,1):=by
 by_cases h:P=0
 ·exact .inl ⟨h,by decide,by decide⟩
 ·exact .inr ⟨h,by decide,by show(0:Int)<P;omega,rfl⟩
def Sz(k:Nat)(x:Int×Int):Prop:=x.1.natAbs<2^k/\x.2.natAbs<2^k
theorem mW{a b:Int}{i j:Nat}(h1:a.natAbs<2^i)(h2:b.natAbs<2^j):(a*b).natAbs<2^(i+j):=by
 rw[Int.natAbs_mul,Nat.pow_add];exact Nat.mul_lt_mul'' h1 h2
theorem EN{a b:Int}{k:Nat}(h1:a.natAbs<2^k)(h2:b.natAbs<2^k):(a+b).natAbs<2^(k+1)/\(a-b).natAbs<2^(k+1):=by
 rw[Nat.pow_succ];omega
theorem jM{i j:Nat}(h:i<=j):2^i<=2^j:=Nat.pow_le_pow_right (by decide) h
theorem Sz.mono{i j:Nat}{x:Int×Int}(h:Sz i x)(hij:i<=j):Sz j x:=⟨Nat.lt_of_lt_of_le h.1 (jM hij),Nat.lt_of_lt_of_le h.2 (jM hij)⟩
theorem lW{a b:Int}{k:Nat}(hb:b≠0)(h1:a.natAbs<2^k)(h2:b.natAbs<2^k):Sz k (nrm a b):=⟨Nat.lt_of_le_of_lt (za a b hb).1 h1,Nat.lt_of_le_of_lt (za a b hb).2 h2⟩
theorem kB{P a:Int}(h:0<=P)(h0:P≠0)(h9:P<=9973){k:Nat}(hk:14<=k):Sz k (a%P,1):=by
 have h1:=Int.emod_nonneg a h0;have h2:=Int.emod_lt_of_pos a (show 0<P by omega)
 have h3:2^14<=2^k:=jM hk;exact⟨by show(a%P).natAbs<2^k;omega,by show(1:Int).natAbs<2^k;omega⟩
theorem Cn{P:Int}{x y:Int×Int}{i j:Nat}(hP:0<=P)(h9:P<=9973)(o1:OkN P x)(o2:OkN P y)(h1:Sz i x)(h2:Sz j y)(hi:14<=i):Sz (i+j+1) (ji P x y)/\Sz (i+j+1) (Fu P x y)/\Sz (i+j+1) (iL P x y):=by
 have d:=jL o1.den o2.den;have m1:=mW h1.1 h2.2;have m2:=mW h2.1 h1.2;rw[Nat.add_comm j i] at m2;have m3:=mW h1.2 h2.2;have m4:=mW h1.1 h2.1;have a:=EN m1 m2;have le:2^(i+j)<=2^(i+j+1):=jM (by omega)
 refine⟨?_,?_,?_⟩
 ·unfold ji
  split
  ·exact lW d a.1 (by omega)
  ·exact kB hP ‹_› h9 (by omega)
 ·unfold Fu
  split
  ·exact lW d a.2 (by omega)
  ·exact kB hP ‹_› h9 (by omega)
 ·unfold iL
  split
  ·exact lW d (by omega) (by omega)
  ·exact kB hP ‹_› h9 (by omega)
structure FunD (K:Frag) (x qual:Str) (st:Stmt) (f:Addr) (fd:FuncData):Prop where
 ex:∃(oc:Value) (od:Option Addr) (dV kV doc pm:Value) (an:Option Addr) (cdv ct:Value) (osl:Array (Option Value)),
  fd=fnOf x qual (aY st) (aQ st) (ah st) dV kV doc pm an cdv ct/\K.lookup f=some ⟨oc,od,.func fd,osl⟩/\codeIn K cdv qual=true
 kp:keepIn K (.ref f)=true
section
variable {P:Program} {w:World} {K:Frag} {mg:Str->Option Value} {base:Heap}
theorem vB{x qual:Str}{st:Stmt}{f:Addr}{oc:Value}{od an:Option Addr}{osl:Array (Option Value)}{dV kV doc pm cdv ct:Value}(l:K.lookup f=some ⟨oc,od,.func (fnOf x qual (aY st) (aQ st) (ah st) dV kV doc pm an cdv ct),osl⟩)
  (c:codeIn K cdv qual=true) (k:keepIn K (.ref f)=true):FunD K x qual st f (fnOf x qual (aY st) (aQ st) (ah st) dV kV doc pm an cdv ct):=⟨⟨oc,od,dV,kV,doc,pm,an,cdv,ct,osl,rfl,l,c⟩,k⟩
end
theorem wA{K:Frag}{a:Addr}{xs:List V}{te:TE}{Q:VK}{rest:St}{src:List (Option Nat)}{σ:St}{H0:Hp}(f:V->V)(hσ:dC src σ=none::rest)(hx:SqL K H0 a xs)(hl:xs.length<=sizeLine)
  (he:∀(i:Nat) x H (R:VK),xs[i]? = some x->FX H0 H->(∀H',FX H H'->R (f x) H')->te (some x::rest) H R)
  (hd:∀acc H,H0 acc=none->FX H0 H->H acc=some (.lst (xs.map f))->Q (.ref acc) H) :
  da (Itl K a) src (di 0) oh te σ H0 Q:=by
 intro acc hacc;rw[hσ];have hlen:(xs.map f).length=xs.length:=length_map ..;refine gW (n:=xs.length) (λi zs σ H=>FX H0 H/\zs=(xs.map f).take i/\∃u,σ=u::rest) (by omega) ⟨FX.new hacc,rfl,none,rfl⟩ ?_ ?_ ?_ ?_
 ·rintro i zs σ H hi hz ⟨sm,_⟩;exact⟨xs,xs[i],sm.seq hx,by simp⟩
 ·rintro zs σ H hz ⟨sm,_⟩;exact⟨xs,sm.seq hx,Nat.le_refl _⟩
 ·rintro i zs σ H x H' hi hz hzl ⟨sm,ez,u,rfl⟩ ⟨rfl,gx⟩;have hx1:=gx xs (sm.seq hx);show te (some x::rest) _ _;refine he i x _ _ hx1 sm λH2 s2=>?_
  refine⟨zs,s2 _ _ hz,by omega,zs++[f x],FY,by rw[length_append,length_singleton];omega,(sm.trans s2).put hacc,?_,_,rfl⟩
  rw[nB f xs i x hx1,ez]
 ·rintro zs σ H hz hzl ⟨sm,ez,_⟩;refine hd acc H hacc sm ?_;rw[hz,ez,take_of_length_le (by omega)]
structure Fly (P:Program) (w:World) (outer:List Env) (H:Hp) (s:Shared) (x:Addr) (cls:Value) (B:Heap) (H':Hp) (s':Shared):Prop where
 os:s'.os=s.os
 bare:AllBare s'.gens
 fly:∃a0,Heap.FlyingW B outer x cls a0 s'.heap
 keep:∀b o,s.heap.get? b=some o->H b=none->b∉frs outer->B.get? b=some o
 there:∀b o,s.heap.get? b=some o->b∉frs outer->∃o',B.get? b=some o'
 slot:∀b o,s.heap.get? b=some o->b∈frs outer->∃sl,s'.heap.get? b=some { o with slots:=sl }
 free:∀b o,s.heap.get? b=some o->H b=none->H' b=none
 tups:∀b xs,H b=some (.tup xs)->H' b=some (.tup xs)
 frzs:∀b o u,H b=some (.frz o u)->H' b=some (.frz o u)
 tbls:∀b ps,H b=some (.tbl ps)->∃more,H' b=some (.tbl (ps++more))
 hok:HOk P w H' B
def CXE(P:Program)(w:World):CXT:=λouter H s E e s'=>∃x cls B H',e=.ref x/\Fly P w outer H s x cls B H' s'/\E cls none H'
theorem cj{X:Cx}{P:Program}{w:World}:dF (CXE P w) X E0:=λ_ _ _ _ _ _ _ ⟨_,_,_,_,_,_,z⟩=>z.elim
theorem F6.obj{P:Program}{w:World}{H:Hp}{h:Heap}{a:Addr}{o:HO}(x:F6 P w H h a o):∃ob,h.get? a=some ob:=by
 cases o with
 |lst xs=>obtain⟨_,_,_,_,e⟩:=x;exact⟨_,e⟩
 |tup xs=>obtain⟨_,_,_,ob,e,_⟩:=x;exact⟨ob,e⟩
 |dK kvs=>obtain⟨_,_,_,_,ob,_,_,e,_⟩:=x;exact⟨_,e⟩
 |dT kvs=>obtain⟨_,_,_,_,ob,_,_,e,_⟩:=x;exact⟨_,e⟩
 |set S n=>obtain⟨ob,_,_,_,e,_⟩:=x;exact⟨_,e⟩
 |ins C dx fs=>obtain⟨_,_,_,e,_⟩:=x;exact⟨_,e⟩
 |own y=>exact x
 |xd fs=>obtain⟨_,⟨_,_,_,e,_⟩,_⟩:=x;exact⟨_,e⟩
 |rng lo hi=>obtain⟨_,_,_,e⟩:=x;exact⟨_,e⟩
 |frz ob u=>obtain⟨e,_⟩:=x;exact⟨_,e⟩
 |tbl ps=>exact⟨_,(show h.get? a=some _ from x)⟩
 |met f y=>exact⟨_,(show h.get? a=some _ from x)⟩
 |ext φ=>obtain⟨_,⟨_,e⟩,_⟩:=x;exact⟨_,e⟩
section
variable {P:Program} {w:World} {K:Frag} {mg:Str->Option Value} {base:Heap} {N:List Str} {qual:Str} {scope:Scope} {f:Addr} {cd:Value} {A:Around} {outer:List Env} {s₀ s:Shared} {H₀ H:Hp} {E:XK} {pins:List (Addr×Obj)} {σ:St}
theorem yX{h':Heap}{e:Addr}{cls:Value}{args:List Value}(I:Inv (dh (CXE P w) P w K mg base N qual scope f cd A outer s₀ H₀ E) pins σ H s)(hx:Heap.MadeExcOf s.heap h' e cls args)(q:E cls none H) :
  (dh (CXE P w) P w K mg base N qual scope f cd A outer s₀ H₀ E).xe (.ref e) { s with heap:=h' }:=by
 show wpAny (model P w) (A.deeper (envOfC qual scope s₀.heap.objs.size f cd)) (leaving (envOfC qual scope s₀.heap.objs.size f cd) (.ref e)) (λ_ s''=>CXE P w outer H₀ s₀ E (.ref e) s'') (λe' s''=>CXE P w outer H₀ s₀ E e' s'') { s with heap:=h' }
 have hst:s.heap.FunFrames base (envOfC qual scope s₀.heap.objs.size f cd::outer):=I.stack;have noEx:∀b:Addr,b∉(dh (CXE P w) P w K mg base N qual scope f cd A outer s₀ H₀ E).ex:=λb z=>absurd (show b∈([]:List Addr) from z) (by simp)
 have nL:∀b o,s₀.heap.get? b=some o->b∉frs outer->b∉frs (envOfC qual scope s₀.heap.objs.size f cd::outer):=λb o e1 hb hm=>by
  rcases List.mem_cons.mp (I.stkSub b hm) with z|z
  ·have hlt:=lt_size e1;rw[show b=s₀.heap.objs.size from z] at hlt
   exact absurd hlt (Nat.lt_irrefl _)
  ·exact hb z
 refine wpAny_leaves_madeW (base:=hideAll s.heap (frs (envOfC qual scope s₀.heap.objs.size f cd::outer))) (h:=s.heap) I.ok.frames rfl (λb o z=>of_hideAll _ z)
  (PySem.W.funFrames_hide hst λenv he a ha=>List.mem_filterMap.mpr ⟨env,he,ha⟩) hx λh'' t fl _ _ up=>?_
 refine⟨e,cls,_,H,rfl,⟨I.os,I.bare,⟨_,fl⟩,λb o e1 n hb=>?_,λb o e1 hb=>?_,λb o e1 hb=>?_,λb o e1 n=>I.base.free b o e1 n (noEx b),I.base.tups,I.base.frzs,I.base.tbls,λa ob ea=>?_⟩,q⟩
 ·exact hideAll_get _ (I.base.keep b o e1 n hb (noEx b)) (nL b o e1 hb)
 ·obtain⟨o',e2⟩:=I.base.there b o e1 (noEx b);exact⟨o',hideAll_get _ e2 (nL b o e1 hb)⟩
 ·obtain⟨sl,e2⟩:=I.base.slot b o e1 (I.ok.frf b hb) hb (noEx b);obtain⟨_,o3,e3,hd⟩:=I.ok.funs.mem hb;have e1':(dh (CXE P w) P w K mg base N qual scope f cd A outer s₀ H₀ E).s₀.heap.get? b=some o:=e1;rw[e1'] at e3;cases e3;obtain⟨sl2,e4⟩:=up b _ (hx.keeps b _ e2) hd;exact⟨sl2,e4⟩
 ·refine(I.hok a ob ea).stay (λb u hb e2=>hideAll_get _ e2 λhm=>?_) (λ_ z=>z) λ_ _ z=>z
  have hn:=I.stkFree b hm
  rcases hb with z|z
  ·rw[z,ea] at hn;cases hn
  ·rw[z] at hn;cases hn
theorem bQ:dF (CXE P w) (dh (CXE P w) P w K mg base N qual scope f cd A outer s₀ H₀ E) E:=by
 intro pins σ H s e s' I hx;obtain⟨x,cls,B,H',rfl,F,q⟩:=hx;show wpAny (model P w) (A.deeper (envOfC qual scope s₀.heap.objs.size f cd)) (leaving (envOfC qual scope s₀.heap.objs.size f cd) (.ref x)) (λ_ s''=>CXE P w outer H₀ s₀ E (.ref x) s'') (λe' s''=>CXE P w outer H₀ s₀ E e' s'') s'
 have noEx:∀b:Addr,b∉(dh (CXE P w) P w K mg base N qual scope f cd A outer s₀ H₀ E).ex:=λb z=>absurd (show b∈([]:List Addr) from z) (by simp)
 have nL:∀b o,s₀.heap.get? b=some o->b∉frs outer->b∉frs (envOfC qual scope s₀.heap.objs.size f cd::outer):=λb o e1 hb hm=>by
  rcases List.mem_cons.mp (I.stkSub b hm) with z|z
  ·have hlt:=lt_size e1;rw[show b=s₀.heap.objs.size from z] at hlt
   exact absurd hlt (Nat.lt_irrefl _)
  ·exact hb z
 obtain⟨a0,fl⟩:=F.fly;refine wpAny_leaves_onW (base:=B) I.ok.frames rfl fl λh'' fl2 up=>?_
 refine⟨x,cls,B,H',rfl,⟨F.os.trans I.os,F.bare,⟨_,fl2⟩,λb o e1 n hb=>?_,λb o e1 hb=>?_,λb o e1 hb=>?_,λb o e1 n=>?_,λb xs e1=>F.tups b xs (I.base.tups b xs e1),λb o u e1=>F.frzs b o u (I.base.frzs b o u e1),λb ps e1=>?_,F.hok⟩,q⟩
 ·exact F.keep b o (I.base.keep b o e1 n hb (noEx b)) (I.base.free b o e1 n (noEx b)) (nL b o e1 hb)
 ·obtain⟨o',e2⟩:=I.base.there b o e1 (noEx b);exact F.there b o' e2 (nL b o e1 hb)
 ·obtain⟨sl,e2⟩:=I.base.slot b o e1 (I.ok.frf b hb) hb (noEx b);obtain⟨_,o3,e3,hd⟩:=I.ok.funs.mem hb;have e1':(dh (CXE P w) P w K mg base N qual scope f cd A outer s₀ H₀ E).s₀.heap.get? b=some o:=e1;rw[e1'] at e3;cases e3;have hb':b∈frs (envOfC qual scope s₀.heap.objs.size f cd::outer):=by
   obtain⟨env,he,hf⟩:=List.mem_filterMap.mp hb;exact List.mem_filterMap.mpr ⟨env,mem_cons_of_mem _ he,hf⟩
  obtain⟨sl2,e4⟩:=F.slot b _ e2 hb';obtain⟨sl3,e5⟩:=up b _ e4 hd;exact⟨sl3,e5⟩
 ·obtain⟨o',e2⟩:=I.base.there b o e1 (noEx b);exact F.free b o' e2 (I.base.free b o e1 n (noEx b))
 ·obtain⟨m1,e2⟩:=I.base.tbls b ps e1;obtain⟨m2,e3⟩:=F.tbls b _ e2;exact⟨m1++m2,by rw[e3,Array.append_assoc]⟩
end
abbrev kz:List Value:=[.type "ValueError",.type "Exception",.type "BaseException",.type "object"]
abbrev Br(K:Frag)(C:Addr):Prop:=excIn K C kz "ValueError.__new__"=true
theorem qF{K:Frag}{h:Heap}{C:Addr}(X:K.In h)(q:Br K C):∃bm N nm qn bs hdct sn sub ab col dd k0 k1 k2 k3 k5 mN,
  h.get? C=some (excClassObj nm qn C N bs bm hdct sn sub ab col dd k0 k1 k2 k3 k5 "ValueError.__new__")/\h.Ns N mN/\mN "__init__" = none/\OwnTail h kz bm:=by
 have q':=q;unfold Br excIn at q';cases hl:K.lookup C with
 |none=>rw[hl] at q';cases q'
 |some ob=>
  rw[hl] at q';obtain⟨oc,od,oda,osl⟩:=ob
  split at q'
  ·rename_i dz cz sz heq;cases heq
   split at q'
   ·rename_i Cz bz z0 z1 z2 z3 nz z5 hm hs;rw[Bool.and_eq_true,Bool.and_eq_true,Bool.and_eq_true,Bool.and_eq_true,Bool.and_eq_true] at q';obtain⟨⟨⟨⟨⟨w1,w2⟩,w3⟩,w4⟩,w5⟩,w6⟩:=q';obtain⟨c1,c2,c3,c4,c5,c6,c7,c8,c9,c10,c11⟩:=cz;have e1:=beq_iff_eq.mp w1;have e2:=beq_iff_eq.mp w2;have e6:=beq_iff_eq.mp w6;have e3:c11=false:=by simpa using w3
    have em:c3=.ref Cz::bz:=hm;subst e1 e2 e3 em;have es:osl = #[z0,z1,z2,z3,some (.builtin "ValueError.__new__"),z5]:=by
     cases osl;simp only at hs;rw[hs]
    subst es;exact⟨bz,_,_,_,_,_,_,_,_,_,_,_,_,_,_,_,_,X _ _ hl,.of_isNs (PySem.W.isNs_of_in X w5),PySem.W.nsMap_none_of_in X w5 e6,PySem.W.tail_of_in X w4⟩
   ·cases q'
  ·cases q'
def DM(E:XK)(C:Addr)(t:TA):TS:=λ_ σ H=>t σ H λvs H1=>vs.length<=sizeLine/\E (.ref C) none H1
section
variable {P:Program} {w:World} {K:Frag} {mg:Str->Option Value} {base:Heap} {N:List Str} {qual:Str} {scope:Scope} {f:Addr} {cd:Value} {A:Around} {outer:List Env} {s₀:Shared} {H₀:Hp} {E:XK}
theorem bT{C:Addr}{x:Str}{np cpos pos:Pos}{e₀:Expr}{es:List Expr}{t:TA}(hC:Br K C)(hm:mg x=some (.ref C))(ha:PA (dh (CXE P w) P w K mg base N qual scope f cd A outer s₀ H₀ E) (e₀::es) t)
  (hg:Gl (dh (CXE P w) P w K mg base N qual scope f cd A outer s₀ H₀ E) x:=by rfl) (hd:(x==("__debug__" : Str))=false:=by decide)
  (he:starEach (e₀::es) (dh (CXE P w) P w K mg base N qual scope f cd A outer s₀ H₀ E).env=(false,eval e₀ (dh (CXE P w) P w K mg base N qual scope f cd A outer s₀ H₀ E).env)::starEach es (dh (CXE P w) P w K mg base N qual scope f cd A outer s₀ H₀ E).env:=by rfl)
  (hpl:(backTo cpos (starEach es (dh (CXE P w) P w K mg base N qual scope f cd A outer s₀ H₀ E).env)).any (·.1)=false:=by rfl) :
  PS (dh (CXE P w) P w K mg base N qual scope f cd A outer s₀ H₀ E) (.Raise (some (.Call (.Name x np) (e₀::es) [] cpos)) none pos) (DM E C t):=by
 intro pins s σ H D I h;obtain⟨bm,Nn,nm,qn,bs,hdct,sn,sub,ab,col,dd,k0,k1,k2,k3,k5,mN,hCo,hN,hni,T⟩:=qF I.mod.kin hC;have any0:(backTo cpos (starEach (e₀::es) (dh (CXE P w) P w K mg base N qual scope f cd A outer s₀ H₀ E).env)).any (·.1)=false:=by
  rw[he];show(false || (backTo cpos (starEach es _)).any (·.1))=false
  rw[hpl];rfl
 refine wpAny_Raise_call_subU (C:=C) (nm:=nm) (q:=qn) (N:=Nn) (bs:=bs) (bm:=bm) (hdct:=hdct) (sn:=sn) (sub:=sub) (ab:=ab) (col:=col) (dd:=dd) (k0:=k0) (k1:=k1) (k2:=k2) (k3:=k3) (k5:=k5)
  PySem.F.excBase_ValueError (bmB:=kz) (by decide +kernel) PySem.F.excBase_ValueError (mN:=mN) (T.hasType PySem.F.excBase_ValueError.hasBase) (I.ok.hd rfl) any0 hni (fh I hg hm ⟨rfl,?_⟩ hd)
 have a1:=ha cpos pins s σ H _ I h;rw[he] at a1 ⊢;refine Calls.evalArgs_plain (wpAny_mono a1 (λus s2 z=>?_) λ_ _ z=>z)
 obtain⟨vs,H2,I2,r,hlen,q⟩:=z;exact⟨rfl,by rw[<- r.length];exact hlen,I2.bk _ _ hCo,hN.keeps I2.bk,T.keeps I2.bk,λh' e mk=>yX I2 mk q⟩
end
section
variable {P:Program} {w:World} {K:Frag} {mg:Str->Option Value} {base:Heap}
theorem Fun.okX{x qual:Str}{st:Stmt}{f:Addr}{fd:FuncData}{N ps:List Str}{k:Nat}{sp:Sp}(F:Fun K x qual st f fd)(S:FZ N ps (ah st))(len:∀vs H Q E,sp vs H Q E->vs.length=ps.length)
  (hbody:∀(cdv:Value) (A:Around) (outer:List Env) (s:Shared) (H:Hp) (vs:List V) (Q:VK) (E:XK),F5 k (A.deeper (envOfC qual (ah st) s.heap.objs.size f cdv))->sp vs H Q E->
   ∃t,PSs (dh (CXE P w) P w K mg base N qual (ah st) f cdv A outer s H E) (aQ st) t/\t { nx:=λ_ H'=>Q .non H',rt:=Q } (eZ N vs) H):F2 P w K mg base (CXE P w) (k+1) f fd ps sp:=by
 obtain⟨oc,od,kV,doc,pm,an,cdv,ct,osl,rfl,lk,hcd⟩:=F.ex;exact AM lk hcd S len λA outer s H vs Q E hr hsp=>hbody cdv A outer s H vs Q E hr hsp
theorem FunD.okX{x qual:Str}{st:Stmt}{f:Addr}{fd:FuncData}{N ps:List Str}{k:Nat}{sp:Sp}(F:FunD K x qual st f fd)(S:FZ N ps (ah st))(len:∀vs H Q E,sp vs H Q E->vs.length=ps.length)
  (hbody:∀(cdv:Value) (A:Around) (outer:List Env) (s:Shared) (H:Hp) (vs:List V) (Q:VK) (E:XK),F5 k (A.deeper (envOfC qual (ah st) s.heap.objs.size f cdv))->sp vs H Q E->
   ∃t,PSs (dh (CXE P w) P w K mg base N qual (ah st) f cdv A outer s H E) (aQ st) t/\t { nx:=λ_ H'=>Q .non H',rt:=Q } (eZ N vs) H):F2 P w K mg base (CXE P w) (k+1) f fd ps sp:=by
 obtain⟨oc,od,dV,kV,doc,pm,an,cdv,ct,osl,rfl,lk,hcd⟩:=F.ex;exact AM lk hcd S len λA outer s H vs Q E hr hsp=>hbody cdv A outer s H vs Q E hr hsp
end
structure cS (P:Program) (w:World) (K:Frag) (mg:Str->Option Value) (base:Heap) (k:Nat) (x:Str) (sp:Sp):Prop where
 ex:∃f fd ps,F2 P w K mg base (CXE P w) k f fd ps sp/\mg x=some (.ref f)/\keepIn K (.ref f)=true/\Gf K fd ps []
structure fW (P:Program) (w:World) (K:Frag) (mg:Str->Option Value) (base:Heap) (k:Nat) (C:Addr) (m:Str) (dvs:List V) (sp:Sp):Prop where
 ex:∃f fd ps ds,F2 P w K mg base (CXE P w) k f fd ps sp/\gB K C m f/\Gf K fd ps ds/\F1 dvs ds
 cl:Cls K C
structure Bx (P:Program) (w:World) (K:Frag) (mg:Str->Option Value) (base:Heap) (k:Nat) (C:Addr) (x:Str) (sp:Sp):Prop where
 ex:∃f fd ps,F2 P w K mg base (CXE P w) k f fd ps sp/\Mk K C f/\Gf K fd ps []
 at_:mg x=some (.ref C)
section
variable {X:Cx} {C:Addr} {x m:Str} {k:Nat} {sp:Sp} {dvs:List V} {p pos apos:Pos} {e o:Expr} {es:List Expr} {te ta:TE} {t:TA} {E:XK}
theorem cO(F:cS X.prog X.w X.K X.mg X.base k x sp)(hr:F5 k X.A)(hx:dF (CXE X.prog X.w) X E)(ha:PA X (e::es) t)(hg:Gl X x:=by rfl)(hdb:(x==("__debug__" : Str))=false:=by decide)
  (he:starEach (e::es) X.env=(false,eval e X.env)::starEach es X.env:=by rfl) (hpl:(backTo pos (starEach es X.env)).any (·.1)=false:=by rfl) :
  PE X (.Call (.Name x p) (e::es) [] pos) (mf sp [] E t):=by
 obtain⟨f,fd,ps,F,hm,hk,hb⟩:=F.ex;exact uT F hr hg hm hk hb .nil hx ha hdb he hpl
theorem de{pl:Sem Bool}(M:fW X.prog X.w X.K X.mg X.base k C m dvs sp)(hr:F5 k X.A)(hx:dF (CXE X.prog X.w) X E)(he:PE X o ta)(ha:PA X (e::es) t)
  (hst:starEach (e::es) X.env=(false,eval e X.env)::starEach es X.env:=by rfl) (hpl:(backTo pos (starEach es X.env)).any (·.1)=false:=by rfl)
  (ht:eval (.Call (.Attribute o m apos) (e::es) [] pos) X.env=(do
   let ov <- eval o X.env
   standAt apos.atName
   let (f,first) <- holding [ov] (getMethod ov m pl)
   callWith pos f first (backTo pos (starEach (e::es) X.env)) (backToKw pos (keywordEach [] X.env))):=by rfl) :
  PE X (.Call (.Attribute o m apos) (e::es) [] pos) (ig C m sp dvs E ta t):=by
 obtain⟨f,fd,ps,ds,F,hm,hb,hv⟩:=M.ex;exact vm he M.cl hm F hr hb hv hx ha hst hpl ht
theorem tY(M:Bx X.prog X.w X.K X.mg X.base k C x sp)(hr:F5 (k+1) X.A)(hx:dF (CXE X.prog X.w) X E)(ha:PA X (e::es) t)(hg:Gl X x:=by rfl)(hdb:(x==("__debug__" : Str))=false:=by decide)
  (he:starEach (e::es) X.env=(false,eval e X.env)::starEach es X.env:=by rfl) (hpl:(backTo pos (starEach es X.env)).any (·.1)=false:=by rfl) :
  PE X (.Call (.Name x p) (e::es) [] pos) (yA C sp [] E t):=by
 obtain⟨f,fd,ps,F,hm,hb⟩:=M.ex;exact vM hm F hr hg M.at_ hb .nil hx ha hdb he hpl
end
def yN(x C:Addr):HO:=.ext λh=>∃oe,h.get? x=some oe/\oe.cls=.ref C
def XQ(X:Cx)(pins:List (Addr×Obj))(σ:St)(EX:XK)(e:Value)(s':Shared):Prop:=∃H1 s1,Inv X pins σ H1 s1/\CXE X.prog X.w X.stack H1 s1 EX e s'
def PEX(X:Cx)(e:Expr)(t:XK->TE):Prop:=
 ∀(pins:List (Addr×Obj)) (s:Shared) (σ:St) (H:Hp) (Q:VK) (EX:XK),Inv X pins σ H s->t EX σ H Q->wpAny (model X.prog X.w) X.A (eval e X.env) (EP X pins σ Q) (XQ X pins σ EX) s
def PSX(X:Cx)(st:List Stmt)(t:XK->TS):Prop:=
 ∀(pins:List (Addr×Obj)) (s:Shared) (σ:St) (H:Hp) (D:fJ) (EX:XK),Inv X pins σ H s->t EX D σ H->wpAny (model X.prog X.w) X.A (execs st X.env) (SP X pins D) (XQ X pins σ EX) s
section
variable {X:Cx} {C:Addr} {x m:Str} {k:Nat} {sp:Sp} {dvs:List V} {ds:List Value} {p pos apos:Pos} {e o:Expr} {es:List Expr} {te ta:TE} {t:TA} {E:XK} {f:Addr} {fd:FuncData} {ps:List Str}
theorem Bo{pins:List (Addr×Obj)}{σ:St}{H:Hp}{s:Shared}{Q:VK}{us:List Value}{vs:List V}(F:F2 X.prog X.w X.K X.mg X.base (CXE X.prog X.w) k f fd ps sp)(hr:F5 k X.A)(hb:Gf X.K fd ps ds)(hd:F1 dvs ds)
  (I:Inv X pins σ H s) (r:F1 vs us) (h:sp (vs++dvs) H Q E):wpAny (model X.prog X.w) X.A (call (.ref f) us) (EP X pins σ Q) (XQ X pins σ E) s:=by
 have r2:F1 (vs++dvs) (us++ds):=r.append hd;have hl:(us++ds).length=ps.length:=by rw[<- r2.length];exact F.len _ _ _ _ h
 refine wpAny_call (codeAny_mono (F.run X.A X.stack s H ⟨us,[]⟩ (us++ds) (vs++dvs) Q E hr I.env0 (hb s us I.kIn hl) r2 h) λr s' hq=>?_)
 cases r with
 |error e=>exact⟨H,s,I,hq⟩
 |ok fl=>
  cases fl with
  |ret u=>exact I.after hq
  |next=>exact False.elim hq
  |brk=>exact False.elim hq
  |cont=>exact False.elim hq
theorem tT(F:cS X.prog X.w X.K X.mg X.base k x sp)(hr:F5 k X.A)(ha:PA X.nox (e::es) t)(hg:Gl X x:=by rfl)(hdb:(x==("__debug__" : Str))=false:=by decide)
  (he:starEach (e::es) X.env=(false,eval e X.env)::starEach es X.env:=by rfl) (hpl:(backTo pos (starEach es X.env)).any (·.1)=false:=by rfl) :
  PEX X (.Call (.Name x p) (e::es) [] pos) (λEX=>mf sp [] EX t):=by
 obtain⟨f,fd,ps,F,hm,hk,hb⟩:=F.ex;intro pins s σ H Q EX I h;refine wpAny_Call_Name_kw (fh I hg hm ?_ hdb);refine callWith_K (h₀:=X.base) I.ok.mod.kin hk (wpAny_mono (ha pos pins s σ H _ (I.wish _) h) (λus s1 z=>?_) λ_ _ z=>False.elim z) he hpl
 obtain⟨vs,H1,I1,r,q⟩:=z;exact⟨I1.kIn,Bo F hr hb .nil I1.unwish r q⟩
theorem mF{t:XK->TE}(he:PEX X e t)(hs:swapsWith e none pos.line X.env=pure false:=by rfl):PSX X [.Expr e pos] (λEX=>yb (t EX)):=by
 intro pins s σ H D EX I h;refine wpAny_execs_cons (thn (Q:=SP X pins D) ?_ λf s1 q=>?_)
 ·exact wpAny_Expr_any (thn (he pins s σ H _ EX I h) λv s1 ⟨y,H1,I1,r1,q1⟩=>⟨σ,H1,I1,q1⟩) I.quiet hs
 ·cases f with
  |next=>exact wpAny_execs_nil q
  |ret v=>exact q
  |brk=>exact q
  |cont=>exact q
end
abbrev Cx.caught(X:Cx)(x:Addr):Cx:={ X with A:=X.A.mark (some (.ref x)),calm:=false,xe:=λ_ _=>False }
section
variable {X:Cx} {pins:List (Addr×Obj)} {σ:St} {H H1 H':Hp} {s s1 s':Shared} {x C:Addr} {cls:Value} {B h:Heap}
theorem Inv.caught(I:Inv X pins σ H s)(x:Addr):Inv (X.caught x) pins σ H s:=
 have ok:=I.ok
 ⟨⟨ok.mod,ok.kind,ok.glob,ok.blt,ok.above,ok.inj,ok.has,ok.cab,(λz=>nomatch z),ok.frames,ok.stk,ok.exf,ok.bs,ok.bsz,ok.noex,ok.exfs,ok.funs,ok.frf⟩,I.os,I.bare,I.base,I.loc,I.cell,I.free,I.freeC,I.pin,I.hok,I.len⟩
theorem Inv.uncaught(I:Inv (X.caught x) pins σ H s)(hd:X.calm=true->X.A.handled=none):Inv X pins σ H s:=
 have ok:=I.ok
 ⟨⟨ok.mod,ok.kind,ok.glob,ok.blt,ok.above,ok.inj,ok.has,ok.cab,hd,ok.frames,ok.stk,ok.exf,ok.bs,ok.bsz,ok.noex,ok.exfs,ok.funs,ok.frf⟩,I.os,I.bare,I.base,I.loc,I.cell,I.free,I.freeC,I.pin,I.hok,I.len⟩
theorem Fly.newB(F:Fly X.prog X.w X.stack H1 s1 x cls B H' s'):B.get? x=none:=by
 obtain⟨a0,fl⟩:=F.fly;exact fl.2.1
theorem Fly.newH(F:Fly X.prog X.w X.stack H1 s1 x cls B H' s'):H' x=none:=by
 cases e:H' x with
 |none=>rfl
 |some ob=>
  obtain⟨o,eo⟩:=(F.hok x ob e).obj;rw[F.newB] at eo;cases eo
theorem Fly.newS(I:Inv X pins σ H1 s1)(F:Fly X.prog X.w X.stack H1 s1 x cls B H' s'):s1.heap.get? x=none:=by
 cases e:s1.heap.get? x with
 |none=>rfl
 |some ob=>
  by_cases hm:x∈frs X.stack
  ·obtain⟨_,o3,e3,hd⟩:=I.stack.mem hm;rw[e] at e3;cases e3;obtain⟨sl,e4⟩:=F.slot x ob e hm;obtain⟨a0,fl⟩:=F.fly;obtain⟨oe,vs,T,oT,ts,he,_,hdd,_⟩:=fl.2.2.2;rw[e4] at he;cases he;exact absurd hdd (hd vs)
  ·obtain⟨o,eo⟩:=F.there x ob e hm;rw[F.newB] at eo;cases eo
theorem Fly.un(I:Inv X pins σ H1 s1)(F:Fly X.prog X.w X.stack H1 s1 x cls B H' s')(st:B.StaysIn h)(up:s'.heap.UpToSlots h):Un (frs X.stack) [] H1 H' s1.heap h where
 keep:=λb o e n hb _=>st b o (F.keep b o e n hb)
 slot:=λb o e n hb _=>by
  obtain⟨sl,e2⟩:=F.slot b o e hb;obtain⟨_,o3,e3,hd⟩:=I.stack.mem hb;rw[e] at e3;cases e3;obtain⟨sl2,e4⟩:=up b _ e2 hd;exact⟨sl2,e4⟩
 free:=λb o e n _=>F.free b o e n
 there:=λb o e _=>by
  by_cases hb:b∈frs X.stack
  ·obtain⟨sl,e2⟩:=F.slot b o e hb;obtain⟨_,o3,e3,hd⟩:=I.stack.mem hb;rw[e] at e3;cases e3;obtain⟨sl2,e4⟩:=up b _ e2 hd;exact⟨_,e4⟩
  ·obtain⟨o',e2⟩:=F.there b o e hb;exact⟨o',st _ _ e2⟩
 tups:=F.tups
 frzs:=F.frzs
 tbls:=F.tbls
theorem Inv.fly(I:Inv X pins σ H1 s1)(F:Fly X.prog X.w X.stack H1 s1 x cls B H' s')(st:B.StaysIn h)(up:s'.heap.UpToSlots h):Inv X pins σ H' { s' with heap:=h }:=
 Inv.call' (s':={ s' with heap:=h }) (ch:=[]) I F.os (Fly.un I F st up) (F.hok.kept st) F.bare λb hb=>absurd hb (by simp)
theorem Inv.flyX(I:Inv X pins σ H1 s1)(F:Fly X.prog X.w X.stack H1 s1 x cls B H' s')(st:B.StaysIn h)(up:s'.heap.UpToSlots h)(hx:∃oe,h.get? x=some oe/\oe.cls=.ref C) :
  Inv X pins σ (upd H' x (yN x C)) { s' with heap:=h }:=by
 have u:=Fly.un I F st up;have nS:=Fly.newS I F;have nH:=F.newH;refine Inv.call' (s':={ s' with heap:=h }) (ch:=[]) I F.os ⟨u.keep,u.slot,λb o e n hx'=>?_,u.there,λb xs e=>?_,λb o v e=>?_,λb ps e=>?_⟩ (λb ob e=>?_) F.bare λb hb=>absurd hb (by simp)
 ·rw[ar (λz=>by rw[z,nS] at e;cases e)]
  exact u.free b o e n hx'
 ·have e2:=u.tups b xs e;rw[ar (al e2 nH)];exact e2
 ·have e2:=u.frzs b o v e;rw[ar (al e2 nH)];exact e2
 ·obtain⟨mo,e2⟩:=u.tbls b ps e;exact⟨mo,by rw[ar (al e2 nH)];exact e2⟩
 ·by_cases hb:b=x
  ·subst hb;rw[FY] at e;cases e;obtain⟨oe,h1,h2⟩:=hx;exact⟨⟨oe,h1,h2⟩,⟨oe,h1⟩,λg1 g2 ⟨o1,z1,z2⟩ k=>⟨o1,k _ z1,z2⟩⟩
  ·rw[ar hb] at e;exact(F.hok b ob e).stay (λc v _ z=>st c v z) (λc z=>by rw[ar (al z nH)];exact z) λc xs z=>by rw[ar (al z nH)];exact z
theorem Inv.gone{m':Str->Option Value}{tk:Nat}(I:Inv X pins σ H s)(hn:h.Ns X.env.locals m')(sb:Heap.SameBut X.env.locals s.heap h):Inv X pins (σ.map λ_=>none) H { s with heap:=h,toks:=tk }:=by
 have neL:∀b o,X.s₀.heap.get? b=some o->b≠X.env.locals:=λb o e=>Nat.ne_of_lt (Nat.lt_of_lt_of_le (lt_size e) I.ok.above)
 obtain⟨m,⟨oL,es,ep,hoL,rL⟩,_⟩:=id I.loc;obtain⟨oL',es',ep',hoL',_⟩:=id hn;refine⟨I.ok,I.os,I.bare,⟨λb o e n hb hx=>(sb.2 b (neL b o e)).trans (I.base.keep b o e n hb hx),λb o e n hb hx=>?_,I.base.free,λb o e hx=>?_,I.base.tups,I.base.frzs,I.base.tbls⟩,⟨m',hn,λi y v e1 e2 _=>?_⟩,λy c e=>?_,I.free,I.freeC,λp hp=>?_,λb ob e=>?_,?_⟩
 ·obtain⟨sl,e1⟩:=I.base.slot b o e n hb hx;exact⟨sl,(sb.2 b (neL b o e)).trans e1⟩
 ·obtain⟨o',e1⟩:=I.base.there b o e hx;exact⟨o',(sb.2 b (neL b o e)).trans e1⟩
 ·rw[getElem?_map] at e2;cases z:σ[i]? with
  |none=>rw[z] at e2;cases e2
  |some o=>rw[z] at e2;cases e2
 ·obtain⟨v,z⟩:=I.cell y c e;exact⟨v,z.sameBut sb (I.cne y c e)⟩
 ·obtain⟨e,n,ne,nf,d⟩:=I.pin p hp;exact⟨(sb.2 p.1 ne).trans e,n,ne,nf,d⟩
 ·refine(I.hok b ob e).stay (λc v hc z=>(sb.2 c λq=>?_).trans z) (λ_ z=>z) λ_ _ z=>z
  have hf:=I.free;rw[<- q] at hf
  rcases hc with z2|z2
  ·rw[z2,e] at hf;cases hf
  ·rw[hf] at z2;cases z2
 ·rw[length_map];exact I.len
end
def tTry(K:Frag)(CL:Addr)(i:Nat)(tb:XK->TS)(th:TS):TS:=λD σ H=>tb (λcls _ H'=>∃C,cls=.ref C/\PySem.W.exmOne K (.ref C) (.ref CL)=some true/\
 ∀x,H' x=none->th { nx:=λσ' H2=>D.nx (σ'.map λ_=>none) H2,rt:=D.rt } (σ.set i (some (.ref x))) (upd H' x (yN x C))) D σ H
theorem DO{X:Cx}{K:Frag}{i:Nat}{cn n:Str}{np hpos pos:Pos}{CL:Addr}{body:List Stmt}{b₀:Stmt}{suite:List Stmt}{tb:XK->TS}{th:TS}(hK:X.K=K)(hN:X.N.Nodup)(hi:X.N[i]? = some n)(hm:X.mg cn=some (.ref CL))
  (hb:PSX X body tb) (hs:∀x,PSs (X.caught x) (b₀::suite) th) (hl:X.env.scope.names.lookup n=some .local:=by rfl) (hg:Gl X cn:=by rfl) (hstk:X.stack=X.env::X.outer:=by rfl) (hfr:X.env.frame=some X.env.locals:=by rfl) (hdb:(cn==("__debug__" : Str))=false:=by decide) :
  PS X (.Try body [.ExceptHandler (some (.Name cn np)) (some n) (b₀::suite) hpos] [] [] pos) (tTry K CL i tb th):=by
 subst hK;intro pins s σ H D I h;refine wpAny_Try_except (wpAny_mono (hb pins s σ H D _ I h) (λf s1 q=>?_) λe s1 q=>?_)
 ·cases f with
  |next=>exact wpAny_execs_nil q
  |ret v=>exact q
  |brk=>exact q
  |cont=>exact q
 obtain⟨H1,s0,I0,x,cls,B,H',rfl,F,C,rfl,hex,hth⟩:=q;obtain⟨a0,fl⟩:=F.fly;have frm:X.A.frames=some (X.env::X.outer):=by rw[I.ok.frames,hstk]
 rw[hstk] at fl;refine wpAny_looks_onW (base:=B) frm hfr fl λh4 held4 up4=>?_
 refine wpAny_landsW held4 λh5 fl5 up5'=>?_
 have up5:=up4.trans up5';have I5:=(I0.fly F fl5.1 up5).caught x;have hX:∃oe,h5.get? x=some oe/\oe.cls=.ref C:=fl5.there
 refine wpAny_handleBy_cons (codeAny_handlers_test (fh (X:=X.caught x) I5 hg hm ?_ hdb)) (by intro q;cases q)
 obtain⟨oe,ho1,ho2⟩:=hX;have LT:Looks (model X.prog X.w) h5 (typeOf (.ref x)) (.ref C):=ho2▸(PySem.W.Looks.ld ho1).andThen .now;refine(PySem.W.exm_one I5.kIn LT hex).here ?_;refine codeAny_handlers_suite_as ?_;refine lands_againW fl5 λh6 fl6 up6=>?_
 have I6:=(I0.flyX (C:=C) F fl6.1 (up5.trans up6) fl6.there).caught x;refine nu (X:=X.caught x) (v:=.ref x) I6 hN hi (.inl hl) rfl (λs7 I7=>?_) (.inr hl)
 refine wpAny_mono (hs x pins s7 _ _ _ I7 (hth x F.newH)) (λf s8 q8=>?_) λ_ _ z=>False.elim z
 have lo:X.env.kindOf n=some .local:=hl;have cl0:(X.env.scope.kind == .class || (X.env.scope.kind == .module&&X.env.locals != X.env.globals))=false:=by rw[I.ok.kind];rfl
 show wpAny _ X.A (do bindName X.env n .none;unbindBehindTheSuite X.env n hpos) (λ_ s3=>SP X pins D f s3) X.xe s8
 cases f with
 |next=>
  obtain⟨σ',H2,J,q⟩:=q8;have J:=J.uncaught I.ok.hd;obtain⟨m,hn,_⟩:=id J.loc;exact wpAny_nameGoes lo hn cl0 λh9 m9 hn9 sb9=>⟨_,H2,J.gone hn9 sb9,q⟩
 |brk=>obtain⟨_,_,_,q⟩:=q8;exact False.elim q
 |cont=>obtain⟨_,_,_,q⟩:=q8;exact False.elim q
 |ret u=>
  obtain⟨v,σ',H2,J,r,q⟩:=q8;have J:=J.uncaught I.ok.hd;obtain⟨m,hn,_⟩:=id J.loc;exact wpAny_nameGoes lo hn cl0 λh9 m9 hn9 sb9=>⟨v,_,H2,J.gone hn9 sb9,r,q⟩
structure XCl (K:Frag) (D:Addr):Prop where
 ek:Br K D
 ga:findIn K (.ref D) "__getattribute__"=some (some (.builtin "BaseException.__getattribute__"))
 gt:findIn K (.ref D) "__getattr__"=some none
 ca:findIn K (.ref D) "__class__"=some (some (.builtin "object.__class__"))
 mo:mroIn K D (.type "object")=some true
 mb:mroIn K D (.type "BaseException")=some true
 dg:specialIn K (.builtin "object.__class__") "__get__"=some (some (.builtin "getset_descriptor.__get__"))
 dt:takesIn K (.builtin "object.__class__")=some true
section
variable {prog:Program} {w:World} {A:Around} {E:Value->Shared->Prop} {s:Shared} {K:Frag} {x D:Addr}
theorem oi{R:Result->Shared->Prop}{tp:Value}(X:K.In s.heap)(c:XCl K D)(LT:Looks (model prog w) s.heap (typeOf (.ref x)) (.ref D))(h:R (.ok (.ret (.ref D))) s) :
  codeAny (model prog w) A (.call (.builtin "getset_descriptor.__get__") ⟨[.builtin "object.__class__",.ref x,tp],[]⟩) R s:=by
 obtain⟨hh,gg,dr,tt,oo⟩:=s;have LM:=PySem.W.looks_mroIn (M:=model prog w) X c.mo;refine codeAny_call_builtin PySem.W.KF.slot_gs.plain PySem.W.KF.entry_gs (PySem.W.KF.slot_gs.check _ _ _ _ _ _ _ _ PySem.W.KF.type_class (PySem.W.KF.args_gs _ _ _) ?_);unfold Builtin.«getset_descriptor.__get__» Builtin.Getset_descriptor.descrGet;rw[PySem.W.dga_obj];refine wpAny_bind (wpAny_pure ?_);unfold Builtin.Getset_descriptor.descrGetter Builtin.Getset_descriptor.descrCheckInstance Builtin.Getset_descriptor.descrNameAndClass isInstance;simp only[PySem.W.KF.owner_class]
 repeat lk
 refine⟨Code.quiet_builtin _ (by decide +kernel),codeAny_builtin PySem.W.KF.entry_class ?_⟩
 unfold Builtin.«object.__class__» shownTypeOf
 repeat lk
 exact h
theorem zW{M:Model}{h:Heap}(X:K.In h)(c:XCl K D):Looks M h (Builtin.ObjectAttr.find (.ref x) (.ref D) "__class__") (.bind (.builtin "getset_descriptor.__get__") (.builtin "object.__class__")):=by
 unfold Builtin.ObjectAttr.find;refine(looks_findIn X c.ca).andThen ?_;refine PySem.W.Looks.andThen (a:=some (.builtin "getset_descriptor.__get__")) (PySem.W.looks_specialIn X c.dg) ?_;refine PySem.W.Looks.andThen (a:=some (.builtin "getset_descriptor.__get__",.builtin "object.__class__")) ((PySem.W.looks_takesIn X c.dt).andThen .now) ?_;exact PySem.W.Looks.tag .now
set_option maxHeartbeats 1000000 in
theorem wo{Q:Option Value->Shared->Prop}(X:K.In s.heap)(c:XCl K D)(LT:Looks (model prog w) s.heap (typeOf (.ref x)) (.ref D))(h:Q (some (.ref D)) { s with toks:=s.toks+1 }) :
  wpAny (model prog w) A (getAttr? (.ref x) "__class__") Q E s:=by
 obtain⟨hh,gg,dr,tt,oo⟩:=s;have L1:=looks_findIn (M:=model prog w) X c.ga;have L2:=looks_findIn (M:=model prog w) X c.gt;have L3:=zW (x:=x) (M:=model prog w) X c;unfold getAttr? getAttrBy? getAttrBy;refine wpAny_bind (wpAny_mkText (wpAny_bind (wpAny_attempt (wpAny_holding (wpAny_bind (LT.at (wpAny_bind (L1.at ?_))))))));dsimp only;have hne:(Value.builtin "BaseException.__getattribute__" == Value.builtin "object.__getattribute__")=false:=by decide +kernel
 rw[if_neg (by rw[hne,Bool.and_false];exact Bool.false_ne_true)]
 unfold getAttrByItsOwn;refine wpAny_bind (L2.at ?_);refine wpAny_bind (wpAny_attempt (wpAny_holding ?_));show wpAny _ _ (boundAndCalled (.builtin "BaseException.__getattribute__") (.ref x) _) _ _ _;unfold boundAndCalled;refine wpAny_bind (wpAny_of_eq (PySem.F.attr_ValueError.ga.bind _) ?_);refine wpAny_call ?_;show codeAny _ _ (.call (.builtin "BaseException.__getattribute__") ⟨[.ref x,.str "__class__" tt],[]⟩) _ _;have LB:Looks (model prog w) hh (isInstance (.ref x) (.type "BaseException")) true:=LT.andThen (PySem.W.looks_mroIn X c.mb);refine codeAny_call_builtin PySem.F.attr_ValueError.ga.plain PySem.F.entry_bexc_ga ?_;refine @PySem.W.check_slot (model prog w) _ _ _ "BaseException.__getattribute__" "BaseException" "__getattribute__" (.ref x) [.str "__class__" tt] [] _ (by decide +kernel) (by decide +kernel) LB (PySem.F.args_bexc_ga _ _) ?_
 unfold Builtin.«object.__getattribute__»;refine wpAny_bind (wpAny_pure ?_);refine wpAny_bind (wpAny_pure ?_);refine wpAny_bind (LT.at ?_);refine wpAny_bind (L3.at ?_);show wpAny _ _ (call (.builtin "getset_descriptor.__get__") [.builtin "object.__class__",.ref x,.ref D] >>= ret) _ _ _;refine wpAny_bind (wpAny_call (oi X c LT ?_));exact wpAny_pure (wpAny_pure (wpAny_pure h))
end
theorem tI{K:Frag}{x D:Addr}(c:XCl K D):PySem.W.KitX K (.ref x) (.ref D) (λh=>∃oe,h.get? x=some oe/\oe.cls=.ref D) where
 ty:=λM h _ ⟨oe,h1,h2⟩=>h2▸(PySem.W.Looks.ld h1).andThen .now
 it:=λM h X _=>by
  obtain⟨bm,N,nm,qn,bs,hdct,sn,sub,ab,col,dd,k0,k1,k2,k3,k5,mN,hCo,_⟩:=qF X c.ek;intro A' Q' E' s' kk q;unfold isType loadHead;exact wpAny_bind (wpAny_loadPart (kk _ _ hCo) (wpAny_pure q))
 ne:=λh tp dd its n sl X htp=>by
  obtain⟨bm,N,nm,qn,bs,hdct,sn,sub,ab,col,dd',k0,k1,k2,k3,k5,mN,hCo,_⟩:=qF X c.ek;refine Bool.eq_false_iff.mpr λq=>?_
  have e:D=tp:=Value.ref.inj (beq_iff_eq.mp q);subst e;rw[hCo] at htp;exact absurd (Value.type.inj (congrArg Obj.cls (Option.some.inj htp))) (by decide)
 ca:=λ{prog w A E Q s} X p k=>by
  obtain⟨oe,h1,h2⟩:=p;exact wo X c (h2▸(PySem.W.Looks.ld h1).andThen .now) k
def B4:V->Value
 |.ref a=>.ref a
 |.ty n=>.type n
 |_=>.none
def qp:V->Bool
 |.ref _=>true
 |.ty _=>true
 |_=>false
theorem vG{v:V}{u:Value}(h:qp v=true)(r:F4 v u):u=B4 v:=by
 cases v with
 |ref a=>exact r
 |ty n=>exact r
 |_=>cases h
theorem tG:∀{vs:List V} {us:List Value},vs.all qp=true->F1 vs us->us=vs.map B4
 |_,_,_,.nil=>rfl
 |_,_,h,.cons r t=>by
  rw[List.all_cons,Bool.and_eq_true] at h;rw[map_cons,<- vG h.1 r,<- tG h.2 t]
def FU(K:Frag):List V->Hp->VK->Prop:=λxs H Q=>∃(x D:Addr) (c:V) (b:Bool),xs=[.ref x,c]/\H x=some (yN x D)/\XCl K D/\
 ((qp c=true/\kitOne K (.ref D) (B4 c)=some b)\/(∃tp cs,c=.ref tp/\H tp=some (.tup cs)/\cs.all qp=true/\PySem.W.kitAny K (.ref D) (cs.map B4)=some b))/\Q (.bl b) H
theorem yV{X:Cx}:eY X (.builtin "isinstance") (FU X.K):=by
 intro pins s σ H xs us Q I rv h;obtain⟨x,D,c,b,rfl,hx,cl,hc,q⟩:=h;obtain⟨u,u',rfl,r1,r2⟩:=vN rv;cases (show u=Value.ref x from r1)
 obtain⟨hp,_⟩:=(show F6 X.prog X.w H s.heap x (yN x D) from I.hok x _ hx)
 rcases hc with⟨h1,h2⟩|⟨tp,cs,rfl,htp,h1,h2⟩
 ·rw[<- vG h1 r2] at h2;exact kia_one (tI cl) I.kIn hp h2 (λz=>nomatch z) λtk=>⟨.bl b,H,I.tok tk,rfl,q⟩
 ·cases (show u'=Value.ref tp from r2)
  obtain⟨_,its,rr,o,ho,hcls,n,hd⟩:=(show F6 X.prog X.w H s.heap tp (.tup cs) from I.hok tp _ htp)
  rw[<- tG h1 rr] at h2;obtain⟨oc,od,oda,osl⟩:=o;dsimp only at hcls hd;subst hcls hd;exact PySem.W.kia_tup (tI cl) I.kIn hp ho h2 (λz=>nomatch z) λtk=>⟨.bl b,H,I.tok tk,rfl,q⟩
theorem dq{X:Cx}(K:Frag){e:Expr}{es:List Expr}{t:TA}{p pos:Pos}(T:Blt X.mg)(ha:PA X (e::es) t)(hK:X.K=K:=by rfl)(hg:Gl X "isinstance":=by rfl)
  (he:starEach (e::es) X.env=(false,eval e X.env)::starEach es X.env:=by rfl) (hpl:(backTo pos (starEach es X.env)).any (·.1)=false:=by rfl):PE X (.Call (.Name "isinstance" p) (e::es) [] pos) (tCB (FU K) t):=by
 subst hK;exact fu yV hg T.isinst kP ha (by decide) (by decide) he hpl
theorem Ab{us:List Value}{d:Value}(h:(us++[d]).length=3):∃a b,us=[a,b]:=by
 rw[length_append,length_singleton] at h
 match us,h with
 |[a,b],_=>exact⟨a,b,rfl⟩
section
variable {X:Cx} {C:Addr} {x m:Str} {k:Nat} {sp:Sp} {p pos apos:Pos} {e o:Expr} {es:List Expr} {te ta:TE} {t:TA}
theorem bD{pl:Sem Bool}(M:MtB X.prog X.w X.K X.mg X.base k C m sp)(hr:F5 k X.A)(he:PE X o ta)
  (ht:eval (.Call (.Attribute o m apos) [] [] pos) X.env=(do
   let ov <- eval o X.env
   standAt apos.atName
   let (f,first) <- holding [ov] (getMethod ov m pl)
   callWith pos f first (backTo pos (starEach [] X.env)) (backToKw pos (keywordEach [] X.env))):=by rfl) :
  PE X (.Call (.Attribute o m apos) [] [] pos) (ig C m sp [] E0 ta fT):=by
 obtain⟨f,fd,ps,F,hm,hb⟩:=M.ex;exact ze he M.cl hm F hr hb .nil sV ht
end
structure RoomH (k:Nat) (A:Around):Prop where
 dp:A.depth+3*k+5<recursionLimit
 un:A.units+16*k+200<cLine
theorem RoomH.deeper{k:Nat}{A:Around}(r:RoomH (k+1) A)(env:Env):RoomH k (A.deeper env):=
 ⟨by have:=r.dp;show A.depth+1+3*k+5<_;omega,by have:=r.un;show A.units+3+16*k+200<_;omega⟩
theorem F5.marked{k:Nat}{A:Around}(r:F5 k A)(h:Option Value):RoomH k (A.mark h):=⟨r.dp,r.un⟩
structure rc (P:Program) (w:World) (K:Frag) (mg:Str->Option Value) (base:Heap) (k:Nat) (f:Addr) (fd:FuncData) (ps:List Str) (sp:Sp):Prop where
 len:∀vs H Q E,sp vs H Q E->vs.length=ps.length
 run:∀(A:Around) (outer:List Env) (s:Shared) (H:Hp) (args:Args) (us:List Value) (vs:List V) (Q:VK) (E:XK),RoomH k A->Env0 P w K mg base A outer s H->BindsTo s fd args (ps.zip us)->F1 vs us->sp vs H Q E->
  codeAny (model P w) A (.call (.ref f) args) (CR CX0 outer P w H s Q E) s
def cxH(P:Program)(w:World)(K:Frag)(mg:Str->Option Value)(base:Heap)(N:List Str)(qual:Str)(scope:Scope)(f:Addr)(cd:Value)(A:Around)(outer:List Env)(s:Shared)(H:Hp):Cx:=
 { dh CX0 P w K mg base N qual scope f cd A outer s H E0 with calm:=false,xe:=λ_ _=>False }
section
variable {P:Program} {w:World} {K:Frag} {mg:Str->Option Value} {base:Heap}
theorem ud{N ps:List Str}{qual:Str}{scope:Scope}{f:Addr}{cd:Value}{A:Around}{outer:List Env}{s s1:Shared}{H:Hp}{us:List Value}{vs:List V}
  (S:FZ N ps scope) (e0:Env0 P w K mg base A outer s H) (hl:vs.length=ps.length) (r:F1 vs us)
  (x:InCallC s s.heap.objs.size (bindL (envOfC qual scope s.heap.objs.size f cd).kindOf (ps.zip us) λ_=>none) (cellsFrom (s.heap.objs.size+1) scope.names []) (bindC (envOfC qual scope s.heap.objs.size f cd).kindOf (ps.zip us) λ_=>none) s1) :
  Inv (cxH P w K mg base N qual scope f cd A outer s H) [] (eZ N vs) H s1:=by
 have e0':Env0 P w K mg base { A with handled:=none } outer s H:=⟨e0.frames,e0.mod,e0.bs,e0.bsz,e0.funs,e0.frf,e0.hok,e0.bare⟩
 have I:=oR (CX:=CX0) (E:=E0) (A:={ A with handled:=none }) S rfl e0' hl r x
 have ok:=I.ok;exact⟨⟨ok.mod,ok.kind,ok.glob,ok.blt,ok.above,ok.inj,ok.has,ok.cab,(λz=>nomatch z),Around.frames_deeper e0.frames,ok.stk,ok.exf,ok.bs,ok.bsz,ok.noex,ok.exfs,ok.funs,ok.frf⟩,I.os,I.bare,I.base,I.loc,I.cell,I.free,I.freeC,I.pin,I.hok,I.len⟩
theorem Eh{k:Nat}{f:Addr}{name qual:Str}{params:Arguments}{body:List Stmt}{scope:Scope}{dV kV doc pm cdv ct oc:Value}{an od:Option Addr}
  {osl:Array (Option Value)} {N ps:List Str} {sp:Sp} (lk:K.lookup f=some ⟨oc,od,.func (fnOf name qual params body scope dV kV doc pm an cdv ct),osl⟩) (hcd:codeIn K cdv qual=true) (S:FZ N ps scope)
  (len:∀vs H Q E,sp vs H Q E->vs.length=ps.length)
  (hbody:∀(A:Around) (outer:List Env) (s:Shared) (H:Hp) (vs:List V) (Q:VK) (E:XK),RoomH k (A.deeper (envOfC qual scope s.heap.objs.size f cdv))->sp vs H Q E->
   ∃t,PSs (cxH P w K mg base N qual scope f cdv A outer s H) body t/\t { nx:=λ_ H'=>Q .non H',rt:=Q } (eZ N vs) H) :
  rc P w K mg base (k+1) f (fnOf name qual params body scope dV kV doc pm an cdv ct) ps sp:=by
 refine⟨len,λA outer s H args us vs Q E hr e0 hb r hsp=>?_⟩
 have hl:=len _ _ _ _ hsp;have KX:K.In s.heap:=e0.mod.kin.keeps λb o e=>(e0.bs b o e).1
 have lim:s.heap.NoLimit:=e0.mod.nolimit.keeps λb o e=>(e0.bs b o e).1
 have hkind:∀y∈ps.zip us,scope.names.lookup y.1=some .local\/(scope.names.lookup y.1=some .cell/\((cellsFrom (s.heap.objs.size+1) scope.names []).lookup y.1).isSome=true):=λ⟨n,v⟩ hy=>by
  rcases S.par n (of_mem_zip hy).1 with q|q
  ·exact .inl q
  ·exact .inr ⟨q,PySem.W.cellsFrom_some _ _ _ (.inl q)⟩
 refine codeAny_call_function (by have:=hr.dp;omega) (KX _ _ lk) rfl S.co S.gen rfl (PySem.W.codeRec_of KX hcd) (hb _ _ _ _ ?_)
 refine wpAny_newFunctionEnv_cells S.kind hkind λenv he s1 x=>?_
 subst he;refine⟨lim.keeps x.toInCall.keep,codeAny_func ?_⟩;obtain⟨t,ht,hq⟩:=hbody A outer s H vs Q E (hr.deeper _) hsp;have I:Inv (cxH P w K mg base N qual scope f cdv A outer s H) [] (eZ N vs) H s1:=ud S e0 hl r x;refine wpAny_mono (ht [] s1 (eZ N vs) H _ I hq) (λfl s' hs=>?_) λe s' hs=>False.elim hs
 have fin:∀{σ':St} {H':Hp} {v:V} {u:Value},Inv (cxH P w K mg base N qual scope f cdv A outer s H) [] σ' H' s'->F4 v u->Q v H'->CE outer P w H s Q u s':=
  λ{σ' H' v u} J rv q=>⟨v,H',J.os,J.bare,J.base,J.hok,rv,q⟩
 cases fl with
 |ret u=>
  obtain⟨v,σ',H',J,rv,q⟩:=hs;exact fin J rv q
 |next=>
  obtain⟨σ',H',J,q⟩:=hs;exact fin (v:=V.non) (u:=Value.none) J rfl q
 |brk=>
  obtain⟨_,_,_,q⟩:=hs;exact False.elim q
 |cont=>
  obtain⟨_,_,_,q⟩:=hs;exact False.elim q
theorem Fun.okH{x qual:Str}{st:Stmt}{f:Addr}{fd:FuncData}{N ps:List Str}{k:Nat}{sp:Sp}(F:Fun K x qual st f fd)(S:FZ N ps (ah st))(len:∀vs H Q E,sp vs H Q E->vs.length=ps.length)
  (hbody:∀(cdv:Value) (A:Around) (outer:List Env) (s:Shared) (H:Hp) (vs:List V) (Q:VK) (E:XK),RoomH k (A.deeper (envOfC qual (ah st) s.heap.objs.size f cdv))->sp vs H Q E->
   ∃t,PSs (cxH P w K mg base N qual (ah st) f cdv A outer s H) (aQ st) t/\t { nx:=λ_ H'=>Q .non H',rt:=Q } (eZ N vs) H):rc P w K mg base (k+1) f fd ps sp:=by
 obtain⟨oc,od,kV,doc,pm,an,cdv,ct,osl,rfl,lk,hcd⟩:=F.ex;exact Eh lk hcd S len λA outer s H vs Q E hr hsp=>hbody cdv A outer s H vs Q E hr hsp
end
structure BU (P:Program) (w:World) (K:Frag) (mg:Str->Option Value) (base:Heap) (k:Nat) (x:Str) (sp:Sp):Prop where
 ex:∃f fd ps,rc P w K mg base k f fd ps sp/\mg x=some (.ref f)/\keepIn K (.ref f)=true/\Gf K fd ps []
theorem DQ{X:Cx}{x:Str}{k:Nat}{sp:Sp}{p pos:Pos}{e:Expr}{es:List Expr}{t:TA}(F:BU X.prog X.w X.K X.mg X.base k x sp)(hr:RoomH k X.A)(ha:PA X (e::es) t)(hg:Gl X x:=by rfl)(hdb:(x==("__debug__" : Str))=false:=by decide)
  (he:starEach (e::es) X.env=(false,eval e X.env)::starEach es X.env:=by rfl) (hpl:(backTo pos (starEach es X.env)).any (·.1)=false:=by rfl) :
  PE X (.Call (.Name x p) (e::es) [] pos) (mf sp [] E0 t):=by
 obtain⟨f,fd,ps,F,hm,hk,hb⟩:=F.ex;intro pins s σ H Q I h;refine wpAny_Call_Name_kw (fh I hg hm ?_ hdb);refine callWith_K (h₀:=X.base) I.ok.mod.kin hk (thn (ha pos pins s σ H _ I h) λus s1 ⟨vs,H1,I1,r,q⟩=>⟨I1.kIn,?_⟩) he hpl
 have q:sp (vs++[]) H1 Q E0:=q;rw[append_nil] at q;have hl:(us++[]).length=ps.length:=by rw[append_nil,<- r.length];exact F.len _ _ _ _ q
 have bb:=hb s1 us I1.kIn hl;rw[append_nil] at bb;refine wpAny_call (codeAny_mono (F.run X.A X.stack s1 H1 ⟨us,[]⟩ us vs Q E0 hr I1.env0 bb r q) λr s' hq=>?_)
 cases r with
 |error e=>exact False.elim hq
 |ok fl=>
  cases fl with
  |ret u=>exact I1.after hq
  |next=>exact False.elim hq
  |brk=>exact False.elim hq
  |cont=>exact False.elim hq
theorem zK{i:Nat}{x:V}{t s u:TS}{D:fJ}{σ:St}{H:Hp}(M:St->Hp->Prop)(h1:∀R:St->Hp->Prop,(∀σ' H',M σ' H'->R σ' H')->cf t s { D with nx:=R } (σ.set i (some x)) H)(h2:∀σ' H',M σ' H'->u D σ' H'):di i x σ H (cf t (cf s u) D):=h1 (u D) h2
end L2
namespace L2
open PySem PySem.Spec PyProof.Rows PySem.W
def ev{α:Type}(c:Nat->Nat->Bool):KasT α->α
 |.ret a=>a
 |.ask i j k=>ev c (k (c i j))
theorem iG{α β:Type}{c:Nat->Nat->Bool}{f:α->KasT β}:∀t:KasT α,ev c (t.bind f)=ev c (f (ev c t))
 |.ret _=>rfl
 |.ask i j k=>iG (k (c i j))
structure Tot (n:Nat) (c:Nat->Nat->Bool):Prop where
 tr:∀i j k,i<n->j<n->k<n->c i j=true->c j k=true->c i k=true
 to:∀i j,i<n->j<n->i≠j->c i j=false->c j i=true
def Pm(n:Nat)(p:Array Nat):Prop:=p.toList.Perm (List.range n)
section
variable {n:Nat} {c:Nat->Nat->Bool} {p:Array Nat}
theorem Pm.sz(h:Pm n p):p.size=n:=by
 have:=h.length_eq;rw[length_range] at this;rw[<- this];rfl
theorem tf{i:Nat}(hi:i<p.size):p.getD i 0=p[i]:=by simp[Array.getD,hi]
theorem rM(p:Array Nat)(i:Nat):p.getD i 0=(p[i]?).getD 0:=by simp[Array.getD_eq_getD_getElem?]
theorem Pm.lt(h:Pm n p){i:Nat}(hi:i<n):p.getD i 0<n:=by
 have hs:=h.sz;rw[tf (by omega)]
 exact List.mem_range.mp (h.mem_iff.mp (by rw[Array.mem_toList_iff];exact Array.getElem_mem _))
theorem Pm.inj(h:Pm n p){i j:Nat}(hi:i<n)(hj:j<n)(hne:i≠j):p.getD i 0≠p.getD j 0:=by
 have hs:=h.sz;have nd:p.toList.Nodup:=h.nodup_iff.mpr List.nodup_range;intro z;rw[tf (by omega),tf (by omega)] at z
 exact hne ((getElem_inj (h₀:=by rw[Array.length_toList];omega) (h₁:=by rw[Array.length_toList];omega) nd).mp (by rw[Array.getElem_toList,Array.getElem_toList];exact z))
theorem Pm.of{q:Array Nat}(h:Pm n p)(e:q.Perm p):Pm n q:=(Array.perm_iff_toList_perm.mp e).trans h
def So(c:Nat->Nat->Bool)(p:Array Nat)(k:Nat):Prop:=∀i j,i<j->j<k->c (p.getD i 0) (p.getD j 0)=true
def De(c:Nat->Nat->Bool)(p:Array Nat)(k:Nat):Prop:=∀i j,i<j->j<k->c (p.getD j 0) (p.getD i 0)=true
theorem Tot.other(T:Tot n c)(hp:Pm n p){i j:Nat}(hi:i<n)(hj:j<n)(hne:i≠j)(h:¬c (p.getD i 0) (p.getD j 0)=true):c (p.getD j 0) (p.getD i 0)=true:=
 T.to _ _ (hp.lt hi) (hp.lt hj) (hp.inj hi hj hne) (by simpa using h)
theorem Tot.trp(T:Tot n c)(hp:Pm n p){i j k:Nat}(hi:i<n)(hj:j<n)(hk:k<n)(h1:c (p.getD i 0) (p.getD j 0)=true)(h2:c (p.getD j 0) (p.getD k 0)=true):c (p.getD i 0) (p.getD k 0)=true:=
 T.tr _ _ _ (hp.lt hi) (hp.lt hj) (hp.lt hk) h1 h2
theorem So.step(T:Tot n c)(hp:Pm n p){m:Nat}(h1:1<=m)(hm:m<n)(hs:So c p m)(h:c (p.getD (m-1) 0) (p.getD m 0)=true):So c p (m+1):=λi j hij hj=>by
 by_cases e:j=m
 ·subst e
  by_cases e2:i=j-1
  ·rw[e2];exact h
  ·exact T.trp hp (by omega) (by omega) hm (hs i (j-1) (by omega) (by omega)) h
 ·exact hs i j hij (by omega)
theorem De.step(T:Tot n c)(hp:Pm n p){m:Nat}(h1:1<=m)(hm:m<n)(hs:De c p m)(h:c (p.getD m 0) (p.getD (m-1) 0)=true):De c p (m+1):=λi j hij hj=>by
 by_cases e:j=m
 ·subst e
  by_cases e2:i=j-1
  ·rw[e2];exact h
  ·exact T.trp hp hm (by omega) (by omega) h (hs i (j-1) (by omega) (by omega))
 ·exact hs i j hij (by omega)
theorem uA(T:Tot n c)(hp:Pm n p):∀f m,1<=m->m+f<=n->So c p m->m<=ev c (kas_asc p f m)/\ev c (kas_asc p f m)<=m+f/\So c p (ev c (kas_asc p f m))/\(ev c (kas_asc p f m)<m+f->c (p.getD (ev c (kas_asc p f m)) 0) (p.getD (ev c (kas_asc p f m)-1) 0)=true)
 |0,m,_,_,hs=>⟨Nat.le_refl _,Nat.le_refl _,hs,λh=>absurd h (Nat.lt_irrefl _)⟩
 |f+1,m,h1,h2,hs=>by
  by_cases hc:c (p.getD m 0) (p.getD (m-1) 0)=true
  ·have e:ev c (kas_asc p (f+1) m)=m:=by
    show ev c (if c (p.getD m 0) (p.getD (m-1) 0)=true then .ret m else kas_asc p f (m+1))=m
    rw[if_pos hc];rfl
   rw[e];exact⟨Nat.le_refl _,by omega,hs,λ_=>hc⟩
  ·have e:ev c (kas_asc p (f+1) m)=ev c (kas_asc p f (m+1)):=by
    show ev c (if c (p.getD m 0) (p.getD (m-1) 0)=true then .ret m else kas_asc p f (m+1))=_
    rw[if_neg hc]
   rw[e];obtain⟨a,b,d,g⟩:=uA T hp f (m+1) (by omega) (by omega) (hs.step T hp h1 (by omega) (T.other hp (by omega) (by omega) (by omega) hc))
   exact⟨by omega,by omega,d,λh=>g (by omega)⟩
theorem vZ(T:Tot n c)(hp:Pm n p):∀f m,1<=m->m+f<=n->De c p m->∃r,ev c (kas_desc f p m 0)=(p,r,0)/\m<=r/\r<=m+f/\De c p r
 |0,m,_,_,hs=>⟨m,rfl,Nat.le_refl _,Nat.le_refl _,hs⟩
 |f+1,m,h1,h2,hs=>by
  by_cases hc:c (p.getD m 0) (p.getD (m-1) 0)=true
  ·obtain⟨r,e,a,b,d⟩:=vZ T hp f (m+1) (by omega) (by omega) (hs.step T hp h1 (by omega) hc)
   refine⟨r,?_,by omega,by omega,d⟩
   rw[<- e];show ev c (if c (p.getD m 0) (p.getD (m-1) 0)=true then(if 0>0 then kas_desc f (kas_rev p (m-(0+1)) m) (m+1) 0 else kas_desc f p (m+1) 0) else _)=_
   rw[if_pos hc,if_neg (by decide)]
  ·refine⟨m,?_,Nat.le_refl _,by omega,hs⟩
   have ho:=T.other hp (show m<n by omega) (show m-1<n by omega) (by omega) hc
   show ev c (if c (p.getD m 0) (p.getD (m-1) 0)=true then _ else .ask (p.getD (m-1) 0) (p.getD m 0) λd=>if d=true then .ret (p,m,0) else kas_desc f p (m+1) (0+1))=_
   rw[if_neg hc];show ev c (if c (p.getD (m-1) 0) (p.getD m 0)=true then .ret (p,m,0) else kas_desc f p (m+1) (0+1))=_
   rw[if_pos ho]
   rfl
theorem Ay{j:Nat}(hj:j<=p.size)(k:Nat):(kas_rev p 0 j).getD k 0=if k<j then p.getD (j-1-k) 0 else p.getD k 0:=by
 rw[rM];unfold kas_rev;rw[getElem?_mirror_all hj]
 by_cases h:k<j
 ·rw[if_pos ⟨Nat.zero_le _,h⟩,if_pos h,rM,Nat.zero_add]
 ·rw[if_neg (λz=>h z.2),if_neg h,rM]
theorem EB(hp:Pm n p)(j:Nat):Pm n (kas_rev p 0 j):=hp.of (mirror_perm _ _ _ _)
theorem De.rev{k:Nat}(hk:k<=p.size)(h:De c p k):So c (kas_rev p 0 k) k:=λi j hij hj=>by
 rw[Ay hk,Ay hk,if_pos (by omega),if_pos hj]
 exact h (k-1-j) (k-1-i) (by omega) (by omega)
theorem yT(T:Tot n c)(hp:Pm n p)(hn:1<=n):∃m q,ev c (kas_count n p)=(m,q)/\1<=m/\m<=n/\Pm n q/\So c q m:=by
 have s1:So c p 1:=λi j hij hj=>by omega
 obtain⟨a,b,d,g⟩:=uA T hp (n-1) 1 (Nat.le_refl _) (by omega) s1
 unfold kas_count;rw[iG];generalize ev c (kas_asc p (n-1) 1)=r at *
 by_cases h1:(r==n)=true
 ·rw[if_pos h1];exact⟨r,p,rfl,a,by omega,hp,d⟩
 ·rw[if_neg h1];have hr:r≠n:=by simpa using h1
  by_cases h2:r>1
  ·rw[if_pos h2];show ∃m q,ev c (if c (p.getD 0 0) (p.getD (r-1) 0)=true then .ret (r,p) else _)=(m,q)/\_
   rw[if_pos (d 0 (r-1) (by omega) (by omega))]
   exact⟨r,p,rfl,a,by omega,hp,d⟩
  ·rw[if_neg h2];have r1:r=1:=by omega
   subst r1;have d1:De c p 2:=λi j hij hj=>by
    have:i=0/\j=1:=by omega
    rw[this.1,this.2];exact g (by omega)
   unfold kas_descPart;rw[iG];obtain⟨k,e,ka,kb,kd⟩:=vZ T hp (n-(1+1)) (1+1) (by decide) (by omega) d1
   rw[e];show ∃m q,ev c (if 0>0 then _ else kas_tail3 k n p)=(m,q)/\_
   rw[if_neg (by decide)]
   unfold kas_tail3;rw[iG];have hq:=EB hp k;have sq:=De.rev (by rw[hp.sz];omega) kd
   obtain⟨a',b',d',_⟩:=uA T hq (n-k) k (by omega) (by omega) sq
   exact⟨_,_,rfl,by omega,by omega,hq,d'⟩
theorem me(T:Tot n c)(hp:Pm n p){k:Nat}(hk:k<n)(hs:So c p k):∀f l r,r<=l+f->l<=r->r<=k->(∀i,i<l->c (p.getD i 0) (p.getD k 0)=true)->(∀i,r<=i->i<k->c (p.getD k 0) (p.getD i 0)=true)->
  ev c (kas_place p k f l r)<=k/\(∀i,i<ev c (kas_place p k f l r)->c (p.getD i 0) (p.getD k 0)=true)/\(∀i,ev c (kas_place p k f l r)<=i->i<k->c (p.getD k 0) (p.getD i 0)=true)
 |0,l,r,h1,h2,h3,lo,hi=>⟨by show l<=k;omega,lo,λi hl hik=>hi i (by have:l<=i:=hl;omega) hik⟩
 |f+1,l,r,h1,h2,h3,lo,hi=>by
  by_cases hlr:l ≥ r
  ·have e:ev c (kas_place p k (f+1) l r)=l:=by
    show ev c (if l ≥ r then .ret l else _)=l
    rw[if_pos hlr];rfl
   rw[e];exact⟨by omega,lo,λi hl hik=>hi i (by omega) hik⟩
  ·have e:ev c (kas_place p k (f+1) l r)=ev c (if c (p.getD k 0) (p.getD ((l+r)/2) 0)=true then kas_place p k f l ((l+r)/2) else kas_place p k f ((l+r)/2+1) r):=by
    show ev c (if l ≥ r then .ret l else .ask (p.getD k 0) (p.getD ((l+r)/2) 0) λd=>if d=true then kas_place p k f l ((l+r)/2) else kas_place p k f ((l+r)/2+1) r)=_
    rw[if_neg hlr];rfl
   rw[e]
   by_cases hc:c (p.getD k 0) (p.getD ((l+r)/2) 0)=true
   ·rw[if_pos hc];refine me T hp hk hs f l ((l+r)/2) (by omega) (by omega) (by omega) lo λi hi1 hi2=>?_
    by_cases ei:i=(l+r)/2
    ·rw[ei];exact hc
    ·exact T.trp hp hk (by omega) (by omega) hc (hs _ i (by omega) hi2)
   ·rw[if_neg hc];have ho:=T.other hp hk (show(l+r)/2<n by omega) (by omega) hc
    refine me T hp hk hs f ((l+r)/2+1) r (by omega) (by omega) h3 (λi hi1=>?_) hi
    by_cases ei:i=(l+r)/2
    ·rw[ei];exact ho
    ·exact T.trp hp (by omega) (by omega) hk (hs i _ (by omega) (by omega)) ho
theorem pc{k d:Nat}(hk:k<p.size)(hd:d<=k)(x:Nat):(bubble p k d).getD x 0=if x=k-d then p.getD k 0 else if k-d<x/\x<=k then p.getD (x-1) 0 else p.getD x 0:=by
 rw[rM,getElem?_bubble hk d hd]
 by_cases h:x=k-d
 ·rw[if_pos h,if_pos h,rM]
 ·rw[if_neg h,if_neg h]
  by_cases h2:k-d<x/\x<=k
  ·rw[if_pos h2,if_pos h2,rM]
  ·rw[if_neg h2,if_neg h2,rM]
theorem So.put(hp:Pm n p){k q:Nat}(hk:k<n)(hq:q<=k)(hs:So c p k)(lo:∀i,i<q->c (p.getD i 0) (p.getD k 0)=true)(hi:∀i,q<=i->i<k->c (p.getD k 0) (p.getD i 0)=true):So c (bubble p k (k-q)) (k+1):=λi j hij hj=>by
 have hz:=hp.sz;rw[pc (by omega) (by omega),pc (by omega) (by omega),show k-(k-q)=q by omega]
 by_cases i1:i=q
 ·rw[if_pos i1,if_neg (by omega),if_pos (by omega)]
  exact hi (j-1) (by omega) (by omega)
 ·rw[if_neg i1]
  by_cases i2:q<i/\i<=k
  ·rw[if_pos i2,if_neg (by omega),if_pos (by omega)]
   exact hs _ _ (by omega) (by omega)
  ·rw[if_neg i2]
   by_cases j1:j=q
   ·rw[if_pos j1];exact lo i (by omega)
   ·rw[if_neg j1]
    by_cases j2:q<j/\j<=k
    ·rw[if_pos j2];exact hs _ _ (by omega) (by omega)
    ·rw[if_neg j2];exact hs _ _ hij (by omega)
end
theorem yl{n:Nat}{c:Nat->Nat->Bool}(T:Tot n c):∀(f:Nat) (p:Array Nat) (k:Nat),Pm n p->k+f=n->So c p k->Pm n (ev c (kas_bin f p k))/\So c (ev c (kas_bin f p k)) n
 |0,p,k,hp,hk,hs=>⟨hp,by rw[<- show k=n by omega];exact hs⟩
 |f+1,p,k,hp,hk,hs=>by
  have e:ev c (kas_bin (f+1) p k)=ev c (kas_bin f (bubble p k (k-ev c (kas_place p k k 0 k))) (k+1)):=by
   show ev c ((kas_place p k k 0 k).bind λl=>kas_bin f (bubble p k (k-l)) (k+1))=_
   rw[iG]
  rw[e];obtain⟨a,lo,hi⟩:=me T hp (show k<n by omega) hs k 0 k (by omega) (by omega) (Nat.le_refl _) (λi h=>absurd h (by omega)) (λi h1 h2=>by omega)
  exact yl T f _ (k+1) (hp.of (bubble_perm _ _ _)) (by omega) (hs.put hp (by omega) a lo hi)
theorem CQ{n:Nat}{c:Nat->Nat->Bool}(T:Tot n c)(hn:1<=n):Pm n (ev c (kas_sort n))/\So c (ev c (kas_sort n)) n:=by
 have hp:Pm n (List.toArray (List.range n)):=List.Perm.refl _;obtain⟨m,q,e,a,b,hq,hs⟩:=yT T hp hn;unfold kas_sort;rw[iG,e];dsimp only
 by_cases h:m<n
 ·rw[if_pos h];exact yl T _ q _ hq (by omega) (by rw[show max m 1=m by omega];exact hs)
 ·rw[if_neg h];exact⟨hq,by rw[<- show m=n by omega];exact hs⟩
end L2
namespace L2
open PySem PySem.Spec PyProof.Rows
section
variable {κ:Type} [DecidableEq κ]
def jh(kvs:List (κ×V))(k:κ):Option V:=(kvs.find? λkv=>decide (kv.1=k)).map (·.2)
def gj(kvs:List (κ×V))(k:κ)(v:V):List (κ×V):=
 if (kvs.any λkv=>decide (kv.1=k))=true then kvs.map (λkv=>if kv.1=k then(kv.1,v) else kv) else kvs++[(k,v)]
theorem jA{p:κ×V}{r:List (κ×V)}{k:κ}(e:p.1=k):jh (p::r) k=some p.2:=by simp[jh,find?_cons,e]
theorem jt{p:κ×V}{r:List (κ×V)}{k:κ}(e:¬p.1=k):jh (p::r) k=jh r k:=by simp[jh,find?_cons,e]
theorem nU(k:κ):∀kvs:List (κ×V),(kvs.any λkv=>decide (kv.1=k))=(jh kvs k).isSome
 |[]=>rfl
 |p::r=>by
  rw[any_cons]
  by_cases e:p.1=k
  ·simp only[jA e,decide_eq_true e,Bool.true_or,Option.isSome_some]
  ·rw[jt e,decide_eq_false e,Bool.false_or];exact nU k r
theorem kJ(kvs:List (κ×V))(k:κ)(v:V):(gj kvs k v).length<=kvs.length+1:=by
 unfold gj
 split
 ·rw[length_map];omega
 ·rw[length_append,length_cons,length_nil];omega
theorem RelO.isSome_eq{o:Option V}{u:Option Value}(r:RelO o u):o.isSome=u.isSome:=by
 cases o with
 |none=>cases u with
  |none=>rfl
  |some _=>exact(show False from r).elim
 |some _=>cases u with
  |none=>exact(show False from r).elim
  |some _=>rfl
theorem KV.val{kvs:List (κ×V)}{vs:List (κ×Value)}(r:KV kvs vs)(k:κ):RelO (jh kvs k) (valueAt vs k):=by
 unfold KV at r
 induction r with
 |nil=>exact True.intro
 |@cons p q ps qs h t ih=>
  obtain⟨h1,h2⟩:=h
  by_cases e:p.1=k
  ·have e':q.1=k:=h1.symm.trans e;have b:valueAt (q::qs) k=some q.2:=by simp[valueAt,find?_cons,e']
   rw[jA e,b];exact h2
  ·have e':¬q.1=k:=λz=>e (h1.trans z)
   have b:valueAt (q::qs) k=valueAt qs k:=by simp[valueAt,find?_cons,e']
   rw[jt e,b];exact ih
theorem KV.any{kvs:List (κ×V)}{vs:List (κ×Value)}(r:KV kvs vs)(k:κ):(kvs.any λkv=>decide (kv.1=k))=vs.any λkv=>decide (kv.1=k):=by
 unfold KV at r
 induction r with
 |nil=>rfl
 |cons h t ih=>rw[any_cons,any_cons,ih,h.1]
theorem KV.repl{kvs:List (κ×V)}{vs:List (κ×Value)}(r:KV kvs vs)(k:κ){y:V}{u:Value}(ry:F4 y u) :
  KV (kvs.map λkv=>if kv.1=k then(kv.1,y) else kv) (vs.map λkv=>if kv.1=k then(kv.1,u) else kv):=by
 unfold KV at r ⊢
 induction r with
 |nil=>exact .nil
 |@cons p q ps qs h t ih=>
  rw[map_cons,map_cons];refine .cons ?_ ih;obtain⟨h1,h2⟩:=h
  by_cases e:p.1=k
  ·rw[if_pos e,if_pos (h1.symm.trans e)];exact⟨h1,ry⟩
  ·rw[if_neg e,if_neg (λz=>e (h1.trans z))];exact⟨h1,h2⟩
theorem KV.put{kvs:List (κ×V)}{vs:List (κ×Value)}(r:KV kvs vs)(k:κ){y:V}{u:Value}(ry:F4 y u):KV (gj kvs k y) (stored vs k u):=by
 unfold gj stored;rw[r.any k]
 by_cases e:(vs.any λkv=>decide (kv.1=k))=true
 ·rw[if_pos e,if_pos e];exact r.repl k ry
 ·rw[if_neg e,if_neg e];exact Paired.snoc r ⟨rfl,ry⟩
theorem KV.length{kvs:List (κ×V)}{vs:List (κ×Value)}(r:KV kvs vs):kvs.length=vs.length:=Paired.length r
end
theorem vz{P:Program}{w:World}{k:Key}{u:Value}(r:F4 (kV k) u):(cH P w).is k u=true:=by
 cases k with
 |inl i=>obtain⟨t,e⟩:=(show ∃t,u=Value.int i t from r);subst e;exact rh P w i t
 |inr x=>obtain⟨t,e⟩:=(show ∃t,u=Value.str x t from r);subst e;exact sJ P w x t
theorem oU{P:Program}{w:World}:∀{ks:List Key} {us:List Value},F1 (ks.map kV) us->ItemsAre (cH P w) ks us
 |[],_,r=>by rw[map_nil] at r;cases r;exact .nil
 |k::ks,_,r=>by
  rw[map_cons] at r;cases r with
  |cons h t=>exact .cons (vz h) (oU t)
abbrev KT(H:Hp):List (List Key×V)->List (List Key×Addr×Value)->Prop:=Paired λp q=>p.1=q.1/\H q.2.1=some (.tup (p.1.map kV))/\F4 p.2 q.2.2
theorem KT.val{H:Hp}{kvs:List (List Key×V)}{xs:List (List Key×Addr×Value)}(r:KT H kvs xs)(k:List Key):RelO (jh kvs k) ((atKey xs k).map (·.2)):=by
 induction r with
 |nil=>exact True.intro
 |@cons p q ps qs h t ih=>
  obtain⟨h1,_,h2⟩:=h
  by_cases e:p.1=k
  ·have e':q.1=k:=h1.symm.trans e;have b:atKey (q::qs) k=some q.2:=by simp[atKey,find?_cons,e']
   rw[jA e,b];exact h2
  ·have e':¬q.1=k:=λz=>e (h1.trans z)
   have b:atKey (q::qs) k=atKey qs k:=by simp[atKey,find?_cons,e']
   rw[jt e,b];exact ih
theorem KT.repl{H:Hp}{kvs:List (List Key×V)}{xs:List (List Key×Addr×Value)}(r:KT H kvs xs)(k:List Key){y:V}{u:Value}(ry:F4 y u) :
  KT H (kvs.map λkv=>if kv.1=k then(kv.1,y) else kv) (xs.map (putAt k u)):=by
 induction r with
 |nil=>exact .nil
 |@cons p q ps qs h t ih=>
  rw[map_cons,map_cons];refine .cons ?_ ih;obtain⟨h1,h2,h3⟩:=h;unfold putAt
  by_cases e:p.1=k
  ·rw[if_pos e,if_pos (h1.symm.trans e)];exact⟨h1,h2,ry⟩
  ·rw[if_neg e,if_neg (λz=>e (h1.trans z))];exact⟨h1,h2,h3⟩
theorem KT.put{H:Hp}{kvs:List (List Key×V)}{xs:List (List Key×Addr×Value)}(r:KT H kvs xs)(k:List Key){b:Addr}{y:V}{u:Value}(hb:H b=some (.tup (k.map kV)))(ry:F4 y u) :
  KT H (gj kvs k y) (storedH xs k b u):=by
 have e:(kvs.any λkv=>decide (kv.1=k))=(atKey xs k).isSome:=by
  rw[nU,(r.val k).isSome_eq,Option.isSome_map]
 unfold gj storedH;rw[e]
 by_cases q:(atKey xs k).isSome=true
 ·rw[if_pos q,if_pos q];exact r.repl k ry
 ·rw[if_neg q,if_neg q];exact Paired.snoc r ⟨rfl,hb,ry⟩
theorem KT.keeps{H H':Hp}{kvs:List (List Key×V)}{xs:List (List Key×Addr×Value)}(r:KT H kvs xs)(ht:∀b ys,H b=some (.tup ys)->H' b=some (.tup ys)):KT H' kvs xs:=
 Paired.mapP r λ_ _ z=>⟨z.1,ht _ _ z.2.1,z.2.2⟩
section
variable {P:Program} {w:World} {H:Hp} {h:Heap} {a:Addr}
theorem Do{u:HO}(ok:HOk P w H h)(e:Rd H a u):F6 P w H h a u:=e.ok ok
theorem vh{kvs:List (Key×V)}(ok:HOk P w H h)(e:Rd H a (.dK kvs)):kvs.length<=sizeLine/\(a==sysModules)=false/\∃vs,KV kvs vs/\h.DictOf (cH P w) a vs:=
 show F6 P w H h a (.dK kvs) from Do ok e
theorem FN{kvs:List (Key×V)}(ok:HOk P w H h)(e:H a=some (.dK kvs)):kvs.length<=sizeLine/\(a==sysModules)=false/\∃vs,KV kvs vs/\h.DictOf (cH P w) a vs:=vh ok (.inl e)
theorem p8{ks:List Key}(ok:HOk P w H h)(e:H a=some (.tup (ks.map kV))):(tupleKind (cH P w)).is h ks a:=by
 obtain⟨_,its,r,o,h1,h2,n,h3⟩:=(show F6 P w H h a (.tup (ks.map kV)) from ok a _ e)
 exact⟨o,its.toArray,n,h1,h2,h3,by simpa using oU r⟩
theorem vX{kvs:List (List Key×V)}(ok:HOk P w H h)(e:Rd H a (.dT kvs)):kvs.length<=sizeLine/\(a==sysModules)=false/\
  ∃xs,KT H kvs xs/\h.DictOfH (tupleKind (cH P w)) a xs:=by
 obtain⟨z,y,xs,r,o,es,ep,h1,h2,h3,h4,h5⟩:=(show F6 P w H h a (.dT kvs) from Do ok e)
 refine⟨z,y,xs,r,o,es,ep,h1,h2,h3,h4,λx hx=>?_,h5⟩
 have all:∀{l:List (List Key×V)} {m:List (List Key×Addr×Value)},KT H l m->∀x∈m,(tupleKind (cH P w)).is h x.1 x.2.1:=by
  intro l m q
  induction q with
  |nil=>intro x hx;exact nomatch hx
  |@cons p q ps qs hq t ih=>
   intro x hx
   rcases List.mem_cons.mp hx with e|hx
   ·subst e;exact p8 ok (by rw[<- hq.1];exact hq.2.1)
   ·exact ih x hx
 exact all r x hx
theorem FJ{kvs:List (List Key×V)}(ok:HOk P w H h)(e:H a=some (.dT kvs)):kvs.length<=sizeLine/\(a==sysModules)=false/\
  ∃xs,KT H kvs xs/\h.DictOfH (tupleKind (cH P w)) a xs:=vX ok (.inl e)
end
def DGet(H:Hp)(a:Addr)(y:V)(r:Option V):Prop:=
 (∃kvs k,Rd H a (.dK kvs)/\y=kV k/\r=jh kvs k)\/∃kvs k b,Rd H a (.dT kvs)/\y=.ref b/\H b=some (.tup (k.map kV))/\r=jh kvs k
def DPut(H:Hp)(a:Addr)(y v:V)(H':Hp):Prop:=
 (∃kvs k,H a=some (.dK kvs)/\y=kV k/\kvs.length<sizeLine/\H'=upd H a (.dK (gj kvs k v))) \/
 ∃kvs k b,H a=some (.dT kvs)/\y=.ref b/\H b=some (.tup (k.map kV))/\kvs.length<sizeLine/\H'=upd H a (.dT (gj kvs k v))
theorem DGet.t{H:Hp}{a b:Addr}{kvs:List (List Key×V)}{k:List Key}(e:H a=some (.dT kvs))(eb:H b=some (.tup (k.map kV))):DGet H a (.ref b) (jh kvs k):=.inr ⟨kvs,k,b,.inl e,rfl,eb,rfl⟩
theorem DPut.t{H:Hp}{a b:Addr}{kvs:List (List Key×V)}{k:List Key}{v:V}(e:H a=some (.dT kvs))(eb:H b=some (.tup (k.map kV)))(hl:kvs.length<sizeLine) :
  DPut H a (.ref b) v (upd H a (.dT (gj kvs k v))):=.inr ⟨kvs,k,b,e,rfl,eb,hl,rfl⟩
section
variable {X:Cx} {pins:List (Addr×Obj)} {σ:St} {H:Hp} {s:Shared} {a:Addr} {y v:V} {u r:Value} {o:Option V} {A:Around} {E:Value->Shared->Prop}
theorem Inv.big(I:Inv X pins σ H s):sysModules<s.heap.objs.size:=by
 have h:mainGlobals<s.heap.objs.size:=(I.mod.glob.keeps I.bk).lt;exact Nat.lt_trans (by decide) h
theorem w8{Q:Value->Shared->Prop}(hu:A.units+1<cLine)(I:Inv X pins σ H s)(g:DGet H a y (some v))(ry:F4 y u)(h:∀w' s',Inv X pins σ H s'->F4 v w'->Q w' s') :
  wpAny (model X.prog X.w) A (getItem (.ref a) u) Q E s:=by
 rcases g with⟨kvs,k,e,ey,l⟩|⟨kvs,k,b,e,ey,eb,l⟩
 ·subst ey;obtain⟨z,hd,vs,rel,dd⟩:=vh I.hok e;obtain⟨w',hw,rw'⟩:=RelO.some_of (v:=v) (o:=valueAt vs k) (by rw[l];exact rel.val k)
  exact wpAny_getItem_of (vz ry) dd.mapOf hw (h w' _ (I.tok _) rw')
 ·subst ey;cases (show u=Value.ref b from ry)
  obtain⟨z,hd,xs,rel,dd⟩:=vX I.hok e;obtain⟨w',hw,rw'⟩:=RelO.some_of (v:=v) (o:=(atKey xs k).map (·.2)) (by rw[l];exact rel.val k)
  obtain⟨p,hp,hp2⟩:=Option.map_eq_some_iff.mp hw;refine wpAny_getItem_heap (tupleKind_room_in1 hu) (p8 I.hok eb) dd hp ?_;rw[hp2];exact h w' _ (I.tok _) rw'
theorem d_in{Q:Value->Shared->Prop}(hu:A.units+1<cLine)(I:Inv X pins σ H s)(g:DGet H a y o)(ry:F4 y u)(h:∀s',Inv X pins σ H s'->Q (.bool o.isSome) s') :
  wpAny (model X.prog X.w) A (compareOp .In u (.ref a)) Q E s:=by
 rcases g with⟨kvs,k,e,ey,l⟩|⟨kvs,k,b,e,ey,eb,l⟩
 ·subst ey;obtain⟨z,hd,vs,rel,dd⟩:=vh I.hok e;refine wpAny_in_of (vz ry) hd dd.mapOf ?_;rw[<- (rel.val k).isSome_eq,<- l];exact h _ (I.tok _)
 ·subst ey;cases (show u=Value.ref b from ry)
  obtain⟨z,hd,xs,rel,dd⟩:=vX I.hok e;refine wpAny_in_heap (tupleKind_room_in1 hu) (p8 I.hok eb) hd dd ?_;have q:=(rel.val k).isSome_eq;rw[Option.isSome_map] at q;rw[<- q,<- l];exact h _ (I.tok _)
theorem v9{h':Heap}{t':Nat}{ob:HO}(I:Inv X pins σ H s)(mu:Mut (H a))(hs:Heap.SameBut a s.heap h')(he:∃q,h'.get? a=some q)(new:F6 X.prog X.w (upd H a ob) h' a ob) :
  Inv X pins σ (upd H a ob) { s with heap:=h',toks:=t' }:=
 I.write (x:=a) (e:=a) mu (.inl rfl) (λb q hb z=>(hs.2 b hb).trans z) he new
theorem ET{P:Program}{w:World}{H':Hp}{h':Heap}{kvs:List (Key×V)}{vs:List (Key×Value)}(z:kvs.length<=sizeLine)(hd:(a==sysModules)=false)(rel:KV kvs vs)(dd:h'.DictOf (cH P w) a vs) :
  F6 P w H' h' a (.dK kvs):=⟨z,hd,vs,rel,dd⟩
theorem wy{H':Hp}{Q:Unit->Shared->Prop}(hu:A.units+1<cLine)(I:Inv X pins σ H s)(g:DPut H a y v H')(ry:F4 y u)(rv:F4 v r)(h:∀s',Inv X pins σ H' s'->Q () s') :
  wpAny (model X.prog X.w) A (setItem (.ref a) u r) Q E s:=by
 rcases g with⟨kvs,k,e,ey,l,eH⟩|⟨kvs,k,b,e,ey,eb,l,eH⟩
 ·subst ey eH;obtain⟨z,hd,vs,rel,dd⟩:=FN I.hok e;have hz:vs.length<=sizeLine:=by rw[<- rel.length];exact z
  have hl:(gj kvs k v).length<=sizeLine:=by have:=kJ kvs k v;omega
  refine wpAny_setItem_pairs (hsz:=hz) (vz ry) dd λh' dd' hs=>h _ ?_
  have he:∃q,h'.get? a=some q:=let ⟨q,_,_,hq,_⟩:=dd';⟨q,hq⟩
  exact v9 I (by rw[e];exact True.intro) hs he (ET hl hd (rel.put k rv) dd')
 ·subst ey eH;cases (show u=Value.ref b from ry)
  obtain⟨z,hd,xs,rel,dd⟩:=FJ I.hok e;have hz:xs.length<=sizeLine:=by rw[<- Paired.length rel];exact z
  have hl:(gj kvs k v).length<=sizeLine:=by have:=kJ kvs k v;omega
  refine wpAny_setItem_heap (hsz:=hz) (tupleKind_room_in1 hu) (p8 I.hok eb) dd λh' dd' hs=>h _ ?_
  obtain⟨q,es,ep,hq,h2,h3,h4,_,h5⟩:=dd';refine v9 I (by rw[e];exact True.intro) hs ⟨q,hq⟩ ⟨hl,hd,_,(rel.put k eb rv).keeps λc ys ec=>?_,q,es,ep,hq,h2,h3,h4,h5⟩
  rw[ar (iM ec e (λz=>nomatch z))]
  exact ec
end
def Fb(i:Expr):Prop:=∀ov iv,subscripted i false ov iv=operate [ov,iv] (getItem ov iv)
theorem By{prog:Program}{w:World}{A:Around}{E:Value->Shared->Prop}{s:Shared}{env:Env}{value slice:Expr}{pos:Pos}{T id:String}{Q:Value->Shared->Prop}
  (hl:typeLookup (.type T) "__getitem__" = pure (some (.builtin id))) (hs:Fb slice)
  (h:wpAny (model prog w) A (eval value env) (λo s₁=>wpAny (model prog w) A (eval slice env) (λi s₂=>s₂.TypeIs o T/\wpAny (model prog w) A (getItem o i) Q E s₂) E s₁) E s) :
  wpAny (model prog w) A (eval (.Subscript value slice pos) env) Q E s:=by
 refine Subscript_ (wpAny_mono h (λo s₁ h₁=>wpAny_mono h₁ (λi s₂ h₂=>?_) λ_ _ x=>x) λ_ _ x=>x)
 obtain⟨hT,h₂⟩:=h₂;unfold subscriptTail;refine wpAny_bind ?_;rw[getitemInPython_of_ne hT.not_modules];refine wpAny_bind (wpAny_specialOf hT hl ?_);have fin:wpAny (model prog w) A (subscripted slice false o i) (λr s₃=>wpAny (model prog w) A (letTemporaryGo value o r >>= λ_=>pure r) Q E s₃) E s₂:=by
  rw[hs o i];exact wpAny_operating (wpAny_mono h₂ (λr s₃ h₃=>wpAny_bind (wpAny_letTemporaryGo (wpAny_pure h₃))) λ_ _ x=>x)
 first
  |exact wpAny_pure (wpAny_bind fin)
  |exact wpAny_bind (wpAny_pure (wpAny_bind fin))
  |exact wpAny_bind fin
theorem sr{X:Cx}{pins:List (Addr×Obj)}{σ:St}{H:Hp}{s:Shared}{a:Addr}{y:V}{o:Option V}(I:Inv X pins σ H s)(g:DGet H a y o):s.TypeIs (.ref a) "dict":=by
 rcases g with⟨kvs,k,e,_,_⟩|⟨kvs,k,b,e,_,_,_⟩
 ·obtain⟨_,_,vs,_,dd⟩:=vh I.hok e;exact dd.typeIs
 ·obtain⟨_,_,xs,_,dd⟩:=vX I.hok e;exact dd.typeIs
def E8(td ty:TE):TE:=λσ H Q=>td σ H λx H1=>ty σ H1 λy H2=>∃a v,x=.ref a/\DGet H2 a y (some v)/\Q v H2
def tDIn(ty td:TE):TE:=λσ H Q=>ty σ H λy H1=>td σ H1 λx H2=>∃a o,x=.ref a/\DGet H2 a y o/\Q (.bl o.isSome) H2
def Fd(td ty tv:TE):TS:=λD σ H=>tv σ H λv H1=>td σ H1 λx H2=>ty σ H2 λy H3=>∃a H4,x=.ref a/\DPut H3 a y v H4/\D.nx σ H4
section
variable {X:Cx} {o i e value:Expr} {pos pos' tpos:Pos} {td ty tv:TE}
theorem lO(hu:X.A.units+1<cLine)(ho:PE X o td)(hi:PE X i ty)(hs:Fb i):PE X (.Subscript o i pos) (E8 td ty):=by
 intro pins s σ H Q I h;refine By PySem.F.slot_dict_getitem.lookup hs (thn (ho pins s σ H _ I h) λu s1 ⟨x,H1,I1,rx,q1⟩=>thn (hi pins s1 σ H1 _ I1 q1) λiv s2 ⟨y,H2,I2,ry,a,v,ex,g,q2⟩=>?_)
 subst ex;obtain rfl:u=Value.ref a:=rx;exact⟨sr I2 g,w8 hu I2 g ry λw' s3 I3 rw'=>⟨v,H2,I3,rw',q2⟩⟩
theorem EQ(hu:X.A.units+1<cLine)(hi:PE X i ty)(ho:PE X o td):PC X .In i o (tDIn ty td):=by
 intro pins s σ H Q I h;refine thn (hi pins s σ H _ I h) λiv s1 ⟨y,H1,I1,ry,q1⟩=>thn (ho pins s1 σ H1 _ I1 q1) λu s2 ⟨x,H2,I2,rx,a,ov,ex,g,q2⟩=>?_
 subst ex;obtain rfl:u=Value.ref a:=rx;exact d_in hu I2 g ry λs3 I3=>⟨.bl ov.isSome,H2,I3,rfl,q2⟩
theorem Cm(hu:X.A.units+1<cLine)(ho:PE X o td)(hi:PE X i ty)(hv:PE X value tv)(hs:swapsWith value (some (.Subscript o i pos')) pos.line X.env=pure false) :
  PS X (.Assign [.Subscript o i pos'] value pos) (Fd td ty tv):=by
 intro pins s σ H D I h;refine wpAny_Assign_Subscript (thn (hv pins s σ H _ I h) λr s1 ⟨v,H1,I1,rv,q1⟩=>thn (ho pins s1 σ H1 _ I1 q1) λu s2 ⟨x,H2,I2,rx,q2⟩=>thn (hi pins s2 σ H2 _ I2 q2) λiv s3 ⟨y,H3,I3,ry,a,H4,ex,g,q3⟩=>?_) hs
 subst ex;obtain rfl:u=Value.ref a:=rx;exact wy hu I3 g ry rv λs4 I4=>⟨σ,H4,I4,q3⟩
end
theorem zc{P:Program}{w:World}{H:Hp}(h:Heap)(hb:sysModules<h.objs.size):F6 P w H (h.push { cls:=.type "dict",data:=.dict #[] }) h.objs.size (.dT []):=
 ⟨Nat.zero_le _,beq_eq_false_iff_ne.mpr (Ne.symm (Nat.ne_of_lt hb)),[],.nil,_,#[],0,get?_push_size _ rfl,⟨rfl,rfl,rfl⟩,rfl,rfl,List.nodup_nil⟩
def EW:TE:=λ_ H Q=>∀p,H p=none->Q (.ref p) (upd H p (.dT []))
section
variable {X:Cx} {pos:Pos}
theorem zP:PE X (.Dict [] [] pos) EW:=λpins s σ H Q I h=>
 wpAny_Dict_empty ⟨.ref s.heap.objs.size,_,I.laid (a:=s.heap.objs.size) (o:=.dT []) (t':=s.toks) (λ_ _ q=>get?_push_of_some _ q) (Nat.le_refl _) (zc s.heap I.big),rfl,h _ (I.hok.fresh (Nat.le_refl _))⟩
end
end L2
namespace L2
open PySem PySem.Spec PyProof.Rows PySem.W
def InR{α:Type}(n:Nat)(P:α->Prop):KasT α->Prop
 |.ret a=>P a
 |.ask i j k=>i<n/\j<n/\∀b,InR n P (k b)
theorem InR.bind{α β:Type}{n:Nat}{P:α->Prop}{Q:β->Prop}{f:α->KasT β}:∀{t:KasT α},InR n P t->(∀a,P a->InR n Q (f a))->InR n Q (t.bind f)
 |.ret a,h,hf=>hf a h
 |.ask i j k,h,hf=>⟨h.1,h.2.1,λb=>InR.bind (h.2.2 b) hf⟩
theorem InR.ite{α:Type}{n:Nat}{P:α->Prop}{c:Prop}[Decidable c]{t u:KasT α}(h1:InR n P t)(h2:InR n P u):InR n P (if c then t else u):=by
 split
 ·exact h1
 ·exact h2
def Lo(n:Nat)(p:Array Nat):Prop:=∀x∈p,x<n
theorem Lo.at{n:Nat}{p:Array Nat}(h:Lo n p)(h0:0<n)(i:Nat):p.getD i 0<n:=by
 rw[rM];cases e:p[i]? with
 |none=>exact h0
 |some x=>exact h x (Array.mem_of_getElem? e)
theorem Lo.of{n:Nat}{p q:Array Nat}(h:Lo n p)(e:q.Perm p):Lo n q:=λx hx=>h x (e.mem_iff.mp hx)
section
variable {n:Nat} (h0:0<n)
include h0
theorem qi{p:Array Nat}(hp:Lo n p):∀f m,InR n (λ_=>True) (kas_asc p f m)
 |0,m=>trivial
 |f+1,m=>⟨hp.at h0 _,hp.at h0 _,λb=>.ite trivial (qi hp f (m+1))⟩
theorem jx:∀f p m q,Lo n p->InR n (λr=>Lo n r.1) (kas_desc f p m q)
 |0,p,m,q,hp=>hp
 |f+1,p,m,q,hp=>⟨hp.at h0 _,hp.at h0 _,λb=>.ite (.ite (jx f _ _ _ (hp.of (mirror_perm _ _ _ _))) (jx f _ _ _ hp))
   ⟨hp.at h0 _,hp.at h0 _,λd=>.ite hp (jx f _ _ _ hp)⟩⟩
theorem pd{p:Array Nat}(hp:Lo n p)(m k:Nat):InR n (λr=>Lo n r.2) (kas_tail3 m k p):=
 (qi h0 (hp.of (mirror_perm _ _ _ _)) _ _).bind λ_ _=>hp.of (mirror_perm _ _ _ _)
theorem jO{p:Array Nat}(hp:Lo n p)(m k:Nat):InR n (λr=>Lo n r.2) (kas_descPart m k p):=
 (jx h0 _ _ _ _ hp).bind λr hr=>.ite (pd h0 (hr.of (mirror_perm _ _ _ _)) _ _) (pd h0 hr _ _)
theorem xn{p:Array Nat}(hp:Lo n p)(k:Nat):InR n (λr=>Lo n r.2) (kas_count k p):=
 (qi h0 hp _ _).bind λm _=>.ite hp (.ite ⟨hp.at h0 _,hp.at h0 _,λc=>.ite hp (jO h0 (hp.of (mirror_perm _ _ _ _)) _ _)⟩ (jO h0 hp _ _))
theorem j5{p:Array Nat}(hp:Lo n p)(k:Nat):∀f l r,InR n (λ_=>True) (kas_place p k f l r)
 |0,l,r=>trivial
 |f+1,l,r=>.ite trivial ⟨hp.at h0 _,hp.at h0 _,λc=>.ite (j5 hp k f _ _) (j5 hp k f _ _)⟩
theorem vn:∀f p k,Lo n p->InR n (λ_=>True) (kas_bin f p k)
 |0,p,k,hp=>trivial
 |f+1,p,k,hp=>(j5 h0 hp k _ _ _).bind λl _=>vn f _ _ (hp.of (bubble_perm _ _ _))
theorem yk:InR n (λ_=>True) (kas_sort n):=
 (xn h0 (λx hx=>by simpa using hx) n).bind λr hr=>.ite (vn h0 _ _ _ hr) trivial
end
theorem Dr{α:Type}{n:Nat}{c:Nat->Nat->Bool}{cmp:Nat->Nat->(Bool->Shared->Prop)->Shared->Prop}{P:α->Prop}{Q:α->Shared->Prop}{s:Shared}(h:∀i j C,i<n->j<n->C (c i j) s->cmp i j C s) :
  ∀{t:KasT α},InR n P t->Q (ev c t) s->t.kasWp cmp Q s
 |.ret a,_,q=>q
 |.ask i j k,r,q=>h i j _ r.1 r.2.1 (Dr h (r.2.2 (c i j)) q)
def klt(a b:Int×List Int):Bool:=if a.1=b.1 then(if a.2=b.2 then false else HT.lexLt a.2 b.2) else decide (a.1<b.1)
section
variable {X:Cx} {pins:List (Addr×Obj)} {σ:St} {H:Hp} {s:Shared}
def KeyR(K:Frag)(H:Hp)(y:V)(k:Int×List Int):Prop:=∃a t,y=.ref a/\H a=some (.tup [.int k.1,.ref t])/\SqT K H t (k.2.map V.int)
theorem Ec{A:Around}{E:Value->Shared->Prop}{x y:V}{u v:Value}{j k:Int×List Int}{Q:Bool->Shared->Prop}(hu:A.units+64<cLine)(I:Inv X pins σ H s)(hx:KeyR X.K H x j)(hy:KeyR X.K H y k)(rx:F4 x u)(ry:F4 y v)
  (h:Q (klt j k) s):wpAny (model X.prog X.w) A (keyLt' (tuples' true) u v) Q E s:=by
 obtain⟨a,ta,rfl,ha,hta⟩:=hx;obtain⟨b,tb,rfl,hb,htb⟩:=hy;cases rx;cases ry;obtain⟨_,its,r1,p1⟩:=(show F6 X.prog X.w H s.heap a (.tup _) from I.hok a _ ha)
 obtain⟨_,its2,r2,p2⟩:=(show F6 X.prog X.w H s.heap b (.tup _) from I.hok b _ hb)
 obtain⟨⟨cls,dd,data,sl⟩,ho,hc,n,hd⟩:=id p1;obtain⟨⟨cls2,dd2,data2,sl2⟩,ho2,hc2,n2,hd2⟩:=id p2;cases r1 with
 |cons q1 r1=>cases r1 with
  |cons q2 r1=>
   cases r1;cases r2 with
   |cons q3 r2=>cases r2 with
    |cons q4 r2=>
     cases r2;obtain⟨t1,rfl⟩:=q1;obtain⟨t3,rfl⟩:=q3;cases q2;cases q4;refine kat_lt ho hd ho2 hd2 (kat_cons (wpAny_eqBool_int (kat_go (λe=>kat_yes ?_) λe=>kat_no ?_)))
     ·have e1:j.1=k.1:=by simpa using e
      unfold klt at h;rw[if_pos e1] at h;obtain⟨as,ra⟩:=(iC hta).reads I rfl;obtain⟨bs,rb⟩:=(iC htb).reads I rfl;obtain⟨jts,r3,p3,_⟩:=I.tuple hta;obtain⟨jts2,r4,p4,_⟩:=I.tuple htb;have eqr:SeqAt.EqAt A s (.ref ta) (.ref tb) (decide (j.2=k.2)):=by
       by_cases hab:ta=tb
       ·subst hab;rw[decide_eq_true (mV (I.tuple_inj hta htb))];exact SeqAt.EqAt.same _
       ·exact SeqAt.EqAt.of_refs hab λprog w E Q' hq=>eq_dataH ra rb (dB _) (dB _) hu (by rw[mD];exact hq)
      refine kat_cons (eqr _ _ _ _ ?_);refine kat_go (λe=>kat_yes (kat_nil ?_)) λe=>kat_no ?_
      ·rw[if_pos (of_decide_eq_true e)] at h;exact h
      ·rw[if_neg (of_decide_eq_false e)] at h;exact kat_one _ _ (HT.lt_tupInts p3 p4 (i9 r3) (i9 r4) (by omega) h)
     ·have e1:¬j.1=k.1:=by simpa using e
      unfold klt at h;rw[if_neg e1] at h;exact oneLt_int h
end
section
variable {X:Cx} {pins:List (Addr×Obj)} {σ:St} {H:Hp} {s:Shared}
theorem KeyR.but{K:Frag}{H H':Hp}{p:Addr}{xs:List V}{y:V}{k:Int×List Int}(hp:H p=some (.lst xs))(hk:∀c o,H c=some o->c≠p->H' c=some o)(h:KeyR K H y k):KeyR K H' y k:=by
 obtain⟨a,t,rfl,ha,ht⟩:=h;refine⟨a,t,rfl,hk _ _ ha (iM ha hp (by intro z;cases z)),?_⟩
 rcases ht with(h|⟨o,h⟩)|h
 ·exact .inl (.inl (hk _ _ h (iM h hp (by intro z;cases z))))
 ·exact .inl (.inr ⟨o,hk _ _ h (iM h hp (by intro z;cases z))⟩)
 ·exact .inr h
theorem KeyR.same{K:Frag}{H H':Hp}{y:V}{k:Int×List Int}(e:FX H H')(h:KeyR K H y k):KeyR K H' y k:=by
 obtain⟨a,t,rfl,ha,ht⟩:=h;exact⟨a,t,rfl,e _ _ ha,e.sqT ht⟩
abbrev Go(K:Frag)(H:Hp):List V->List (Int×List Int)->Prop:=Paired (KeyR K H)
theorem Go.imp{K:Frag}{H H':Hp}(hh:∀y k,KeyR K H y k->KeyR K H' y k):∀{ys:List V} {ks:List (Int×List Int)},Go K H ys ks->Go K H' ys ks
 |_,_,.nil=>.nil
 |_,_,.cons q r=>.cons (hh _ _ q) (Go.imp hh r)
theorem Go.snoc{K:Frag}{H:Hp}{y:V}{k:Int×List Int}(q:KeyR K H y k):∀{ys:List V} {ks:List (Int×List Int)},Go K H ys ks->Go K H (ys++[y]) (ks++[k])
 |_,_,.nil=>.cons q .nil
 |_,_,.cons p r=>.cons p (Go.snoc q r)
theorem Go.get{K:Frag}{H:Hp}:∀{ys:List V} {ks:List (Int×List Int)} {i:Nat} {y:V},Go K H ys ks->ys[i]? = some y->∃k,ks[i]? = some k/\KeyR K H y k
 |_,_,0,y,.cons q r,e=>by cases e;exact⟨_,rfl,q⟩
 |_::_,_::_,i+1,y,.cons q r,e=>Go.get (i:=i) r e
theorem pQ(I:Inv X pins σ H s):∀{ys:List V} {ks:List (Int×List Int)} {us:List Value},Go X.K H ys ks->F1 ys us->∃fs:List Value,KatTups s.heap us fs/\fs.length=us.length/\∀v∈fs,∃n t,v=Value.int n t
 |_,_,_,.nil,.nil=>⟨[],.nil,rfl,λ_ h=>nomatch h⟩
 |_,_,_,.cons q r,.cons p v=>by
  obtain⟨fs,h1,h2,h3⟩:=pQ I r v;obtain⟨a,t,rfl,ha,ht⟩:=q;cases p;obtain⟨_,its,r1,p1⟩:=(show F6 X.prog X.w H s.heap a (.tup _) from I.hok a _ ha)
  obtain⟨⟨cls,dd,data,sl⟩,ho,hc,n,hd⟩:=id p1;cases r1 with
  |cons q1 r1=>
   obtain⟨t1,rfl⟩:=q1;refine⟨.int _ t1::fs,.cons ho hc hd rfl h1,by simp[h2],λv hv=>?_⟩
   rcases List.mem_cons.mp hv with rfl|hv
   ·exact⟨_,_,rfl⟩
   ·exact h3 v hv
theorem oK{A:Around}{E:Value->Shared->Prop}{f:Value}{H0:Hp}{D kS:Addr}{φ:Heap->Prop}{key:V->Int×List Int}{body:Value->PUnit->Sem (ForInStep PUnit)}{R:PUnit->Shared->Prop}{all:List V}
  (h0:H0 kS=none) (hn:all.length<64)
  (hf:∀x∈all,∀u H1 s1,F4 x u->Inv X pins σ H1 s1->FX H0 H1->wpAny (model X.prog X.w) A (call f [u]) (λk s2=>∃y H2,Inv X pins σ H2 s2/\F4 y k/\FX H1 H2/\KeyR X.K H2 y (key x)) (λ_ _=>False) s1)
  (hb:∀u (s1:Shared) (C:Shared->Prop),wpAny (model X.prog X.w) A (call f [u]) (λk s2=>∃(ks:List Value) (n:Nat),s2.heap.get? kS=some (seqObj "list" (List.toArray ks) n)/\ks.length<64/\C { s2 with heap:=s2.heap.update kS (Obj.mapSeq (·.push k)) }) (λ_ _=>False) s1->
   wpAny (model X.prog X.w) A (body u ⟨⟩) (λr s2=>r=.yield ⟨⟩/\C s2) E s1)
  (hR:∀H1 s1 ys ks,Inv X pins σ H1 s1->FX H0 H1->H1 D=some (.ext φ)->H1 kS=some (.lst ys)->Go X.K H1 ys ks->ks=all.map key->R ⟨⟩ s1) :
  ∀(r pre:List V) (us:List Value) (ys:List V) (H1:Hp) (s1:Shared),all=pre++r->F1 r us->Inv X pins σ H1 s1->FX H0 H1->H1 D=some (.ext φ)->H1 kS=some (.lst ys)->Go X.K H1 ys (pre.map key)->
   wpAny (model X.prog X.w) A (forIn us PUnit.unit body) R E s1
 |[],pre,us,ys,H1,s1,ea,rv,I,sm,hD,hk,kr=>by
  cases rv;rw[forIn_nil];exact wpAny_pure (hR H1 s1 ys _ I sm hD hk kr (by rw[ea,append_nil]))
 |x::r,pre,us,ys,H1,s1,ea,rv,I,sm,hD,hk,kr=>by
  cases rv with
  |cons q rv=>
   rename_i u us;rw[forIn_cons];have hx:x∈all:=by rw[ea];simp
   have hyl:ys.length=pre.length:=by have:=Paired.length kr;rw[length_map] at this;exact this
   have hal:all.length=pre.length+(r.length+1):=by rw[ea,length_append,length_cons]
   refine wpAny_bind (wpAny_mono (hb u s1 (λs2=>wpAny (model X.prog X.w) A (forIn us PUnit.unit body) R E s2) (wpAny_mono (hf x hx u H1 s1 q I sm) (λk s2 ⟨y,H2,I2,ry,sm2,ky⟩=>?_) λ_ _ z=>z)) (λz s2 ⟨ez,hz⟩=>?_) λ_ _ z=>z)
   ·obtain⟨_,its,n,rk,lk,ek⟩:=I2.lstM (sm2 _ _ hk);refine⟨its,n,ek,by omega,?_⟩
    have I3:=I2.lset (t':=s2.toks) (f:=(·.push k)) (its':=its++[k]) (ys:=ys++[y]) (sm2 _ _ hk) ek (by simp) (rk.append (.cons ry .nil)) (by rw[length_append,length_singleton,sizeLine_eq];omega)
    have keep:∀c o,H2 c=some o->c≠kS->upd H2 kS (.lst (ys++[y])) c=some o:=λc o e ne=>by rw[ar ne];exact e
    refine oK h0 hn hf hb hR r (pre++[x]) us (ys++[y]) _ _ (by rw[ea];simp) rv I3 (λc o e=>?_) ?_ FY ?_
    ·exact keep c o (sm2 _ _ (sm c o e)) (al e h0)
    ·exact keep D _ (sm2 _ _ hD) (iM hD hk (by intro z;cases z))
    ·rw[map_append];exact Go.snoc (ky.but (sm2 _ _ hk) keep) (Go.imp (λ_ _ z=>(z.same sm2).but (sm2 _ _ hk) keep) kr)
   ·subst ez;exact hz
end
theorem pF:∀{a b c:List Int},HT.lexLt a b=true->HT.lexLt b c=true->HT.lexLt a c=true
 |[],[],_,h,_=>by simp[HT.lexLt] at h
 |[],_::_,[],_,h=>by simp[HT.lexLt] at h
 |[],_::_,_::_,_,_=>rfl
 |_::_,[],_,h,_=>by simp[HT.lexLt] at h
 |_::_,_::_,[],_,h=>by simp[HT.lexLt] at h
 |x::a,y::b,z::c,h1,h2=>by
  rw[HT.lexLt_cons] at h1 h2 ⊢
  by_cases e1:x=y
  ·subst e1;rw[if_pos rfl] at h1
   by_cases e2:x=z
   ·rw[if_pos e2] at h2 ⊢;exact pF h1 h2
   ·rw[if_neg e2] at h2 ⊢;exact h2
  ·rw[if_neg e1] at h1;have l1:=of_decide_eq_true h1
   by_cases e2:y=z
   ·subst e2;rw[if_neg e1];exact h1
   ·rw[if_neg e2] at h2;have l2:=of_decide_eq_true h2;rw[if_neg (by omega)]
    exact decide_eq_true (by omega)
theorem oM:∀{a b:List Int},a≠b->HT.lexLt a b=false->HT.lexLt b a=true
 |[],[],h,_=>absurd rfl h
 |[],_::_,_,h=>by simp[HT.lexLt] at h
 |_::_,[],_,_=>rfl
 |x::a,y::b,h,h1=>by
  rw[HT.lexLt_cons] at h1 ⊢
  by_cases e:x=y
  ·subst e;rw[if_pos rfl] at h1 ⊢;exact oM (λz=>h (by rw[z])) h1
  ·rw[if_neg e] at h1;rw[if_neg (λz=>e z.symm)]
   have:=of_decide_eq_false h1;exact decide_eq_true (by omega)
theorem qX:∀a:List Int,HT.lexLt a a=false
 |[]=>rfl
 |x::a=>by rw[HT.lexLt_cons,if_pos rfl];exact qX a
theorem uP(a b:Int×List Int):klt a b=if a.1=b.1 then HT.lexLt a.2 b.2 else decide (a.1<b.1):=by
 unfold klt
 by_cases e:a.2=b.2
 ·rw[if_pos e,e,qX]
 ·rw[if_neg e]
theorem oY{a b c:Int×List Int}(h1:klt a b=true)(h2:klt b c=true):klt a c=true:=by
 rw[uP] at *
 by_cases e1:a.1=b.1
 ·rw[if_pos e1] at h1
  by_cases e2:b.1=c.1
  ·rw[if_pos e2] at h2;rw[if_pos (e1.trans e2)];exact pF h1 h2
  ·rw[if_neg e2] at h2;rw[if_neg (by rw[e1];exact e2),e1]
   exact h2
 ·rw[if_neg e1] at h1;have l1:=of_decide_eq_true h1
  by_cases e2:b.1=c.1
  ·rw[if_neg (by rw[<- e2];exact e1),<- e2]
   exact h1
  ·rw[if_neg e2] at h2;have l2:=of_decide_eq_true h2;rw[if_neg (by omega)]
   exact decide_eq_true (by omega)
theorem xq{a b:Int×List Int}(h:a≠b)(h1:klt a b=false):klt b a=true:=by
 rw[uP] at *
 by_cases e:a.1=b.1
 ·rw[if_pos e] at h1;rw[if_pos e.symm];exact oM (λz=>h (Prod.ext e z)) h1
 ·rw[if_neg e] at h1;have:=of_decide_eq_false h1;rw[if_neg (λz=>e z.symm)]
  exact decide_eq_true (by omega)
theorem uR(a:Int×List Int):klt a a=false:=by rw[uP,if_pos rfl,qX]
def kAt(ks:List (Int×List Int))(i j:Nat):Bool:=klt (ks.getD i (0,[])) (ks.getD j (0,[]))
theorem BM{ks:List (Int×List Int)}(hn:ks.Nodup):Tot ks.length (kAt ks):=by
 refine⟨λi j k _ _ _=>oY,λi j hi hj hne h=>xq (λz=>hne ?_) h⟩
 have g:∀{i:Nat} (hi:i<ks.length),ks.getD i (0,[])=ks[i]:=λhi=>by simp[List.getD,hi]
 rw[g hi,g hj] at z;exact(getElem_inj hn).mp z
section
variable {X:Cx} {pins:List (Addr×Obj)} {σ:St} {H:Hp} {s:Shared}
theorem oO{A:Around}{E:Value->Shared->Prop}{P:PySem.Fin->Shared->Prop}{H0:Hp}{D kS:Addr}{e1:Nat}{st:SortSt}{out:List Value}{ys zs:List V}(hout:(arrOf st).map (·.2)=List.toArray out)(hz:out.length<64)(hf:failedOf st=none)
  (I:Inv X pins σ H s) (h0:H0 kS=none) (h1:H0 D=none) (sm:FX H0 H) (hD:H D=some (.ext λh=>h.get? D=some (seqObj "list" #[] e1))) (hk:H kS=some (.lst ys)) (rv:F1 zs out.reverse)
  (h:∀H2 s2,Inv X pins σ H2 s2->FX H0 H2->H2 D=some (.lst zs)->P (.done (.ret .none)) s2):wpAny (model X.prog X.w) A (ksk_tail D true e1 (.ref kS) st) P E s:=by
 have ne:D≠kS:=iM hD hk (by intro z;cases z)
 have hzl:zs.length=out.length:=by rw[rv.length,length_reverse]
 obtain⟨lz,its,n,rk,lk,ek⟩:=I.lstM hk;have I1:=I.lset (t':=s.toks) (f:=λ_=>#[]) (its':=[]) (ys:=[]) hk ek rfl .nil (Nat.zero_le _)
 have hD1:upd H kS (.lst []) D=some (.ext λh=>h.get? D=some (seqObj "list" #[] e1)):=by rw[ar ne];exact hD
 have eD:(s.heap.update kS (Obj.mapSeq λ_=>#[])).get? D=some (seqObj "list" #[] e1):=(show F6 X.prog X.w _ _ D (.ext _) from I1.hok D _ hD1).1
 have q:=get?_update_seq eD (λ_=>List.toArray out.reverse)
 have I2:Inv X pins σ (upd (upd H kS (.lst [])) D (.lst zs)) { s with heap:=(s.heap.update kS (Obj.mapSeq λ_=>#[])).update D (Obj.mapSeq λ_=>List.toArray out.reverse),toks:=s.toks }:=
  I1.write (x:=D) (e:=D) (by rw[hD1];exact trivial) (.inl rfl) (λb' u hb hu=>(get?_update_other _ _ (Ne.symm hb)).trans hu) ⟨_,q⟩ ⟨by rw[hzl,sizeLine_eq];omega,out.reverse,_,rv,q⟩
 unfold ksk_tail;dsimp only;rw[hout,kat_outs,show katRev true out=out.reverse from if_pos rfl]
 refine wpAny_bind (listUpdate_at ek rfl ?_ (by rw[size_toArray,<- lk];exact lz) (Nat.zero_le _))
 refine wpAny_bind (wpAny_letGo ?_);refine wpAny_bind (seqEpoch_at eD rfl ?_);refine wpAny_bind (listUpdate_at eD rfl ?_ (Nat.zero_le _) (by rw[size_toArray,length_reverse,sizeLine_eq];omega))
 rw[hf];simp only[bne_self_eq_false,Bool.false_eq_true,if_false];refine wpAny_pure (h _ _ I2 (λc o e=>?_) FY)
 rw[ar (al e h1),ar (al e h0)];exact sm c o e
end
theorem lP{α:Type}{l:List α}{d:α}{i:Nat}(h:i<l.length):l.getD i d=l[i]:=by simp[List.getD,h]
theorem xg{α:Type}(l:List α)(d:α):(List.range l.length).map (λi=>l.getD i d)=l:=by
 apply ext_getElem
 ·simp
 ·intro i h1 h2;rw[getElem_map,getElem_range,lP h2]
def mv{α:Type}(p:Array Nat)(xs:List α)(d:α):List α:=p.toList.map λi=>xs.reverse.getD i d
theorem wF{α:Type}{p:Array Nat}{xs:List α}{d:α}(hp:Pm xs.length p):((mv p xs d).reverse).Perm xs:=by
 refine(reverse_perm _).trans (((hp.map _).trans ?_).trans (reverse_perm xs));rw[show List.map (λi=>xs.reverse.getD i d) (List.range xs.length)=xs.reverse by rw[<- length_reverse (as:=xs)];exact xg _ _]
theorem Pm.mem{n:Nat}{p:Array Nat}(hp:Pm n p){i:Nat}(h:i∈p.toList):i<n:=List.mem_range.mp (hp.mem_iff.mp h)
theorem xi{p:Array Nat}{xs:List V}{us:List Value}(hp:Pm xs.length p)(rv:F1 xs us):F1 (mv p xs .non) (mv p us Value.none):=by
 have r:=rv.reverse;have go:∀l:List Nat,(∀i∈l,i<xs.length)->F1 (l.map λi=>xs.reverse.getD i .non) (l.map λi=>us.reverse.getD i Value.none):=by
  intro l
  induction l with
  |nil=>intro _;exact .nil
  |cons i l ih=>
   intro h;have hi:i<xs.reverse.length:=by rw[length_reverse];exact h i (by simp)
   refine .cons ?_ (ih λj hj=>h j (by simp[hj]))
   obtain⟨u,e,q⟩:=r.get (getElem?_eq_getElem hi);show F4 (xs.reverse.getD i .non) (us.reverse.getD i Value.none);rw[lP hi,getD_eq_getElem?_getD,e];exact q
 exact go _ λi hi=>hp.mem hi
theorem xJ{p:Array Nat}{xs:List V}{key:V->Int×List Int}(hp:Pm xs.length p)(hs:So (kAt (xs.map key).reverse) p xs.length):((mv p xs .non).reverse).Pairwise λx y=>klt (key y) (key x)=true:=by
 rw[List.pairwise_reverse];unfold mv;rw[List.pairwise_map,List.pairwise_iff_getElem];intro i j hi hj hij;rw[Array.length_toList,hp.sz] at hi hj;have z:=hs i j hij hj;unfold kAt at z;have g:∀k (hk:k<xs.length),key (xs.reverse.getD (p.getD k 0) .non)=(xs.map key).reverse.getD (p.getD k 0) (0,[]):=λk hk=>by
  have h1:p.getD k 0<xs.length:=hp.lt hk;rw[lP (by rw[length_reverse];exact h1),lP (by rw[length_reverse,length_map];exact h1)]
  simp
 rw[<- g i hi,<- g j hj,tf (by rw[hp.sz];exact hi),tf (by rw[hp.sz];exact hj)] at z
 exact z
section
variable {X:Cx} {pins:List (Addr×Obj)} {σ:St} {H:Hp} {s:Shared}
theorem Ad{A:Around}{E:Value->Shared->Prop}{P:PySem.Fin->Shared->Prop}{H0:Hp}{D kS:Addr}{e1:Nat}{xs ys:List V}{us its:List Value}{key:V->Int×List Int}(hu:A.units+64<cLine)
  (I:Inv X pins σ H s) (h0:H0 kS=none) (h1:H0 D=none) (sm:FX H0 H) (hD:H D=some (.ext λh=>h.get? D=some (seqObj "list" #[] e1))) (hk:H kS=some (.lst ys)) (kr:Go X.K H ys (xs.map key)) (ru:F1 ys us) (rv:F1 xs its)
  (h64:xs.length<64) (nd:(xs.map key).Nodup)
  (h:∀H2 s2 zs,Inv X pins σ H2 s2->FX H0 H2->H2 D=some (.lst zs)->zs.Perm xs->zs.Pairwise (λx y=>klt (key y) (key x)=true)->P (.done (.ret .none)) s2):wpAny (model X.prog X.w) A (ksk_end D true its.toArray e1 (.ref kS) us.toArray) P E s:=by
 have lx:=rv.length;have lu:=ru.length;have ly:ys.length=xs.length:=by have:=Paired.length kr;rw[length_map] at this;exact this
 have hl:us.length=its.length:=by omega
 unfold ksk_end;dsimp only;rw[if_pos rfl];refine wpAny_bind (wpAny_rule ?_)
 by_cases h2:its.toArray.size<2
 ·rw[if_pos h2,if_pos h2];refine wpAny_bind (wpAny_pure ?_);rw[StateT.run_pure];refine wpAny_bind (wpAny_pure ?_);dsimp only;rw[kat_pairs true hl,show katRev true us=us.reverse from if_pos rfl,show katRev true its=its.reverse from if_pos rfl]
  refine oO (st:=SortSt.mk' general' _ #[] 7 none) (out:=its.reverse) (zs:=xs) ?_ (by rw[length_reverse];omega) rfl I h0 h1 sm hD hk (by rw[List.reverse_reverse];exact rv) λH2 s2 I2 sm2 q=>h H2 s2 xs I2 sm2 q (.refl _) ?_
  ·show Array.map (·.2) ((us.reverse.toArray).zip (its.reverse.toArray))=_;apply Array.toList_inj.mp;rw[Array.toList_map,ksk_zip];exact List.map_snd_zip (by simp[hl])
  ·rw[size_toArray] at h2
   match xs,(by omega:xs.length<2) with
   |[],_=>exact .nil
   |[x],_=>exact List.pairwise_singleton _ _
 ·rw[if_neg h2,if_neg h2];rw[size_toArray] at h2;obtain⟨fs,t1,t2,t3⟩:=pQ I kr ru;refine wpAny_bind (kat_kind (T:=.type "int") t1 (by omega) (λv hv=>?_) (by decide) ?_)
  ·obtain⟨n,t,rfl⟩:=t3 v hv;exact Looks.of_pure rfl
  rw[show(Value.type "int" != Value.type "tuple")=true by decide,kat_pairs true hl,show katRev true us=us.reverse from if_pos rfl,show katRev true its=its.reverse from if_pos rfl]
  have tot:=BM (ks:=(xs.map key).reverse) ((reverse_perm _).nodup_iff.mpr nd);rw[length_reverse,length_map] at tot;obtain⟨hp,hs⟩:=CQ tot (by omega)
  refine wpAny_bind (wpAny_mono (kat_run (vs:=its.reverse) (ks:=us.reverse) (G:=λp s'=>p=ev (kAt (xs.map key).reverse) (kas_sort xs.length)/\s'=s)
   (Q:=λst' s'=>s'=s/\failedOf st'=none/\arrOf st'=(ev (kAt (xs.map key).reverse) (kas_sort xs.length)).map (kas_item ((List.toArray us.reverse).zip (List.toArray its.reverse))))
   (by rw[length_reverse,length_reverse];exact hl) (by rw[length_reverse];omega) (by rw[length_reverse];omega) (λp st' s' a1 a2 a3 a4=>⟨a4.2,a3,by rw[<- a4.1];exact a2⟩) ?_) ?_ λ_ _ x=>x)
  ·rw[length_reverse,<- lx];refine Dr (c:=kAt (xs.map key).reverse) (λi j C hi hj hC=>?_) (yk (by omega)) ⟨rfl,rfl⟩
   show wpAny _ _ (keyLt' _ (us.reverse.getD i Value.none) (us.reverse.getD j Value.none)) C _ s;have at_:∀i,i<xs.length->∃y u,us.reverse.getD i Value.none=u/\F4 y u/\KeyR X.K H y ((xs.map key).reverse.getD i (0,[])):=λi hi=>by
    have hi':xs.length-1-i<ys.length:=by omega
    obtain⟨k,ek,kk⟩:=Go.get kr (getElem?_eq_getElem hi');obtain⟨u,eu,ru'⟩:=ru.get (getElem?_eq_getElem hi');refine⟨ys[xs.length-1-i],u,?_,ru',?_⟩
    ·rw[getD_eq_getElem?_getD,List.getElem?_reverse (by omega),show us.length-1-i=xs.length-1-i by omega,eu]
     rfl
    ·rw[getD_eq_getElem?_getD,List.getElem?_reverse (by rw[length_map];exact hi),length_map,ek]
     exact kk
   obtain⟨y1,u1,e1,r1,k1⟩:=at_ i hi;obtain⟨y2,u2,e2,r2,k2⟩:=at_ j hj;rw[e1,e2];exact Ec hu I k1 k2 r1 r2 hC
  ·rintro⟨⟨⟩,st'⟩ s' ⟨es,hf,har⟩;dsimp only at es hf har ⊢;subst es;refine oO (out:=mv (ev (kAt (xs.map key).reverse) (kas_sort xs.length)) its Value.none) (zs:=(mv (ev (kAt (xs.map key).reverse) (kas_sort xs.length)) xs .non).reverse) (kat_snds (by rw[length_reverse,length_reverse];exact hl) har) ?_ hf I h0 h1 sm hD hk (xi hp rv).reverse
    λH2 s2 I2 sm2 q=>h H2 s2 _ I2 sm2 q (wF hp) (xJ hp hs)
   unfold mv;rw[length_map,Array.length_toList,hp.sz];exact h64
end
section
variable {X:Cx} {pins:List (Addr×Obj)} {σ:St} {H:Hp} {s:Shared}
def EF(X:Cx)(pins:List (Addr×Obj))(σ:St)(A:Around)(f:Value)(H0:Hp)(xs:List V)(key:V->Int×List Int):Prop:=
 ∀x∈xs,∀u H1 s1,F4 x u->Inv X pins σ H1 s1->FX H0 H1->wpAny (model X.prog X.w) A (call f [u]) (λk s2=>∃y H2,Inv X pins σ H2 s2/\F4 y k/\FX H1 H2/\KeyR X.K H2 y (key x)) (λ_ _=>False) s1
theorem xm{A:Around}{E:Value->Shared->Prop}{P:PySem.Fin->Shared->Prop}{H0:Hp}{D:Addr}{f:Value}{xs:List V}{key:V->Int×List Int}(hu:A.units+64<cLine)
  (I:Inv X pins σ H s) (h1:H0 D=none) (sm:FX H0 H) (hD:H D=some (.lst xs)) (h64:xs.length<64) (nd:(xs.map key).Nodup) (hf:EF X pins σ A f H0 xs key)
  (h:∀H2 s2 zs,Inv X pins σ H2 s2->FX H0 H2->H2 D=some (.lst zs)->zs.Perm xs->zs.Pairwise (λx y=>klt (key y) (key x)=true)->P (.done (.ret .none)) s2):wpAny (model X.prog X.w) A (ksk_tree D f true) P E s:=by
 obtain⟨lz,its,n,rv,lk,e⟩:=I.lstM hD;have q:=get?_update_seq e (λ_=>#[])
 have I1:Inv X pins σ (upd H D (.ext λh=>h.get? D=some (seqObj "list" #[] (if ((#[]:Array Value).size==its.toArray.size)=true then n else n+1)))) { s with heap:=s.heap.update D (Obj.mapSeq λ_=>#[]),toks:=s.toks }:=
  I.write (x:=D) (e:=D) (by rw[hD];exact trivial) (.inl rfl) (λb' u hb hu=>(get?_update_other _ _ (Ne.symm hb)).trans hu) ⟨_,q⟩ ⟨q,⟨_,q⟩,λ_ _ p k=>k _ p⟩
 have I2:=I1.laid (t':=s.toks) (o:=.tup xs) (λb ob z=>get?_push_of_some { cls:=.type "tuple",data:=.seq its.toArray } z) (Nat.le_refl _) ⟨by rw[sizeLine_eq];omega,its,rv,IsTup.new _ _⟩
 have I3:=I2.lnew (t':=s.toks) (ys:=[]) (its:=[]) .nil (Nat.zero_le _);have nT:=I1.fresh;have nK:=I2.fresh;have hD1:upd H D (.ext λh=>h.get? D=some (seqObj "list" #[] (if ((#[]:Array Value).size==its.toArray.size)=true then n else n+1))) D=some (.ext λh=>h.get? D=some (seqObj "list" #[] (if ((#[]:Array Value).size==its.toArray.size)=true then n else n+1))):=FY
 have s1:FX H0 (upd H D (.ext λh=>h.get? D=some (seqObj "list" #[] (if ((#[]:Array Value).size==its.toArray.size)=true then n else n+1)))):=sm.put h1
 have hD2:=FX.new (o:=.tup xs) nT _ _ hD1;have s2:=s1.trans (FX.new (o:=.tup xs) nT);have hD3:=FX.new (o:=.lst []) nK _ _ hD2;have s3:=s2.trans (FX.new (o:=.lst []) nK);have hK0:=s2.free nK;unfold ksk_tree;refine wpAny_bind (listItems_at e rfl ?_);refine wpAny_bind (listUpdate_at e rfl ?_ (by rw[size_toArray,sizeLine_eq];omega) (Nat.zero_le _))
 refine wpAny_bind (seqEpoch_at q rfl ?_);refine wpAny_bind (wpAny_newTuple ?_ (by show its.length<=_;rw[sizeLine_eq];omega))
 refine wpAny_bind (wpAny_newList ?_ (Nat.zero_le _));refine wpAny_holding ?_;unfold ksk_rest;refine wpAny_bind (wpAny_rule ?_)
 first
  |rw[List.forIn_toArray]
  |(rw[<- Array.forIn_toList];simp only[List.toList_toArray])
  |rw[<- Array.forIn_toList]
 refine wpAny_bind (oK (all:=xs) hK0 h64 hf (λu s1 C hc=>?_) (λH4 s4 ys ks I4 sm4 hD4 hk4 kr ek=>?_) xs [] its [] _ _ rfl rv I3 s3 hD3 FY .nil)
 ·refine wpAny_bind (wpAny_attempt (wpAny_mono hc (λk s5 ⟨ks,m,eo,hz,hC⟩=>?_) λ_ _ z=>z.elim))
  dsimp only;refine wpAny_bind (listUpdate_at eo rfl ?_ (by rw[size_toArray,sizeLine_eq];omega) (Nat.le_trans (Nat.le_of_eq (Array.size_push ..)) (by rw[size_toArray,sizeLine_eq];omega)))
  exact wpAny_pure ⟨rfl,hC⟩
 ·dsimp only;obtain⟨_,us,m,ru,_,eo⟩:=I4.lstM hk4;refine wpAny_bind (listItems_at eo rfl ?_);subst ek;exact Ad hu I4 hK0 h1 sm4 hD4 hk4 kr ru rv h64 nd h
end
def DRaw(d:Addr)(es:Array DictEntry)(ep:Nat)(h:Heap):Prop:=∃o,h.get? d=some o/\o.ExactDict/\o.data=.dict es ep
section
variable {prog:Program} {w:World} {A:Around} {E:Value->Shared->Prop} {s:Shared} {d it:Addr} {es:Array DictEntry} {ep i:Nat}
theorem DRaw.typeIs(h:DRaw d es ep s.heap):s.TypeIs (.ref d) "dict":=let ⟨o,ho,hc,_⟩:=h;⟨o,ho,hc.1⟩
theorem DRaw.at{h h':Heap}(x:DRaw d es ep h)(e:∀o,h.get? d=some o->h'.get? d=some o):DRaw d es ep h':=let ⟨o,ho,r⟩:=x;⟨o,e _ ho,r⟩
theorem zj{Q:Value->Shared->Prop}(hd:(d==sysModules)=false)(hm:DRaw d es ep s.heap)
  (hQ:Q (.ref s.heap.objs.size) { s with heap:=s.heap.push { cls:=.type "dict_keyiterator",data:=.fields #[.ref d,.int 0 0,.int es.size 0,.int ep 0] } }):wpAny (model prog w) A (pyIter (.ref d)) Q E s:=by
 have hT:=hm.typeIs;obtain⟨o,ho,_,hdat⟩:=id hm;refine wpAny_pyIter_slot hT F.slot_dict_iter (wpAny_call_entry F.slot_dict_iter hT F.entry_dict_iter ?_ (F.args_dict_iter_1 _));unfold Builtin.«dict.__iter__» Builtin.Dict.dictSlotNone;refine wpAny_bind (wpAny_bind (wpAny_notOrdered_dict hT (wpAny_pure ?_)));show wpAny _ _ (Builtin.Dict.showsAll d >>= _) _ _ s;unfold Builtin.Dict.showsAll;rw[if_neg (by rw[hd];exact Bool.false_ne_true)]
 refine wpAny_bind (wpAny_pure (wpAny_bind (wpAny_dictEntries ho hdat (wpAny_bind (wpAny_dictEpoch ho hdat ?_)))));refine wpAny_bind (wpAny_newObj_type (wpAny_pure ⟨_,rfl, "dict_keyiterator",_,⟨_,get?_push_size _ rfl,rfl⟩,F.slot_dict_keyiterator_next.lookup,?_⟩));simpa[rawInt] using hQ
theorem sU{Q:Option Value->Shared->Prop}(hh:A.handled=none)(hit:s.heap.IsKeyIter it d i es.size ep)(hm:DRaw d es ep s.heap)
  (h1:∀(hi:i<es.size) h',h'.IsKeyIter it d (i+1) es.size ep->Heap.SameBut it s.heap h'->Q (some es[i].key) { s with heap:=h' })
  (h2:es.size<=i->∀h',Heap.ExtBut it s.heap h'->Q none { s with heap:=h' }):wpAny (model prog w) A (pyNext (.ref it)) Q E s:=by
 obtain⟨o,ho,hc,hd⟩:=id hit;obtain⟨od,hod,_,hdd⟩:=id hm;have hT:=hit.typeIs;unfold pyNext;refine wpAny_bind (wpAny_attempt (wpAny_callSpecial?_slot (name:=Str.ofString "__next__") hT F.slot_dict_keyiterator_next (wpAny_call_entry F.slot_dict_keyiterator_next hT F.entry_dict_keyiterator_next ?_ (F.args_dict_keyiterator_next_1 _))));refine wpAny_bind (wpAny_pure (wpAny_bind (wpAny_bind ?_)))
 first|refine wpAny_bind (wpAny_typeNameOfWhole_keyiter hT (wpAny_pure ?_))|refine wpAny_bind (wpAny_typeNameOf_keyiter hT (wpAny_pure ?_))
 refine wpAny_bind (wpAny_fieldsOf ho hd ?_);simp only[show Builtin.Dict_items.ownsTuple "dict_keyiterator" = false by decide,Bool.false_eq_true,if_false]
 show wpAny _ _ (if (Value.ref d==Value.none)=true then _ else _) _ _ s
 rw[if_neg (show ¬((Value.ref d==Value.none)=true) from Bool.false_ne_true)]
 refine wpAny_bind (wpAny_pure (wpAny_bind (wpAny_dictEntries hod hdd ?_)));rw[if_neg (by simp)]
 refine wpAny_bind (wpAny_pure (wpAny_bind (wpAny_dictEpoch hod hdd ?_)));rw[if_neg (by simp)]
 refine wpAny_pure ?_
 by_cases hlt:i<es.size
 ·simp only[show ¬((i:Int)<0) from by omega,if_false,Int.toNat_natCast,Array.getElem?_eq_getElem hlt]
  refine wpAny_bind ?_
  first|refine wpAny_bind (wpAny_typeNameOfWhole_keyiter hT (wpAny_pure ?_))|refine wpAny_bind (wpAny_typeNameOf_keyiter hT (wpAny_pure ?_))
  refine wpAny_bind (wpAny_isOneOf_keyiter hT ?_);show wpAny _ _ (setField (.ref it) 1 (rawInt ((i:Int)+1)) >>= _) _ _ s;refine wpAny_bind (wpAny_setField ho hd (by simp) ?_)
  have hit':(s.heap.update it (Obj.mapFields (·.setIfInBounds 1 (rawInt ((i:Int)+1))))).IsKeyIter it d (i+1) es.size ep:=
   ⟨_,get?_update_self _ ho (Obj.isFreed_of_fields (Obj.data_mapFields hd _)),(Obj.cls_mapFields ..).trans hc,by rw[Obj.data_mapFields hd];simp[rawInt]⟩
  refine wpAny_bind (wpAny_holding (wpAny_bind (wpAny_isOneOf_keyiter (s:={ s with heap:=s.heap.update it (Obj.mapFields (·.setIfInBounds 1 (rawInt ((i:Int)+1)))) }) hit'.typeIs ?_)))
  show wpAny _ _ (pure es[i].key) _ _ _;exact wpAny_pure (wpAny_pure ⟨_,rfl,wpAny_pure (h1 hlt _ hit' (Heap.SameBut.update ..))⟩)
 ·simp only[show ¬((i:Int)<0) from by omega,if_false,Int.toNat_natCast,Array.getElem?_eq_none (Nat.le_of_not_lt hlt)]
  refine wpAny_bind ?_
  first|refine wpAny_bind (wpAny_typeNameOfWhole_keyiter hT (wpAny_pure ?_))|refine wpAny_bind (wpAny_typeNameOf_keyiter hT (wpAny_pure ?_))
  show wpAny _ _ (setField (.ref it) 0 .none >>= _) _ _ s;refine wpAny_bind (wpAny_setField ho hd (by simp) ?_)
  show wpAny _ _ (newExc (.type "StopIteration") [] >>= _) _ _ _;refine wpAny_bind ?_;simp only[newExc,newTuple];refine wpAny_bind (wpAny_newObj_type ?_ (by size_fits))
  refine wpAny_bind (m:=firstArgMember _ _) (wpAny_of_eq (a:=Value.none) (by first|rfl|(simp only[firstArgMember];rfl)) ?_)
  refine wpAny_newObj_type ?_ (by size_fits)
  simp only[raiseNew];refine wpAny_bind (wpAny_handled ?_);rw[show A.in1.handled=none from hh]
  refine wpAny_bind (wpAny_pure (wpAny_throw ?_));refine wpAny_bind (wpAny_isInstance (T := "StopIteration") (b:=true) ⟨_,get?_push_size _ rfl,rfl⟩ isSubtype_stop ?_);exact wpAny_pure (h2 (Nat.le_of_not_lt hlt) _ (((Heap.SameBut.update ..).extBut.push _).push _))
theorem xE(hh:A.handled=none)(it d:Addr)(hne:d≠it)(es:Array DictEntry)(ep:Nat) :
  Walks prog w A it [it,d] [it] es.size (λi v=>∃hi:i<es.size,v=es[i].key) (λi h=>h.IsKeyIter it d i es.size ep/\DRaw d es ep h) where
 sub:=λb hb=>by simp at hb;simp[hb]
 frame:=λ_ _ _ st hk=>⟨st.1.at λo e=>hk it (by simp) o e,st.2.at λo e=>hk d (by simp) o e⟩
 item:=λi s Q E hi st hQ=>sU hh st.1 st.2 (λhi h' hit' hs'=>hQ _ h' s.toks ⟨hi,rfl⟩ ⟨hit',st.2.at λo e=>hs'.extBut d o hne e⟩ λb o hb e=>hs'.extBut b o (λh=>hb (by simp[h])) e) λhge=>absurd hi (Nat.not_lt.mpr hge)
 done:=λs Q E st hQ=>sU hh st.1 st.2 (λhi=>absurd hi (Nat.lt_irrefl _)) λ_ h' he'=>hQ h' s.toks λb o hb e=>he' b o (λh=>hb (by simp[h])) e
 self:=λ_ _ _ _ st hQ=>wpAny_pyIter_keyiter st.1 hQ
theorem CV(lo:(d==sysModules)=false):KdlSrc prog w "dict" d d es.size (λi v=>∃hi:i<es.size,v=es[i].key) (DRaw d es ep) where
 type:=λ_ hm=>hm.typeIs
 there:=λ_ ⟨_,ho,_⟩=>⟨lt_size ho,lt_size ho⟩
 keep:=λ_ _ hm hk=>hm.at λo e=>hk d (.inl rfl) o e
 notList:=by decide
 notTuple:=by decide
 hint:=λ_ _ _ _ hm hq=>kdl_hint_dict hm.typeIs hq
 iter:=λ_ s hh hm=>⟨_,_,(λ_ _ hq=>zj lo hm hq),xE hh _ d (Nat.ne_of_lt (let ⟨_,ho,_⟩:=hm;lt_size ho)) es ep,⟨⟨_,get?_push_size _ rfl,rfl,rfl⟩,hm.at λo e=>get?_push_of_some _ e⟩⟩
end
section
variable {X:Cx} {pins:List (Addr×Obj)} {σ:St} {H:Hp} {s:Shared}
def Src(K:Frag)(H:Hp)(x:V)(B:List V->Prop):Prop:=
 (∃l xs,x=.ref l/\SqL K H l xs/\B xs)\/∃d kvs,x=.ref d/\H d=some (.dT kvs)/\∀as,Paired (λ(p:List Key×V) (a:Addr)=>H a=some (.tup (p.1.map kV))) kvs as->B (as.map V.ref)
theorem su{E:Value->Shared->Prop}{A:Around}{x:V}{u:Value}{B:List V->Prop}{R:List Value->Shared->Prop}(hh:A.handled=none)(I:Inv X pins σ H s)(rx:F4 x u)(hs:Src X.K H x B)
  (h:∀h' tk its xs,B xs->F1 xs its->(∀b o,s.heap.get? b=some o->h'.get? b=some o)->xs.length<=sizeLine->R its { s with heap:=h',toks:=tk }):wpAny (model X.prog X.w) A (collect u) R E s:=by
 rcases hs with⟨l,xs,rfl,hl,hB⟩|⟨d,kvs,rfl,hd,hB⟩
 ·cases rx;obtain⟨its,rv,p,hz⟩:=I.list hl;refine collect_list (vs:=its) p.isList (h _ s.toks its xs hB rv (λb o q=>?_) hz) (by rw[<- rv.length];exact hz)
  have hlt:b<s.heap.objs.size:=lt_size q;rw[Heap.get?_update_ne _ _ _ _ (Nat.ne_of_lt hlt),Heap.get?_push_ne _ _ _ (Nat.ne_of_lt hlt)];exact q
 ·cases rx;obtain⟨hz,hm,es3,kt,o,es,ep,h1,h2,h3,h4,h5⟩:=(show F6 X.prog X.w H s.heap d (.dT kvs) from I.hok d _ hd)
  have hsz:es.size=kvs.length:=by rw[<- Array.length_toList,h4,length_map,<- Paired.length kt]
  refine kdu_collect (CV (es:=es) (ep:=ep) hm) hh ⟨o,h1,h2,h3⟩ (by rw[hsz];exact hz) λh' tk acc hk ha=>?_
  have go:∀{l:List (List Key×V)} {m:List (List Key×Addr×Value)},Paired (λ(p:List Key×V) (q:List Key×Addr×Value)=>p.1=q.1/\H q.2.1=some (.tup (p.1.map kV))/\F4 p.2 q.2.2) l m->
    Paired (λ(p:List Key×V) (a:Addr)=>H a=some (.tup (p.1.map kV))) l (m.map (·.2.1)):=by
   intro l m q
   induction q with
   |nil=>exact .nil
   |cons hq t ih=>exact .cons hq.2.1 ih
  have ke:acc.toList=(es3.map (·.2.1)).map Value.ref:=by
   apply ext_getElem?;intro j;rw[Array.getElem?_toList]
   by_cases hj:j<es.size
   ·have hj':j<acc.size:=by rw[ha.1];exact hj
    obtain⟨_,e⟩:=ha.2 j acc[j] (Array.getElem?_eq_getElem hj');rw[Array.getElem?_eq_getElem hj',e];have e2:es.toList[j]? = (es3.map (entryOfKey (tupleKind (cH X.prog X.w))))[j]?:=by rw[h4]
    rw[Array.getElem?_toList,Array.getElem?_eq_getElem hj,getElem?_map] at e2;rw[getElem?_map,getElem?_map];cases e3:es3[j]? with
    |none=>rw[e3] at e2;cases e2
    |some q=>
     rw[e3] at e2;show some es[j].key=some (Value.ref q.2.1);have e4:es[j]=entryOfKey (tupleKind (cH X.prog X.w)) q:=Option.some.inj e2;rw[e4]
     rfl
   ·rw[Array.getElem?_eq_none (by rw[ha.1];omega)]
    symm;apply getElem?_eq_none;rw[length_map,length_map,<- Paired.length kt];omega
  have vals:∀l:List Addr,F1 (l.map V.ref) (l.map Value.ref):=by
   intro l
   induction l with
   |nil=>exact .nil
   |cons a l ih=>exact .cons rfl ih
  rw[ke];exact h h' tk _ _ (hB _ (go kt)) (vals _) hk (by rw[length_map,length_map,<- Paired.length kt];exact hz)
theorem rW{E:Value->Shared->Prop}{x:V}{u:Value}{f:Addr}{B:List V->Prop}{Q:Value->Shared->Prop}(hh:X.A.handled=none)(hu:X.A.in1.in1.units+64<cLine)(I:Inv X pins σ H s)(rx:F4 x u)(hs:Src X.K H x B)
  (hB:∀xs,B xs->xs.length<64/\∃key:V->Int×List Int,(xs.map key).Nodup/\EF X pins σ X.A.in1.in1 (.ref f) H xs key/\
   ∀D H2 s2 zs,H D=none->Inv X pins σ H2 s2->FX H H2->H2 D=some (.lst zs)->zs.Perm xs->zs.Pairwise (λx y=>klt (key y) (key x)=true)->Q (.ref D) s2) :
  wpAny (model X.prog X.w) X.A (call (.builtin "sorted") [u] [(Str.ofString "key",.ref f),(Str.ofString "reverse",.bool true)]) Q E s:=by
 refine call_function_entry_kw kind_sorted plain_sorted entry_sorted (ksk_s2 _ _ _) ?_;unfold Builtin.«sorted»;refine wpAny_bind (m:=checkCount "sorted" 1 1 _) (wpAny_pure ?_);refine wpAny_bind (su (A:=X.A.in1) hh I rx hs λh' tk its xs src rv hk' hz=>?_)
 obtain⟨h64,key,nd,kf,h⟩:=hB xs src;have I1:Inv X pins σ H { s with heap:=h',toks:=tk }:=I.kept hk'
 have I2:=I1.lnew (t':=tk) rv hz;refine wpAny_bind (wpAny_newList ?_ (by rw[<- rv.length];exact hz))
 refine wpAny_bind (wpAny_holding (wpAny_call_entry_kw slot_list_sort ⟨_,get?_push_size _ rfl,rfl⟩ entry_list_sort ?_ (ksk_l2 _ _ _)));rw[ksk_t2];refine xm (key:=key) hu I2 I1.fresh (FX.new I1.fresh) FY h64 nd kf λH2 s2 zs I3 sm q pm pw=>⟨_,rfl,wpAny_pure ⟨_,rfl,h _ H2 s2 zs I1.fresh I3 sm q pm pw⟩⟩
end
def Dw(K:Frag)(sp:Sp)(H1:Hp)(Q:VK)(xs:List V):Prop:=xs.length<64/\∃key:V->Int×List Int,(xs.map key).Nodup/\(∀y∈xs,∀H2,FX H1 H2->sp [y] H2 (λz H3=>FX H2 H3/\KeyR K H3 z (key y)) E0)/\
 ∀D H2 zs,H1 D=none->FX H1 H2->H2 D=some (.lst zs)->zs.Perm xs->zs.Pairwise (λx y=>klt (key y) (key x)=true)->Q (.ref D) H2
def FF(K:Frag)(sp:Sp)(te:TE):TE:=λσ H Q=>te σ H λx H1=>Src K H1 x (Dw K sp H1 Q)
section
variable {X:Cx} {p pos kp k1 k2 kp2:Pos} {e:Expr} {te:TE}
theorem Ew{pins:List (Addr×Obj)}{σ:St}{A:Around}{k:Nat}{sp:Sp}{f:Addr}{fd:FuncData}{ps:List Str}{H0:Hp}{xs:List V}{key:V->Int×List Int}(F:F2 X.prog X.w X.K X.mg X.base CX0 k f fd ps sp)(hb:Gf X.K fd ps [])(hr:F5 k X.A.in1.in1)
  (h:∀y∈xs,∀H2,FX H0 H2->sp [y] H2 (λz H3=>FX H2 H3/\KeyR X.K H3 z (key y)) E0):EF X pins σ X.A.in1.in1 (.ref f) H0 xs key:=by
 intro x hx u H1 s1 rx I sm;have h':=h x hx H1 sm;have r2:F1 [x] [u]:=.cons rx .nil;have hl:([u]++[]).length=ps.length:=F.len _ _ _ _ h';refine wpAny_call (codeAny_mono (F.run X.A.in1.in1 X.stack s1 H1 ⟨[u],[]⟩ [u] [x] _ E0 hr I.env0.in1.in1 (hb s1 [u] I.kIn hl) r2 h') λr s' hq=>?_)
 cases r with
 |error e=>exact hq
 |ok fl=>
  cases fl with
  |ret v=>
   obtain⟨y,H2,I2,ry,q1,q2⟩:=I.after hq;exact⟨y,H2,I2,ry,q1,q2⟩
  |next=>exact False.elim hq
  |brk=>exact False.elim hq
  |cont=>exact False.elim hq
theorem Am(T:Blt X.mg){x:Str}{k:Nat}{sp:Sp}{j:Nat}(F:FnB X.prog X.w X.K X.mg X.base k x sp)(hr:F5 (k+2) X.A)(he:PE X e te)(hg:Gl X "sorted":=by rfl)(hgx:Gl X x:=by rfl)(hdb:(x==("__debug__" : Str))=false:=by decide)
  (hs:starEach [e] X.env=[(false,eval e X.env)]:=by rfl) :
  PE X (.Call (.Name "sorted" p) [e] [⟨some "key",.Name x kp,k1⟩,⟨some "reverse",.Constant (.bool true) j kp2,k2⟩] pos) (FF X.K sp te):=by
 obtain⟨f,fd,ps,F',hm,hk,hb⟩:=F.ex;intro pins s σ H Q I h;refine wpAny_Call_Name_kw (io I hg T.sorted boot_sorted ?_);refine callWith_kw ?_ (by rw[hs];rfl) (by rw[hs];rfl)
 refine thn ((aa he ae hs) pos pins s σ H (λvs H1=>match vs with|[v]=>Src X.K H1 v (Dw X.K sp H1 Q)|_=>False) I h) λus s1 ⟨vs,H1,I1,r1,q1⟩=>?_
 match vs,r1,q1 with
 |[v],r1,q1=>
  obtain⟨u,rfl,ru⟩:=r1.one;refine thn ((vd (bG (v:=.ref f) hgx hm rfl hdb) (vd fN DS)) pos pins s1 σ H1 (λzs H2=>zs=[V.ref f,.bl true]/\H2=H1) I1 ⟨rfl,rfl⟩) λws s2 ⟨zs,H2,I2,r2,e1,e2⟩=>?_
  subst e1 e2;obtain⟨w1,w2,rfl,rw1,rw2⟩:=r2.two;cases rw1;cases rw2;refine rW (f:=f) hr.hd hr.in1.in1.units I2 ru q1 λxs ⟨h64,key,nd,hk1,hq⟩=>⟨h64,key,nd,Ew (A:=X.A) F' hb hr.in1.in1 hk1,λD H3 s3 zs nD I3 sm q pm pw=>⟨.ref D,H3,I3,rfl,hq D H3 zs nD sm q pm pw⟩⟩
end
theorem hu1{k:Nat}{A:Around}(hr:F5 k A):A.units+1<cLine:=by have:=hr.un;omega
def kI(k:List Int):List Key:=k.map Sum.inl
theorem Al{a b:List Int}(h:kI a=kI b):a=b:=by
 induction a generalizing b with
 |nil=>cases b with
  |nil=>rfl
  |cons y b=>cases h
 |cons x a ih=>cases b with
  |nil=>cases h
  |cons y b=>
   have h':(Sum.inl x:Key)::kI a=Sum.inl y::kI b:=h;injection h' with h1 h2
   injection h1 with h1
   rw[h1,ih h2]
theorem zX(k:List Int):(kI k).map kV=k.map V.int:=by
 unfold kI;rw[map_map]
 rfl
section
variable {α:Type}
def fU(m:List (List Int×α))(k:List Int):Option α:=(m.find? λp=>decide (p.1=k)).map (·.2)
def nV(m:List (List Int×α))(k:List Int)(x:α):List (List Int×α):=if (fU m k).isSome then m.map (λp=>if p.1=k then(p.1,x) else p) else m++[(k,x)]
theorem zi(k:List Int):fU ([]:List (List Int×α)) k=none:=rfl
theorem jK{p:List Int×α}{r:List (List Int×α)}{k:List Int}(e:p.1=k):fU (p::r) k=some p.2:=by simp[fU,find?_cons,e]
theorem jr{p:List Int×α}{r:List (List Int×α)}{k:List Int}(e:¬p.1=k):fU (p::r) k=fU r k:=by simp[fU,find?_cons,e]
theorem aval_none{k:List Int}:∀{m:List (List Int×α)},fU m k=none↔¬k∈m.map (·.1)
 |[]=>by simp[zi]
 |p::r=>by
  by_cases e:p.1=k
  ·rw[jK e];simp[e]
  ·rw[jr e,aval_none (m:=r),map_cons,mem_cons];exact⟨λh z=>z.elim (λz=>e z.symm) h,λh z=>h (.inr z)⟩
theorem g9{k:List Int}{x:α}:∀{m:List (List Int×α)},fU m k=some x->(k,x)∈m
 |p::r,h=>by
  by_cases e:p.1=k
  ·rw[jK e] at h;have:p=(k,x):=Prod.ext e (Option.some.inj h);rw[this];simp
  ·rw[jr e] at h;exact List.mem_cons.mpr (.inr (g9 h))
theorem qJ{k:List Int}{x:α}:∀{m:List (List Int×α)},(m.map (·.1)).Nodup->(k,x)∈m->fU m k=some x
 |p::r,hn,h=>by
  have hn':(p.1::r.map (·.1)).Nodup:=hn;obtain⟨h1,h2⟩:=List.nodup_cons.mp hn'
  rcases List.mem_cons.mp h with z|z
  ·rw[<- z];exact jK rfl
  ·have:k∈r.map (·.1):=List.mem_map.mpr ⟨_,z,rfl⟩;rw[jr (λe=>h1 (by rw[e];exact this))]
   exact qJ h2 z
theorem xw(m:List (List Int×α))(k:List Int)(x:α):(nV m k x).map (·.1)=if (fU m k).isSome then m.map (·.1) else m.map (·.1)++[k]:=by
 unfold nV
 split
 ·rw[map_map];apply List.map_congr_left;intro p _;show(if p.1=k then(p.1,x) else p).1=p.1
  split<;>rfl
 ·rw[map_append];rfl
theorem tO{m:List (List Int×α)}{k:List Int}{x:α}(h:(m.map (·.1)).Nodup):((nV m k x).map (·.1)).Nodup:=by
 rw[xw]
 split
 ·exact h
 ·rename_i hs;have hn:fU m k=none:=by
   cases e:fU m k with
   |none=>rfl
   |some y=>rw[e] at hs;exact absurd rfl hs
  exact List.nodup_append.mpr ⟨h,by simp,λa ha b hb=>by
   rw[List.mem_singleton.mp hb];intro z;exact aval_none.mp hn (by rw[<- z];exact ha)⟩
theorem mK{m:List (List Int×α)}{k:List Int}{x:α}{p:List Int×α}(h:p∈nV m k x):p=(k,x)\/p∈m:=by
 unfold nV at h
 split at h
 ·obtain⟨q,hq,e⟩:=List.mem_map.mp h
  by_cases hk:q.1=k
  ·rw[if_pos hk] at e;exact .inl (by rw[<- e,hk])
  ·rw[if_neg hk] at e;exact .inr (by rw[<- e];exact hq)
 ·rcases List.mem_append.mp h with z|z
  ·exact .inr z
  ·exact .inl (List.mem_singleton.mp z)
theorem yJ(m:List (List Int×α))(k:List Int)(x:α):(nV m k x).length<=m.length+1:=by
 unfold nV
 split
 ·rw[length_map];omega
 ·rw[length_append];simp
def Gi(R:V->α->Prop)(kvs:List (List Key×V))(m:List (List Int×α)):Prop:=Paired (λ(p:List Key×V) (q:List Int×α)=>p.1=kI q.1/\R p.2 q.2) kvs m
theorem Gi.mono{R R':V->α->Prop}(h:∀v x,R v x->R' v x):∀{kvs:List (List Key×V)} {m:List (List Int×α)},Gi R kvs m->Gi R' kvs m
 |_,_,.nil=>.nil
 |_,_,.cons q r=>.cons ⟨q.1,h _ _ q.2⟩ (Gi.mono h r)
theorem Gi.val{R:V->α->Prop}(k:List Int):∀{kvs:List (List Key×V)} {m:List (List Int×α)},Gi R kvs m->(jh kvs (kI k)=none/\fU m k=none)\/∃v x,jh kvs (kI k)=some v/\fU m k=some x/\R v x
 |_,_,.nil=>.inl ⟨rfl,rfl⟩
 |p::_,q'::_,.cons q r=>by
  by_cases e:q'.1=k
  ·exact .inr ⟨p.2,q'.2,jA (by rw[q.1,e]),jK e,q.2⟩
  ·rw[jt (λz=>e (Al (q.1.symm.trans z))),jr e]
   exact Gi.val k r
theorem Gi.put{R:V->α->Prop}{k:List Int}{v:V}{x:α}(hx:R v x){kvs:List (List Key×V)}{m:List (List Int×α)}(h:Gi R kvs m):Gi R (gj kvs (kI k) v) (nV m k x):=by
 unfold gj nV;rw[nU]
 rcases h.val k with⟨e1,e2⟩|⟨v',x',e1,e2,_⟩
 ·rw[e1,e2];have go:∀{kvs:List (List Key×V)} {m:List (List Int×α)},Gi R kvs m->Gi R (kvs++[(kI k,v)]) (m++[(k,x)]):=by
   intro kvs m h
   induction h with
   |nil=>exact .cons ⟨rfl,hx⟩ .nil
   |cons q r ih=>exact .cons q ih
  exact go h
 ·rw[e1,e2];have go:∀{kvs:List (List Key×V)} {m:List (List Int×α)},Gi R kvs m->Gi R (kvs.map λkv=>if kv.1=kI k then(kv.1,v) else kv) (m.map λp=>if p.1=k then(p.1,x) else p):=by
   intro kvs m h
   induction h with
   |nil=>exact .nil
   |@cons p q ps qs hq r ih=>
    refine .cons ?_ ih;dsimp only
    by_cases e:q.1=k
    ·rw[if_pos (by rw[hq.1,e]),if_pos e]
     exact⟨hq.1,hx⟩
    ·rw[if_neg (λz=>e (Al (hq.1.symm.trans z))),if_neg e]
     exact hq
  exact go h
theorem Gi.tups{R:V->α->Prop}{H:Hp}:∀{kvs:List (List Key×V)} {m:List (List Int×α)} {as:List Addr},Gi R kvs m->Paired (λ(p:List Key×V) (a:Addr)=>H a=some (.tup (p.1.map kV))) kvs as->
  Paired (λ(a:Addr) (q:List Int×α)=>H a=some (.tup (q.1.map V.int))) as m
 |_,_,_,.nil,.nil=>.nil
 |_,_,_,.cons q r,.cons t ts=>.cons (by rw[q.1,zX] at t;exact t) (Gi.tups r ts)
end
theorem kK{β:Type}{lt:β->β->Bool}(irr:∀a,lt a a=false)(tr:∀a b c,lt a b=true->lt b c=true->lt a c=true):∀{xs ys:List β},xs.Perm ys->xs.Pairwise (λa b=>lt b a=true)->ys.Pairwise (λa b=>lt b a=true)->xs=ys
 |[],ys,p,_,_=>(List.nil_perm.mp p).symm
 |x::xs,[],p,_,_=>by have:=p.length_eq;simp at this
 |x::xs,y::ys,p,h1,h2=>by
  obtain⟨a1,a2⟩:=List.pairwise_cons.mp h1;obtain⟨b1,b2⟩:=List.pairwise_cons.mp h2;have e:x=y:=by
   have mx:x∈y::ys:=p.mem_iff.mp (by simp)
   have my:y∈x::xs:=p.mem_iff.mpr (by simp)
   rcases List.mem_cons.mp mx with z|z
   ·exact z
   ·rcases List.mem_cons.mp my with w|w
    ·exact w.symm
    ·have c1:=b1 x z;have c2:=a1 y w;have:=tr _ _ _ c1 c2;rw[irr] at this;cases this
  subst e;rw[kK irr tr ((List.perm_cons x).mp p) a2 b2]
variable {X:Cx}
def ddn(ns:List Int):Nat:=(firstMet (λi=>ns.getD i 0) ns.length).length
theorem sY(hc:X.calm=true):eY X (.type "set") (λxs H Q=>∃p ns,xs=[.ref p]/\SqL X.K H p (ns.map V.int)/\ns.length<4000/\∀a S,H a=none->Q (.ref a) (upd H a (.set S (ddn ns)))):=by
 intro pins s σ H xs us Q I r h;obtain⟨p,ns,rfl,hq,hn,q⟩:=h;obtain⟨u,rfl,rx⟩:=gM r;cases rx;obtain⟨its,r',pl,hz⟩:=I.list hq;have hlen:=r'.length;rw[length_map] at hlen;have hi:IntsAre its.toArray.toList ns:=i9 r';have hsz:its.toArray.size=ns.length:=by rw[size_toArray];omega
 refine PySem.call_set_list (items:=its.toArray) (ns:=ns) (I.ok.hd hc) pl.isList hi (by rw[hsz];unfold scanBound;omega) λh' tk hS kp=>?_
 rw[hsz] at hS;exact⟨.ref s.heap.objs.size,_,I.laid (t':=tk) (λb u e=>kp b u (lt_size e) e) (Nat.le_refl _) (show F6 X.prog X.w _ h' _ (.set _ (ddn ns)) from hS),rfl,q _ _ (I.hok.fresh (Nat.le_refl _))⟩
theorem oE:eY X (.builtin "len") (λxs H Q=>∃a S n,xs=[.ref a]/\H a=some (.set S n)/\Q (.int n) H):=by
 intro pins s σ H xs us Q I r h;obtain⟨a,S,n,rfl,ha,q⟩:=h;obtain⟨u,rfl,rx⟩:=gM r;cases rx;have hs:=(I.hok a _ ha);obtain⟨o,es,ep,t,ho,hex,hd,el,mem,hb,hf,hn⟩:s.heap.SetOf (intKind X.prog X.w) a S n:=hs;refine PySem.call_len_set ho hex hd hf (by unfold scanBound at hb;omega) ⟨.int n,H,I.tok _,⟨_,by rw[hn]⟩,q⟩
section
variable {K:Frag} {e:Expr} {te:TE} {p pos:Pos}
theorem xz:bootBuiltins "set"=some (.type "set"):=by decide +kernel
def rSet(K:Frag):List V->Hp->VK->Prop:=λxs H Q=>∃p ns,xs=[.ref p]/\SqL K H p (ns.map V.int)/\ns.length<4000/\∀a S,H a=none->Q (.ref a) (upd H a (.set S (ddn ns)))
def FE:List V->Hp->VK->Prop:=λxs H Q=>∃a S n,xs=[.ref a]/\H a=some (.set S n)/\Q (.int n) H
theorem BK(nset:X.mg "set" = none)(ha:PE X e te)(hK:X.K=K:=by rfl)(hc:X.calm=true:=by rfl)(hg:Gl X "set":=by rfl)(hs:starEach [e] X.env=[(false,eval e X.env)]:=by rfl):PE X (.Call (.Name "set" p) [e] [] pos) (tCB (rSet K) (dO te fT)):=by
 subst hK;exact bK (sY hc) hg nset xz (aa ha ae hs) (by decide) (by decide) hs
theorem Ao(T:Blt X.mg)(ha:PE X e te)(hg:Gl X "len":=by rfl)(hs:starEach [e] X.env=[(false,eval e X.env)]:=by rfl):PE X (.Call (.Name "len" p) [e] [] pos) (tCB FE (dO te fT)):=
 fu oE hg T.len PySem.boot_len (aa ha ae hs) (by decide) (by decide) hs
end
theorem mz{ns:List Int}:decide (ddn ns<2)=decide (∀a∈ns,∀b∈ns,a=b):=by
 have any:=firstMet_any (λi=>ns.getD i 0) ns.length
 have hmap:(List.range ns.length).map (λi=>ns.getD i 0)=ns:=by
  apply ext_getElem
  ·simp
  ·intro i h1 h2;simp only[getElem_map,getElem_range,getD_eq_getElem?_getD];rw[getElem?_eq_getElem h2]
   rfl
 rw[hmap] at any;have nd:(firstMet (λi=>ns.getD i 0) ns.length).Nodup:=by
  have go:∀k,(firstMet (λi=>ns.getD i 0) k).Nodup:=by
   intro k
   induction k with
   |zero=>rw[firstMet_zero];exact List.nodup_nil
   |succ k ih=>
    rw[firstMet_succ];unfold step_dedup
    split
    ·exact ih
    ·rename_i h;refine List.nodup_append.mpr ⟨ih,by simp,λa ha b hb=>?_⟩
     rw[List.mem_singleton.mp hb];intro z;apply h;rw[List.any_eq_true];exact⟨a,ha,by rw[z];simp⟩
  exact go _
 have mem:∀a,a∈firstMet (λi=>ns.getD i 0) ns.length↔a∈ns:=λa=>by
  have:=any a
  constructor
  ·intro h;have h1:(firstMet (λi=>ns.getD i 0) ns.length).any (· == a)=true:=List.any_eq_true.mpr ⟨a,h,by simp⟩
   rw[this] at h1;obtain⟨b,hb,e⟩:=List.any_eq_true.mp h1;rw[<- eq_of_beq e];exact hb
  ·intro h;have h1:ns.any (· == a)=true:=List.any_eq_true.mpr ⟨a,h,by simp⟩
   rw[<- this] at h1;obtain⟨b,hb,e⟩:=List.any_eq_true.mp h1;rw[<- eq_of_beq e];exact hb
 unfold ddn;generalize firstMet (λi=>ns.getD i 0) ns.length=f at *
 apply decide_eq_decide.mpr
 constructor
 ·intro h a ha b hb;have ha:=(mem a).mpr ha;have hb:=(mem b).mpr hb
  match f,h with
  |[],_=>cases ha
  |[x],_=>rw[List.mem_singleton.mp ha,List.mem_singleton.mp hb]
 ·intro h
  match f,nd,mem with
  |[],_,_=>decide
  |[x],_,_=>show 1<2;decide
  |x::y::r,nd,mem=>
   have:=h x ((mem x).mp (by simp)) y ((mem y).mp (by simp))
   exact absurd this (by
    have:=(List.nodup_cons.mp nd).1;intro z;apply this;rw[z];simp)
end L2
namespace L2
open PySem PySem.Spec PyProof.Rows PySem.W
theorem wO{t1 t2:Bool}{K K':Frag}{a b:Addr}{xs ys:List V}{te:TE}{Q:VK}{rest:St}{src:List (Option Nat)}{σ:St}{H0:Hp}(f:V->V->V)(hσ:dC src σ=none::none::rest)(hx:SqV t1 K H0 a xs)(hy:SqV t2 K H0 b ys)(hl:xs.length<=sizeLine)
  (he:∀(i:Nat) x y H (R:VK),xs[i]? = some x->ys[i]? = some y->FX H0 H->(∀H',FX H H'->R (f x y) H')->te (some x::some y::rest) H R)
  (hd:∀acc H,H0 acc=none->FX H0 H->H acc=some (.lst (List.zipWith f xs ys))->Q (.ref acc) H) :
  da (Itz t1 t2 K a b) src (Ep K' 2 (tz (di 0) (tz (di 1) DD))) oh te σ H0 Q:=by
 intro acc hacc;rw[hσ];have hlen:(List.zipWith f xs ys).length=min xs.length ys.length:=List.length_zipWith;refine gW (n:=min xs.length ys.length) (λi zs σ H=>FX H0 H/\zs=(List.zipWith f xs ys).take i/\∃u v,σ=u::v::rest) (by omega) ⟨FX.new hacc,rfl,none,none,rfl⟩ ?_ ?_ ?_ ?_
 ·rintro i zs σ H hi hz ⟨sm,_⟩;exact⟨xs,ys,xs[i]'(by omega),ys[i]'(by omega),sm.sqV hx,sm.sqV hy,by simp,by simp⟩
 ·rintro zs σ H hz ⟨sm,_⟩;refine⟨xs,ys,sm.sqV hx,sm.sqV hy,?_⟩;omega
 ·rintro i zs σ H x H' hi hz hzl ⟨sm,ez,u,v,rfl⟩ ⟨p,x1,y1,rfl,hp,rfl,gx,gy⟩;have hx1:=gx xs (sm.sqV hx);have hy1:=gy ys (sm.sqV hy);have pacc:acc≠p:=al hz hp;have hp0:H0 p=none:=sm.free hp;refine⟨p,[x1,y1],rfl,SqT.of FY,rfl,x1,[y1],rfl,y1,[],rfl,rfl,?_⟩;show te (some x1::some y1::rest) _ _;refine he i x1 y1 _ _ hx1 hy1 (sm.put hp0) λH2 s2=>?_
  refine⟨zs,s2 _ _ (by rw[ar pacc];exact hz),by omega,zs++[f x1 y1],FY,by rw[length_append,length_singleton];omega,((sm.put hp0).trans s2).put hacc,?_,_,_,rfl⟩
  rw[qr f xs ys i x1 y1 hx1 hy1,ez]
 ·rintro zs σ H hz hzl ⟨sm,ez,_⟩;refine hd acc H hacc sm ?_;rw[hz,ez,take_of_length_le (by omega)]
theorem B5{t1 t2:Bool}{K:Frag}{a b:Addr}{xs ys:List V}{g:TG}{tb:TS}{D:fJ}{σ:St}{H:Hp}(Pv:Nat->St->Hp->Prop)(h0:Pv 0 σ H)(hl:∀i σ H,i<=min xs.length ys.length->Pv i σ H->SqV t1 K H a xs/\SqV t2 K H b ys)
  (hs:∀(i:Nat) x y σ H p,xs[i]? = some x->ys[i]? = some y->Pv i σ H->H p=none->g (.ref p) σ (upd H p (.tup [x,y])) λσ2 H2=>tb { D with nx:=Pv (i+1),ct:=Pv (i+1),bk:=D.nx } σ2 H2) (hd:∀σ H,Pv (min xs.length ys.length) σ H->D.nx σ H) :
  ∃W:Nat->Nat->St->Hp->Prop,(∃m,W 0 m σ H)/\∀i m σ H,W i m σ H->
   ((Itz t1 t2 K a b).stop i H/\D.nx σ H)\/((Itz t1 t2 K a b).go i H/\∃N:St->Hp->Prop,(∀σ' H',N σ' H'->∃m',m'<m/\W (i+1) m' σ' H')/\∀x H',(Itz t1 t2 K a b).yld i H x H'->g x σ H' λσ2 H2=>tb { D with nx:=N,ct:=N,bk:=D.nx } σ2 H2):=by
 refine⟨λi m σ H=>m=min xs.length ys.length-i/\i<=min xs.length ys.length/\Pv i σ H,⟨min xs.length ys.length,by simp,Nat.zero_le _,h0⟩,?_⟩
 rintro i m σ H ⟨rfl,hi,p⟩;obtain⟨q1,q2⟩:=hl i σ H hi p
 by_cases hlt:i<min xs.length ys.length
 ·have hx:i<xs.length:=by omega
  have hy:i<ys.length:=by omega
  refine .inr ⟨⟨xs,ys,xs[i],ys[i],q1,q2,by simp[hx],by simp[hy]⟩,Pv (i+1),λσ' H' p'=>⟨min xs.length ys.length-(i+1),by omega,rfl,hlt,p'⟩,λx H' y=>?_⟩
  obtain⟨l,x1,y1,rfl,hl1,rfl,g1,g2⟩:=y;exact hs i x1 y1 σ _ l (g1 xs q1) (g2 ys q2) p hl1
 ·have e:i=min xs.length ys.length:=by omega
  subst e;refine .inl ⟨⟨xs,ys,q1,q2,?_⟩,hd σ H p⟩;omega
section
variable {X:Cx} {pins:List (Addr×Obj)} {σ:St} {H:Hp} {s:Shared}
end
end L2
namespace L2
open PySem PySem.Spec PyProof.Rows
theorem F5.m{j k:Nat}{A:Around}(r:F5 k A)(h:j<=k:=by first|decide|exact Nat.le_refl _):F5 j A:=r.mono h
theorem FZ.i{N P:List Str}{sc:Scope}(a:sc.kind=.function:=by rfl)(b:sc.isCoroutine=false:=by rfl)(c:sc.isGenerator=false:=by rfl)(d:N.Nodup:=by decide +kernel)(e:N.take P.length=P:=by rfl)
  (f:∀x∈P,sc.names.lookup x=some .local\/sc.names.lookup x=some .cell:=by decide +kernel) (g:∀y∈sc.names,y.2≠.free:=by decide +kernel):FZ N P sc:=⟨a,b,c,d,e,f,g⟩
def AllA:Nat->(List Value->Prop)->Prop
 |0,p=>p []
 |n+1,p=>∀v,AllA n λr=>p (v::r)
theorem AllA.all:∀{n:Nat} {p:List Value->Prop},AllA n p->∀us:List Value,us.length=n->p us
 |0,_,h,[],_=>h
 |_+1,_,h,v::r,e=>AllA.all (h v) r (Nat.succ.inj e)
def F3(K:Frag)(n:Str)(st:Stmt):Prop:=∃f fd,nsIn K mainGlobals n=some (some (.ref f))/\Fun K n n st f fd
theorem F3.mk{K:Frag}{n:Str}{st:Stmt}{f:Addr}{oc:Value}{od an:Option Addr}{osl:Array (Option Value)}{kV doc pm cdv ct:Value}(a:nsIn K mainGlobals n=some (some (.ref f)))(l:K.lookup f=some ⟨oc,od,.func (fnOf n n (aY st) (aQ st) (ah st) .none kV doc pm an cdv ct),osl⟩)
  (c:codeIn K cdv n=true) (k:keepIn K (.ref f)=true):F3 K n st:=⟨f,_,a,eh l c k⟩
section
variable {P:Program} {w:World} {K:Frag} {mg:Str->Option Value} {base h:Heap} {n:Str} {st:Stmt} {k:Nat} {sp:Sp} {ps:List Str}
def BindsOk(n:Str)(st:Stmt)(ps:List Str):Prop:=∀(kV doc pm:Value) (an:Option Addr) (cdv ct:Value),AllA ps.length λus=>bindArgs (fnOf n n (aY st) (aQ st) (ah st) .none kV doc pm an cdv ct) ⟨us,[]⟩=pure (ps.zip us)
theorem BindsOk.b(h:BindsOk n st ps){f:Addr}{fd:FuncData}(F:Fun K n n st f fd):Gf K fd ps []:=F.binds λa b c d e g=>(h a b c d e g).all
theorem F3.fb(X:K.In h)(G:h.Ns mainGlobals mg)(d:F3 K n st)(o:∀{f fd},Fun K n n st f fd->F2 P w K mg base CX0 k f fd ps sp)(b:BindsOk n st ps:=by(repeat intro _);rfl):FnB P w K mg base k n sp:=
 let ⟨f,fd,a,F⟩:=d
 ⟨f,fd,ps,o F,mg_of X G a,F.kp,b.b F⟩
theorem F3.fx(X:K.In h)(G:h.Ns mainGlobals mg)(d:F3 K n st)(o:∀{f fd},Fun K n n st f fd->F2 P w K mg base (CXE P w) k f fd ps sp)(b:BindsOk n st ps:=by(repeat intro _);rfl):cS P w K mg base k n sp:=
 let ⟨f,fd,a,F⟩:=d
 ⟨f,fd,ps,o F,mg_of X G a,F.kp,b.b F⟩
theorem F3.law{fa:Addr}{x:Str}(X:K.In h)(G:h.Ns mainGlobals mg)(d:F3 K n st)(e:mg n=some (.ref fa))
  (o:∀{fd} {base:Heap},Fun K n n st fa fd->K.In base->base.Ns mainGlobals mg->F2 P w K mg base CX0 k fa fd ps sp) (b:BindsOk n st [x]:=by(repeat intro _);rfl) :
  ∃fd:FuncData,(∀(s:Shared) (v:Value),BindsTo s fd ⟨[v],[]⟩ [(x,v)])/\∀base:Heap,K.In base->base.Ns mainGlobals mg->F2 P w K mg base CX0 k fa fd ps sp:=by
 obtain⟨f,fd,a,F⟩:=d;cases e.symm.trans (mg_of X G a);obtain⟨oc,od,kV,doc,pm,an,cdv,ct,osl,rfl,lk,hcd⟩:=id F.ex;exact⟨_,λs v=>.of_eq (b kV doc pm an cdv ct v),λbase=>o F⟩
end
@[irreducible] def QE:=PE
@[irreducible] def QA:=PA
@[irreducible] def QS:=PS
@[irreducible] def QSs:=PSs
theorem qE:PE=QE:=by unfold QE;rfl
theorem qA:PA=QA:=by unfold QA;rfl
theorem qS:PS=QS:=by unfold QS;rfl
theorem qSs:PSs=QSs:=by unfold QSs;rfl
def ft:=qE▸@bI
def eJ:=qE▸@cG
def wX:=qE▸@A1
def yz:=qE▸@fN
def f8:=qE▸@cD
def aC:=qE▸@ag
def bX:=qE▸@aG
def BL:=qE▸@qB
def aJ:=qE▸@aH
def cw:=qE▸@cU
def aq:=qE▸@aI
def cV:=qE▸@cE
def bB:=qE▸@aA
def vt:=qE▸@bH
def qpv:=qE▸@pv
def ac:=qE▸qA▸@aa
def br:=qE▸qA▸@aR
def vS:=qE▸qA▸@cO
def aO:=qE▸qA▸@ci
def uW:=qE▸qA▸@gH
def ak:=qA▸@ae
def jy:=qE▸qS▸@lU
def bP:=qE▸qS▸@au
def aP:=qE▸qS▸@aD
def si:=qE▸qS▸@pZ
def uZ:=qS▸qSs▸@ja
def cT:=qS▸qSs▸@aW
def am:=qS▸qSs▸@af
def aU:=qS▸qSs▸@aj
def bJ:=qSs▸@aF
theorem bmA{X:Cx}(K:Frag)(hK:X.K=K){o e:Expr}{es:List Expr}{to:TE}{t:TA}{apos cpos:Pos}(ho:PE X o to)(ha:PA X (e::es) t)
  (hbase:attributeBase o "append" X.env (eval o X.env)=eval o X.env:=by rfl)
  (hfew:((backTo cpos (starEach (e::es) X.env)).all (λx=>!x.1)&&(backToKw cpos (keywordEach [] X.env)).all (λx=>x.1.isSome)
   && decide ((e::es).length+([]:List Keyword).length+(if ([]:List Keyword).isEmpty then 0 else 1)<30))=true:=by rfl)
  (hline:(apos.endLine==cpos.line)=true:=by rfl) (hs:starEach (e::es) X.env=(false,eval e X.env)::starEach es X.env:=by rfl) (hplain:(backTo cpos (starEach es X.env)).any (·.1)=false:=by rfl) :
  PE X (.Call (.Attribute o "append" apos) (e::es) [] cpos) (tBM K "list" v8 to t):=hK▸dQ PySem.F.plainAttrs_list PySem.F.slot_list_append PySem.F.type_list_append jZ ho ha hbase hfew hline hs hplain
section
variable {P:Program} {w:World} {K:Frag} {mg:Str->Option Value} {base:Heap}
theorem Fun.o{x qual:Str}{st:Stmt}{f:Addr}{fd:FuncData}{N ps:List Str}{k:Nat}{sp:Sp}(F:Fun K x qual st f fd)(S:FZ N ps (ah st))
  (hbody:∀(cdv:Value) (A:Around) (outer:List Env) (s:Shared) (H:Hp) (vs:List V) (Q:VK) (E:XK),F5 k (A.deeper (envOfC qual (ah st) s.heap.objs.size f cdv))->sp vs H Q E->
   ∃t,PSs (dh CX0 P w K mg base N qual (ah st) f cdv A outer s H E).nox (aQ st) t/\t { nx:=λ_ H'=>Q .non H',rt:=Q } (eZ N vs) H)
  (len:∀vs H Q E,sp vs H Q E->vs.length=ps.length:=by intro _ _ _ _ h;repeat first|(cases h.1;rfl)|obtain⟨_,h⟩:=h):F2 P w K mg base CX0 (k+1) f fd ps sp:=F.ok S len hbody
end
end L2
namespace L2
open PySem PySem.Spec PyProof.Rows PySem.W
section
variable {prog:Program} {w:World} {A:Around} {E:Value->Shared->Prop} {κ:SortKind} {it:Array Keyed} {n:Nat} {c:Nat->Nat->Bool} {s:Shared} {st:SortSt}
end
end L2
namespace L2
open PySem PySem.Spec PyProof.Rows
end L2
namespace L2
open PySem PySem.Spec PyProof.Rows PySem.Builtin PySem.Builtin.Str
section
variable {X:Cx}
def CP:V->List V->Hp->VK->Prop:=λx vs H Q=>∃a b,x=.str a/\vs=[.str b]/\Q (.bl (Txt.startswith a b)) H
theorem pK:MtM X "str.startswith" CP:=by
 intro pins s σ H x vs v us Q I rx rv h;obtain⟨a,b,rfl,rfl,q⟩:=h;obtain⟨t,rfl⟩:=rx;obtain⟨u,rfl,ru⟩:=rv.one;obtain⟨tu,rfl⟩:=ru;exact SC.startswith ⟨.bl _,H,I,rfl,q⟩
theorem oI:∀l:List (Str×Tok),F1 ((l.map (·.1)).map V.str) (strValues l)
 |[]=>.nil
 |p::r=>.cons ⟨p.2,rfl⟩ (oI r)
def D0:V->List V->Hp->VK->Prop:=λx vs H Q=>∃a b,x=.str a/\vs=[.str b]/\(b.length==0)=false/\a.length+2<=sizeLine/\∀l,H l=none->Q (.ref l) (upd H l (.lst ((Txt.split a b).map V.str)))
theorem fX:MtM X "str.split" D0:=by
 intro pins s σ H x vs v us Q I rx rv h;obtain⟨x,y,rfl,rfl,hy,hsz,q⟩:=h;obtain⟨t,rfl⟩:=rx;obtain⟨u,rfl,ru⟩:=rv.one;obtain⟨u,rfl⟩:=ru;have hn:(partsBetween x (occurrences x y 0 x.length (x.length+1)) y.length).length<=sizeLine:=by
  have e1:=StrLaws.occ_length_le x y 0 x.length (x.length+1);rw[length_partsBetween];omega
 have fin:∀(l:List (Str×Tok)) (k:Nat),l.map (·.1)=Txt.split x y->l.length<=sizeLine->EP X pins σ Q (.ref s.heap.objs.size) { s with heap:=s.heap.push { cls:=.type "list",data:=.seq (strValues l).toArray },toks:=k }:=λl k e hl=>by
  refine⟨.ref s.heap.objs.size,_,I.lnew (oI l) (by rw[length_map,length_map];exact hl),rfl,?_⟩
  rw[e];exact q _ I.fresh
 cases h1:(decide (x.length<y.length) || decide (strKind x<strKind y))
 ·cases hf:(occurrences x y 0 x.length (x.length+1)).isEmpty
  ·refine call_meets F.slot_str_split (typeIs_str _ _ _) F.entry_str_split (F.args_str_split_2 _ _) (meets_str_split_sep x y t u h1 hy hf (by omega) hn) ?_
   show wants _ _ _ { s with toks:=_,heap:=s.heap.push { cls:=.type "list",data:=.seq (strsFrom s.toks (partsBetween x (occurrences x y 0 x.length (x.length+1)) y.length)).toArray } }
   rw[strsFrom_eq];refine fin (numbered s.toks _) _ ((numbered_texts _ _).trans ((if_neg (ne_true_of_eq_false h1)).trans (if_neg (ne_true_of_eq_false hf))).symm) ?_;have e:=congrArg List.length (numbered_texts s.toks (partsBetween x (occurrences x y 0 x.length (x.length+1)) y.length));rw[length_map] at e;omega
  ·exact call_meets F.slot_str_split (typeIs_str _ _ _) F.entry_str_split (F.args_str_split_2 _ _) (meets_str_split_not_found x y t u h1 hy hf)
    (fin [(x,t)] s.toks ((if_neg (ne_true_of_eq_false h1)).trans (if_pos hf)).symm (by show 1<=sizeLine;decide))
 ·exact call_meets F.slot_str_split (typeIs_str _ _ _) F.entry_str_split (F.args_str_split_2 _ _) (meets_str_split_cannot_occur x y t u h1)
   (fin [(x,t)] s.toks (if_pos h1).symm (by show 1<=sizeLine;decide))
def Fh:V->List V->Hp->VK->Prop:=λx vs H Q=>∃a b,x=.str a/\vs=[.str b]/\(b.length==0)=false/\a.length<=sizeLine/\∀p,H p=none->Q (.ref p) (upd H p (.tup [.str (Txt.partition a b).1,.str (Txt.partition a b).2.1,.str (Txt.partition a b).2.2]))
theorem u5:MtM X "str.partition" Fh:=by
 intro pins s σ H x vs v us Q I rx rv h;obtain⟨x,y,rfl,rfl,hy,hsz,q⟩:=h;obtain⟨t,rfl⟩:=rx;obtain⟨u,rfl,ru⟩:=rv.one;obtain⟨u,rfl⟩:=ru;have fin:∀(ta tb tc:Tok) (k:Nat),EP X pins σ Q (.ref s.heap.objs.size) { s with heap:=s.heap.push { cls:=.type "tuple",data:=.seq [.str (Txt.partition x y).1 ta,.str (Txt.partition x y).2.1 tb,.str (Txt.partition x y).2.2 tc].toArray },toks:=k }:=λta tb tc k=>by
  have hv:F1 [V.str (Txt.partition x y).1,.str (Txt.partition x y).2.1,.str (Txt.partition x y).2.2] [.str (Txt.partition x y).1 ta,.str (Txt.partition x y).2.1 tb,.str (Txt.partition x y).2.2 tc]:=.cons ⟨ta,rfl⟩ (.cons ⟨tb,rfl⟩ (.cons ⟨tc,rfl⟩ .nil));exact⟨.ref s.heap.objs.size,_,I.laid (t':=k) (λb o e=>get?_push_of_some _ e) (Nat.le_refl _) (show F6 X.prog X.w _ _ _ (.tup _) from⟨by show 3<=sizeLine;decide,_,hv,IsTup.new _ _⟩),rfl,q _ I.fresh⟩
 refine call_meets F.slot_str_partition (typeIs_str _ _ _) F.entry_str_partition (F.args_str_partition_2 _ _) (meets_str_partition x y t u hy hsz) ?_;have h':=fin;unfold Txt.partition at h';revert h';cases occurrences x y 0 x.length 1 with
 |nil=>intro h';exact h' _ _ _ _
 |cons i r=>intro h';exact h' _ _ _ _
def C4:V->List V->Hp->VK->Prop:=λx vs H Q=>∃a l ys,x=.str a/\vs=[.ref l]/\H l=some (.lst (ys.map V.str))/\JoinOk a ys=true/\Q (.str (Txt.join a ys)) H
theorem vc:∀{ys:List Str} {us:List Value},F1 (ys.map V.str) us->∃l:List (Str×Tok),us=strValues l/\l.map (·.1)=ys
 |[],_,.nil=>⟨[],rfl,rfl⟩
 |y::ys,_,.cons ⟨t,e⟩ r=>by
  obtain⟨l,e1,e2⟩:=vc r;refine⟨(y,t)::l,?_,by rw[map_cons,e2]⟩
  rw[e,e1]
  rfl
theorem bo:MtM X "str.join" C4:=by
 intro pins s σ H x vs v us Q I rx rv h;obtain⟨a,l,ys,rfl,rfl,hl,hok,q⟩:=h;obtain⟨t,rfl⟩:=rx;obtain⟨u,rfl,ru⟩:=rv.one;cases ru;obtain⟨hz,its,n,r,_,e⟩:=I.lstM hl;obtain⟨ps,e1,e2⟩:=vc r;subst e1;exact SC.join (l:=ps) (D:=l) ⟨_,e,rfl,_,rfl⟩ e2 hok λt' k=>⟨.str _,H,I.kept (t':=k) λ_ _ e=>e,⟨t',rfl⟩,q⟩
end
section
variable {X:Cx}
def rSlS:V->Option Int->Option Int->Hp->VK->Prop:=λx lo hi H Q=>∃a,x=.str a/\a.length<=sizeLine/\Q (.str (Txt.slice a lo hi)) H
theorem tX:SlR X rSlS:=by
 intro pins s σ H x v vl vu lo hi sl Q I rx hs pl pu h;obtain⟨a,rfl,hz,q⟩:=h;obtain⟨t,rfl⟩:=rx;refine⟨"str",_,F.slot_str_getitem.lookup,typeIs_str _ _ _,?_⟩;have fin:∀(l u:Option (Int×Tok)),lo=l.map (·.1)->hi=u.map (·.1)->s.heap.IsSlice sl l u none->wpAny (model X.prog X.w) X.A (getItem (.str a t) (.ref sl)) (EP X pins σ Q) X.xe s:=λl u e1 e2 hs=>by
  subst e1 e2;refine wpAny_getItem_str_slice (l:=l) (u:=u) (st:=none) hs rfl (post_val_or_str ⟨Nat.le_trans (Txt.slice_le a _ _) hz,λt' k=>?_⟩)
  exact⟨.str (Txt.slice a (l.map (·.1)) (u.map (·.1))),H,I.kept (t':=k) λ_ _ e=>e,⟨t',rfl⟩,q⟩
 cases pl with
 |none=>
  cases pu with
  |none=>exact fin none none rfl rfl hs
  |int j u=>exact fin none (some (j,u)) rfl rfl hs
 |int i t=>
  cases pu with
  |none=>exact fin (some (i,t)) none rfl rfl hs
  |int j u=>exact fin (some (i,t)) (some (j,u)) rfl rfl hs
theorem fS:eY X (.type "int") (λxs H Q=>∃x n,xs=[.str x]/\PySem.intText? x=some n/\x.length<=640/\Q (.int n) H):=by
 intro pins s σ H xs us Q I r h;obtain⟨x,n,rfl,hn,hl,q⟩:=h;obtain⟨u,rfl,rx⟩:=gM r;obtain⟨t,rfl⟩:=rx;exact PySem.W.KIN.call_text hn hl ⟨.int n,H,I.kept (t':=s.toks+1) λ_ _ e=>e,⟨_,rfl⟩,q⟩
def Its(x:Str):It:=⟨λi _=>i<x.cps.size,λi H v H'=>H'=H/\∃c,x.cps[i]? = some c/\v=.str ⟨#[c]⟩,λi _=>x.cps.size<=i⟩
theorem zh{P:Program}{w:World}{K:Frag}{tg:Expr}(x:Str)(t:Tok)(it:Addr):qc P w K tg (Its x) [it] it (λi h=>h.IsStrIter it "str_ascii_iterator" x t i) where
 mem:=by simp
 obj:=λi h st b hb=>by
  have e:b=it:=by simpa using hb
  subst e;obtain⟨o,e,c,d⟩:=st;exact⟨o,e,λv z=>by rw[d] at z;cases z⟩
 keep:=λi h h' st k=>by
  obtain⟨o,e,r⟩:=st;exact⟨o,k it (by simp) o e,r⟩
 item:=by
  intro X hP hw hK hc i pins s σ H E I hf st hg;subst hP hw hK;have hx:x.cps[i]? = some (x.cps[i]'hg):=Array.getElem?_eq_getElem hg;obtain⟨f0,f1,f2,f3,f4,f5⟩:=hf it (by simp)
  refine wpAny_pyNext_ascii_item st hx λh' st' sb=>?_
  have I1:Inv X pins σ H { s with heap:=h',toks:=s.toks+1 }:=I.turned (t':=s.toks+1) (λb o hb e=>(sb.2 b hb).trans e) f0 f1 f3 f4 f5
  obtain⟨o,e,c,d⟩:=id st';exact⟨_,rfl,vW (s:={ s with heap:=h',toks:=s.toks+1 }) e c d (by decide) ⟨.str _,H,I1,⟨_,rfl⟩,⟨rfl,_,hx,rfl⟩,st',λb hb=>(hf b hb).1⟩⟩
 done:=by
  intro X hP hw hK hc i pins s σ H E I hf st hg;subst hP hw hK;obtain⟨f0,f1,f2,f3,f4,f5⟩:=hf it (by simp)
  exact wpAny_pyNext_ascii_end (I.ok.hd hc) st (Array.getElem?_eq_none hg) λh' eb=>⟨rfl,I.turned (t':=s.toks) (λb o hb e=>eb b o hb e) f0 f1 f3 f4 f5⟩
 self:=λ_ _ _ _ _ st h=>wpAny_pyIter_striter_ascii st h
def iStr(tl:TE):TI:=λσ H R=>tl σ H λx H1=>∃a,x=.str a/\a.cps.all (· < 128)=true/\R (Its a) H1
theorem DP{tg l:Expr}{tl:TE}(hl:PE X l tl):PI X tg l (iStr tl):=by
 intro pins s σ H R I h;refine thn (hl pins s σ H _ I h) λv s1 ⟨x,H1,I1,r1,q1⟩=>?_
 obtain⟨a,rfl,ha,q⟩:=q1;obtain⟨t,rfl⟩:=r1;refine wpAny_pyIter_ascii ha ?_;refine⟨s1.heap.objs.size,[s1.heap.objs.size],_,_,H1,rfl,I1.kept (t':=s1.toks) λb o e=>get?_push_of_some _ e,zh a t _,⟨_,get?_push_size _ rfl,rfl,rfl⟩,λb hb=>?_,q⟩
 have e:b=s1.heap.objs.size:=by simpa using hb
 subst e;exact I1.fpOk (Nat.le_refl _) (I1.hok.fresh (Nat.le_refl _))
end
end L2
namespace L2
open PySem PySem.Spec PyProof.Rows PySem.W
theorem bO:bootBuiltins "str"=some (.type "str"):=by decide +kernel
section
variable {X:Cx} {K:Frag} {e st lo:Expr} {te:TE} {ts tl:TO} {pos p2:Pos}
def mB(xs:List V)(lo hi st:Option Int):List V:=(sliceRange (sliceBounds lo hi st xs.length).1 (sliceBounds lo hi st xs.length).2.1 (sliceBounds lo hi st xs.length).2.2).filterMap (xs[·]?)
theorem jS{xs:List V}{us:List Value}(r:F1 xs us):∀ix:List Nat,F1 (ix.filterMap (xs[·]?)) (ix.filterMap (us[·]?))
 |[]=>.nil
 |i::ix=>by
  have hl:=r.length;cases hx:xs[i]? with
  |none=>
   have hu:us[i]? = none:=by rw[List.getElem?_eq_none_iff] at hx ⊢;omega
   rw[List.filterMap_cons_none hx,List.filterMap_cons_none hu];exact jS r ix
  |some x=>
   obtain⟨u,hu,ru⟩:=r.get hx;rw[List.filterMap_cons_some hx,List.filterMap_cons_some hu];exact .cons ru (jS r ix)
def FH(K:Frag)(te:TE)(tl ts:TO):TE:=λσ H Q=>te σ H λx H1=>tl σ H1 λl H2=>ts σ H2 λk H3=>k≠some 0/\∃a xs,x=.ref a/\SqL K H3 a xs/\∀p,H3 p=none->Q (.ref p) (upd H3 p (.lst (mB xs l none k)))
theorem vD(hK:X.K=K)(he:PE X e te)(hl:PO X (some lo) tl)(hs:PO X (some st) ts):PE X (.Subscript e (.Slice (some lo) none (some st) p2) pos) (FH K te tl ts):=by
 subst hK;intro pins s σ H Q I h;refine Subscript_ (thn (he pins s σ H _ I h) λv s1 ⟨x,H1,I1,r1,q1⟩=>?_)
 refine wpAny_Slice (thn (hl pins s1 σ H1 _ I1 q1) λvl s2 ⟨l,H2,I2,pl,q2⟩=>?_)
 rw[evalPart_none];refine wpAny_pure ?_;refine thn (hs pins s2 σ H2 _ I2 q2) λvs s3 ⟨k,H3,I3,ps,q3⟩=>?_
 obtain⟨k0,a,xs,rfl,hx,q⟩:=q3;have I4:Inv X pins σ H3 { s3 with heap:=s3.heap.push { cls:=.type "slice",data:=.fields #[vl,.none,vs] } }:=I3.kept (t':=s3.toks) λb ob q=>get?_push_of_some _ q
 cases r1;obtain⟨its,r,ht,hz⟩:=I4.list hx;have hlen:=r.length;show wpAny (model X.prog X.w) X.A (subscriptTail e (.Slice (some lo) none (some st) p2) (.ref a) (.ref s3.heap.objs.size)) (EP X pins σ Q) X.xe { s3 with heap:=s3.heap.push { cls:=.type "slice",data:=.fields #[vl,.none,vs] } }
 refine tail_any (ops:=[.ref a,.ref s3.heap.objs.size]) ht.isList.typeIs slot_list_getitem.lookup ?_ (by with_unfolding_all rfl)
 refine wpAny_getItem_list_slice ht.isList (Heap.IsSliceOf.new ..) pl .none ps k0 ?_ (by rw[size_toArray]<;>omega)
 have ep:slicePick its.toArray l none k=((sliceRange (sliceBounds l none k xs.length).1 (sliceBounds l none k xs.length).2.1 (sliceBounds l none k xs.length).2.2).filterMap (its[·]?)).toArray:=by
  unfold slicePick;rw[size_toArray,hlen];simp only[List.getElem?_toArray]
 have zl:=slicePick_size_le its.toArray l none k;rw[ep,size_toArray,size_toArray] at zl;rw[ep];have rv:=jS r (sliceRange (sliceBounds l none k xs.length).1 (sliceBounds l none k xs.length).2.1 (sliceBounds l none k xs.length).2.2);have rl:=rv.length;refine⟨.ref _,_,I4.laid (o:=.lst (mB xs l none k)) (λb ob q=>get?_push_of_some _ q) (Nat.le_refl _) ?_,rfl,q _ (I4.hok.fresh (Nat.le_refl _))⟩
 exact⟨by unfold mB;omega,_,0,rv,get?_push_size _ rfl⟩
end
end L2
namespace L2
open PySem PySem.Spec PyProof.Rows
section
variable {prog:Program} {w:World} {A:Around} {E:Value->Shared->Prop} {s:Shared}
theorem kE(hh:A.handled=none)(it l:Addr)(hne:l≠it)(items:Array Value) :
  Draws prog w A it [it,l] items.size (λi v=>items[i]? = some v) (λi h=>h.IsTupleIter it l i/\h.IsTuple l items) where
 live:=λ_ _ st=>let ⟨o,ho,_⟩:=st.1;⟨o,ho⟩
 frame:=λ_ _ _ st hk=>by
  obtain⟨⟨o,ho,r⟩,⟨o',ho',r'⟩⟩:=st;exact⟨⟨o,hk it (by simp) o ho,r⟩,⟨o',hk l (by simp) o' ho',r'⟩⟩
 item:=λi s Q E hi st hQ=>by
  refine fO st.1 st.2 (x:=items[i]) (by simp[hi]) λh' hit' hs'=>?_
  exact hQ _ h' s.toks (by simp[hi]) ⟨hit',st.2.extBut hs'.extBut hne⟩ hs'
 done:=λs Q E st hE=>gb hh st.1 st.2 (by simp) hE
open AutoSeq1 (wpAny_loadPart') in
theorem nO(l:Addr)(items:Array Value)(n:Nat)(dct:Option Addr)(sl:Array (Option Value)) :
  Meets (Builtin.«enumerate.__new__» ⟨[.type "enumerate",.ref l],[]⟩) (λ_ R s=>s.heap.get? l=some { cls:=.type "tuple",dict:=dct,data:=.seq items n,slots:=sl }/\
   R (.ok (.ret (.ref (s.heap.push { cls:=.type "tuple_iterator",data:=.fields #[.ref l,.int 0 0] }).objs.size)))
    { s with heap:=(s.heap.push { cls:=.type "tuple_iterator",data:=.fields #[.ref l,.int 0 0] }).push { cls:=.type "enumerate",data:=.fields #[.none,.bool false,.ref s.heap.objs.size,rawInt 0,.none,.none] } }):=
 .of_wp λprog w A R s h=>by
  obtain⟨hp,g,d,tk,os⟩:=s;obtain⟨hl,h⟩:=h;have hsub:=sub_enumerate;have hL:Heap.IsTuple (Shared.heap ⟨hp,g,d,tk,os⟩) l items:=⟨_,hl,rfl,n,rfl⟩
  wp_walk using wpAny_loadPart' hl
  refine wpAny_stack_any λst=>wpAny_pure ?_
  split
  ·rename_i c _ _ _ _ _;cases (c==Value.type "enumerate")
   ·wp_walk using wpAny_loadPart' hl,wpAny_pyIter_tuple hL
    exact⟨_,rfl,h⟩
   ·wp_walk using wpAny_loadPart' hl,wpAny_pyIter_tuple hL
    exact⟨_,rfl,h⟩
  ·wp_walk using wpAny_loadPart' hl,wpAny_pyIter_tuple hL
   exact⟨_,rfl,h⟩
theorem jd{l:Addr}{items:Array Value}{Q:Value->Shared->Prop}(hL:s.heap.IsTuple l items)
  (h:∀h',IsEnum h' (s.heap.objs.size+1) s.heap.objs.size 0 .none->h'.IsTupleIter s.heap.objs.size l 0->h'.objs.size=s.heap.objs.size+2->
   (∀b o,s.heap.get? b=some o->h'.get? b=some o)->Q (.ref (s.heap.objs.size+1)) { s with heap:=h' }) :
  wpAny (model prog w) A (call (.type "enumerate") [.ref l]) Q E s:=by
 obtain⟨⟨c,dct,dt,sl⟩,hl,hc,n,hd⟩:=hL
 replace hc:c=.type "tuple":=hc
 replace hd:dt=.seq items n:=hd
 subst hc hd;refine callType_new F.called_enumerate (by decide) (F.typeCall_enumerate_1 _) (F.newCall_enumerate_1 _) (λobj=>F.args_object_init_2 obj _) F.entry_enumerate_new
  (nO l items n dct sl) ⟨hl,?_⟩
 have hz:(s.heap.push { cls:=.type "tuple_iterator",data:=.fields #[.ref l,.int 0 0] }).objs.size=s.heap.objs.size+1:=size_push ..;show _/\_;rw[hz];have he:IsEnum ((s.heap.push { cls:=.type "tuple_iterator",data:=.fields #[.ref l,.int 0 0] }).push
   { cls:=.type "enumerate",data:=.fields #[.none,.bool false,.ref s.heap.objs.size,rawInt 0,.none,.none] }) (s.heap.objs.size+1) s.heap.objs.size 0 .none:=by
  have:=get?_push_size (s.heap.push { cls:=.type "tuple_iterator",data:=.fields #[.ref l,.int 0 0] })
   (o:={ cls:=.type "enumerate",data:=.fields #[.none,.bool false,.ref s.heap.objs.size,rawInt 0,.none,.none] }) rfl
  rw[hz] at this;exact this
 refine⟨⟨_,he,rfl⟩,h _ he ⟨_,get?_push_of_some _ (get?_push_size _ rfl),rfl,rfl⟩ (by rw[size_push,hz]) λb o x=>get?_push_of_some _ (get?_push_of_some _ x)⟩
end
def Ae(K:Frag)(a:Addr):It:=
 ⟨λi H=>∃xs x,SqT K H a xs/\xs[i]? = some x,
  λi H v H'=>∃p x,v=.ref p/\H p=none/\H'=upd H p (.tup [.int i,x])/\∀xs,SqT K H a xs->xs[i]? = some x,
  λi H=>∃xs,SqT K H a xs/\xs.length=i⟩
theorem uB{P:Program}{w:World}{K:Frag}{es:List Expr}{ek:Nat}{ep:Pos}(a e it:Addr)(hne:e≠it) :
  qc P w K (.Tuple es ek ep) (Ae K a) [e,it] e (λi h=>(∃old,IsEnum h e it ((i:Nat):Int) old)/\h.IsTupleIter it a i) where
 mem:=by simp
 obj:=λi h ⟨⟨old,he⟩,hi⟩ c hc=>by
  simp only[mem_cons,not_mem_nil,or_false] at hc
  rcases hc with rfl|rfl
  ·exact⟨_,he,λv z=>by cases z⟩
  ·obtain⟨o,ho,_,d⟩:=hi;exact⟨o,ho,λv z=>by rw[d] at z;cases z⟩
 keep:=λi h h' ⟨⟨old,he⟩,hi⟩ k=>⟨⟨old,k e (by simp) _ he⟩,hi.at λo q=>k it (by simp) o q⟩
 item:=by
  intro X hP hw hK hc i pins s σ H E I hf st hg;subst hP hw hK;obtain⟨xs,x,qx,hx⟩:=hg;obtain⟨⟨old,he⟩,hi⟩:=st;obtain⟨ix,rx,px,zx⟩:=I.tuple qx;obtain⟨u,hu,ru⟩:=rx.get hx;have na:=gd (t:=true) I hf qx;simp only[mem_cons,not_mem_nil,or_false,not_or] at na;have hix:i<ix.toArray.size:=by
   rw[size_toArray];exact(List.getElem?_eq_some_iff.mp hu).1
  refine wpAny_pyNext_enum_itemD (kE (A:=X.A.in1) (I.ok.hd hc) it a na.2 ix.toArray) he ⟨hi,px⟩ hix hne (by simp only[mem_cons,not_mem_nil,or_false,not_or];exact⟨hne,λz=>na.1 z.symm⟩) λu' h' tk hu' a1 a2 a3 a4 hk=>?_
  have eu:u'=u:=by
   have:ix[i]? = some u':=by simpa using hu'
   rw[hu] at this;injection this with this
   exact this.symm
  subst eu;refine⟨_,rfl,wpAny_letOwnedTupleGo_enum a1 λh'' he'' sb=>?_⟩
  have lt2:∀c∈[e,it],c<s.heap.objs.size:=λc hc=>by
   simp only[mem_cons,not_mem_nil,or_false] at hc
   rcases hc with rfl|rfl
   ·exact lt_size he
   ·obtain⟨o,ho,_⟩:=hi;exact lt_size ho
  have nT:s.heap.objs.size∉[e,it]:=λhc=>absurd (lt2 _ hc) (Nat.lt_irrefl _)
  have kk:∀c o,c∉[e,it]->s.heap.get? c=some o->h''.get? c=some o:=λc o hc q=>by
   simp only[mem_cons,not_mem_nil,or_false,not_or] at hc;exact(sb.2 c hc.1).trans (hk c o hc.1 hc.2 q)
  have hT:h''.get? s.heap.objs.size=some { cls:=.type "tuple",data:=.seq #[.int i tk,u'] }:=(sb.2 _ (λz=>nT (by simp[z]))).trans a3
  have fresh:H s.heap.objs.size=none:=I.hok.fresh (Nat.le_refl _);have gT:(s.heap.push { cls:=.type "tuple",data:=.seq #[.int i tk,u'] }).get? s.heap.objs.size=some { cls:=.type "tuple",data:=.seq #[.int i tk,u'] }:=get?_push_size _ rfl;have I1:Inv X pins σ (upd H s.heap.objs.size (.tup [.int i,x])) { s with heap:=s.heap.push { cls:=.type "tuple",data:=.seq #[.int i tk,u'] },toks:=tk+1 }:=
   I.laid (λb o q=>get?_push_of_some _ q) (Nat.le_refl _) ⟨by show 2<=sizeLine;decide,[.int i tk,u'],.cons ⟨_,rfl⟩ (.cons ru .nil),_,gT,rfl,_,rfl⟩
  have fp1:∀c∈[e,it],gU X pins (upd H s.heap.objs.size (.tup [.int i,x])) c:=λc hc=>
   ⟨by rw[ar (Nat.ne_of_lt (lt2 c hc))];exact(hf c hc).1,(hf c hc).2⟩
  have I2:=I1.turnedN (h':=h'') (t':=tk+1) (fp:=[e,it]) (λc o hc q=>by
   rcases Heap.get?_push_cases q with⟨e1,e2⟩|e1
   ·rw[e1,e2];exact hT
   ·exact kk c o hc e1) fp1
  refine⟨.ref s.heap.objs.size,_,I2,rfl,⟨_,x,rfl,fresh,rfl,λxs' q=>by rw[I.tuple_inj q qx];exact hx⟩,⟨⟨u',?_⟩,a2.1.at λo q=>(sb.2 it hne.symm).trans q⟩,λc hc=>(fp1 c hc).1⟩
  have e1:((i+1:Nat):Int)=(i:Int)+1:=by push_cast;rfl
  rw[e1];exact he''
 done:=by
  intro X hP hw hK hc i pins s σ H E I hf st hg;subst hP hw hK;obtain⟨xs,qx,hend⟩:=hg;obtain⟨⟨old,he⟩,hi⟩:=st;obtain⟨ix,rx,px,zx⟩:=I.tuple qx;have lx:=rx.length;have na:=gd (t:=true) I hf qx;simp only[mem_cons,not_mem_nil,or_false,not_or] at na;have en:ix.toArray.size=i:=by rw[size_toArray];omega
  refine wpAny_pyNext_enum_endD (kE (A:=X.A.in1) (I.ok.hd hc) it a na.2 ix.toArray) he (by rw[en];exact⟨hi,px⟩) λh' eb=>⟨rfl,I.turnedN (fp:=[e,it]) (t':=s.toks) (λc o hc q=>?_) hf⟩
  simp only[mem_cons,not_mem_nil,or_false,not_or] at hc;exact eb c o hc.2 q
 self:=λ_ _ _ _ _ st h=>by
  obtain⟨⟨old,he⟩,_⟩:=st;exact wpAny_pyIter_enum he h
def Es(K:Frag)(ta:TA):TI:=λσ H R=>ta σ H λvs H1=>∃a,vs=[.ref a]/\(∃xs,SqT K H1 a xs)/\R (Ae K a) H1
theorem xN{X:Cx}(K:Frag){es:List Expr}{ek:Nat}{ep:Pos}{a:Expr}{ta:TA}{p pos:Pos}(hK:X.K=K)(hg:Gl X "enumerate")(hm:X.mg "enumerate" = none)(ha:PA X [a] ta)(hs:starEach [a] X.env=[(false,eval a X.env)]:=by rfl) :
  PI X (.Tuple es ek ep) (.Call (.Name "enumerate" p) [a] [] pos) (Es K ta):=by
 subst hK;intro pins s σ H R I h;refine Call_ (io I hg hm boot_enumerate (PyProof.Rows.callWith_type1 (thn (ha pos pins s σ H _ I h) λus s1 ⟨vs,H1,I1,r1,q1⟩=>?_) hs rfl))
 obtain⟨l,e,⟨xs,qx⟩,q⟩:=q1;subst e;cases r1 with
 |cons r rr=>
  cases rr;cases r;obtain⟨ix,rx,px,zx⟩:=I1.tuple qx;refine jd px λh' a1 a2 a3 a4=>?_
  have I2:Inv X pins σ H1 { s1 with heap:=h',toks:=s1.toks }:=I1.kept a4
  refine wpAny_pyIter_enum (s:={ s1 with heap:=h' }) a1 ?_
  refine⟨_,[s1.heap.objs.size+1,s1.heap.objs.size],_,_,H1,rfl,I2,uB l (s1.heap.objs.size+1) s1.heap.objs.size (Nat.succ_ne_self _),⟨⟨.none,a1⟩,a2⟩,λb hb=>?_,q⟩
  have hb':s1.heap.objs.size<=b:=by
   simp only[mem_cons,not_mem_nil,or_false] at hb
   rcases hb with rfl|rfl
   ·exact Nat.le_add_right _ _
   ·exact Nat.le_refl _
  exact I1.fpOk hb' (I1.hok.fresh hb')
theorem xR{K:Frag}{a:Addr}{xs:List V}{g:TG}{tb:TS}{D:fJ}{σ:St}{H:Hp}(Pv:Nat->St->Hp->Prop)(h0:Pv 0 σ H)(hl:∀i σ H,i<=xs.length->Pv i σ H->SqT K H a xs)
  (hs:∀i x σ H p,xs[i]? = some x->Pv i σ H->H p=none->g (.ref p) σ (upd H p (.tup [.int i,x])) λσ2 H2=>tb { D with nx:=Pv (i+1),ct:=Pv (i+1),bk:=D.nx } σ2 H2) (hd:∀σ H,Pv xs.length σ H->D.nx σ H) :
  ∃W:Nat->Nat->St->Hp->Prop,(∃m,W 0 m σ H)/\∀i m σ H,W i m σ H->
   ((Ae K a).stop i H/\D.nx σ H)\/((Ae K a).go i H/\∃N:St->Hp->Prop,(∀σ' H',N σ' H'->∃m',m'<m/\W (i+1) m' σ' H')/\∀x H',(Ae K a).yld i H x H'->g x σ H' λσ2 H2=>tb { D with nx:=N,ct:=N,bk:=D.nx } σ2 H2):=by
 refine⟨λi m σ H=>m=xs.length-i/\i<=xs.length/\Pv i σ H,⟨xs.length,by simp,Nat.zero_le _,h0⟩,?_⟩
 rintro i m σ H ⟨rfl,hi,p⟩;have q:=hl i σ H hi p
 by_cases hlt:i<xs.length
 ·refine .inr ⟨⟨xs,xs[i],q,by simp[hlt]⟩,Pv (i+1),λσ' H' p'=>⟨xs.length-(i+1),by omega,rfl,hlt,p'⟩,λx H' y=>?_⟩
  obtain⟨l,x1,rfl,hl1,rfl,y⟩:=y;exact hs i x1 σ _ l (y xs q) p hl1
 ·have e:i=xs.length:=by omega
  subst e;exact .inl ⟨⟨xs,q,rfl⟩,hd σ H p⟩
section
variable {X:Cx} {e:Expr} {te:TE} {p pos:Pos}
def tFmt(te:TE):TE:=λσ H Q=>te σ H λx H1=>∃i:Int,x=.int i/\i.natAbs.log2<1920/\Q (.str (Str.ofString (toString i))) H1
theorem pV(he:PE X e te):PE X (.FormattedValue e (-1) none pos) (tFmt te):=by
 intro pins s σ H Q I h;refine wpAny_FormattedValue_plain (thn (he pins s σ H _ I h) λv s1 ⟨x,H1,I1,r1,i,ex,hi,q⟩=>?_)
 subst ex;obtain⟨t,rfl⟩:=r1;exact wpAny_formatField_int hi ⟨.str _,H1,I1.tok _,⟨_,rfl⟩,q⟩
def tJ:List TE->Str->TE
 |[],acc=>λ_ H Q=>Q (.str acc) H
 |t::ts,acc=>λσ H Q=>t σ H λx H1=>∃y,x=.str y/\(acc++y).length<=sizeLine/\tJ ts (acc++y) σ H1 Q
inductive PJ (X:Cx):List Expr->List TE->Prop
 |nil:PJ X [] []
 |cons {e:Expr} {te:TE} {es:List Expr} {ts:List TE} (h:PE X e te) (r:PJ X es ts):PJ X (e::es) (te::ts)
theorem sk{pins:List (Addr×Obj)}{σ:St}{Q:VK}:∀{es:List Expr} {ts:List TE} {acc:Str} {s:Shared} {H:Hp},PJ X es ts->acc.length<=sizeLine->Inv X pins σ H s->tJ ts acc σ H Q->
  Joins (model X.prog X.w) X.A X.xe (evalEach es X.env) acc (λout s1=>out.length<=sizeLine/\EP X pins σ Q (.str out s1.toks) { s1 with toks:=s1.toks+1 }) s
 |_,_,acc,s,H,.nil,ha,I,h=>⟨ha,.str acc,H,I.tok _,⟨_,rfl⟩,h⟩
 |_,_,acc,s,H,.cons he r,ha,I,h=>by
  show wpAny _ _ _ _ _ s;refine thn (he pins s σ H _ I h) λv s1 ⟨x,H1,I1,r1,y,ex,hz,q⟩=>?_
  subst ex;obtain⟨t,rfl⟩:=r1;exact⟨y,t,rfl,hz,sk r hz I1 q⟩
theorem vv{v1 v2:Expr}{vs:List Expr}{ts:List TE}(h:PJ X (v1::v2::vs) ts):PE X (.JoinedStr (v1::v2::vs) pos) (tJ ts Str.empty):=by
 intro pins s σ H Q I hq;exact wpAny_JoinedStr (sk h (by decide) I hq)
end
section
variable {M:Model} {A:Around} {Er:Value->Shared->Prop} {s:Shared}
theorem rB{base:Heap}{env:Env}{outer:List Env}{L e:Addr}{cls a0 fl:Value}{Q:Unit->Shared->Prop}
  (hfr:A.frames=some (env::outer)) (hf:env.frame=some L) (hkb:base.StaysIn s.heap) (hen:base.get? e=none) (hl:s.heap.FunFrames base (env::outer)) (ht:s.heap.TracedAtW base e cls a0 fl)
  (hQ:∀h',Heap.FlyingW base outer e cls a0 h'->s.heap.UpToSlots h'->Q () { s with heap:=h' }):wpAny M A (leaving env (.ref e)) Q Er s:=by
 by_cases hv:fl=rawInt L
 ·subst hv;unfold leaving;refine wpAny_bind (wpAny_noteFrame_againW hf ht ?_);refine wpAny_landsW ⟨hkb,hen,hl,ht⟩ λh' hfl up=>?_
  obtain⟨k1,k2,⟨_,_,k3⟩,k4⟩:=hfl;exact hQ h' ⟨k1,k2,k3,k4⟩ up
 ·obtain⟨oe,vs,T,oT,ts,he,⟨hcls,h0⟩,hd,h1,hnT,hTe,hT,hdT,h3⟩:=ht;subst hcls;unfold leaving noteFrame;simp only[hf];refine wpAny_bind (wpAny_bind (wpAny_field he hd h1 ?_));rw[if_pos (show(Value.ref T != Value.none)=true from by simp)]
  refine wpAny_bind (wpAny_field hT hdT h3 ?_);rw[if_neg (show ¬((fl==rawInt L)=true) from by simpa using hv)]
  refine wpAny_bind (wpAny_setField hT hdT (Array.getElem?_eq_some_iff.mp h3).1 ?_);have other:∀b,b≠T->(s.heap.update T (Obj.mapFields (·.setIfInBounds 3 Value.none))).get? b=s.heap.get? b:=λb hb=>get?_update_other _ _ (Ne.symm hb)
  have nor:∀b o,s.heap.get? b=some o->(∀vs,o.data≠.fields vs)->b≠T:=λb o hb hnf q=>by
   rw[q,hT] at hb;injection hb with hb;subst hb;exact hnf ts hdT
  refine wpAny_newEntryW hfr (hl.of_keeps λb o hb hnf=>⟨o,(other b (nor b o hb hnf)).trans hb,rfl⟩) hf ((other e (Ne.symm hTe)).trans he)
   (λb o hbo=>(other b λq=>by rw[q,hnT] at hbo;cases hbo).trans (hkb b o hbo)) hen hd (Array.getElem?_eq_some_iff.mp h1).1 h0 λh' hL=>?_
  obtain⟨x1,⟨_,_,x2⟩,x3,x4⟩:=hL;exact hQ h' ⟨x1,hen,x2,x3⟩ λb o hb hnf=>x4 b o ((other b (nor b o hb hnf)).trans hb) hnf
theorem uU{h h' base base':Heap}(hb:∀b,base.get? b=none->base'.get? b=none):∀{l:List Env},(∀b∈frs l,∀o,h.get? b=some o->(∀vs,o.data≠.fields vs)->∃o',h'.get? b=some o'/\∀vs,o'.data≠.fields vs)->h.FunFrames base l->h'.FunFrames base' l
 |[],_,_=>trivial
 |env::r,hk,⟨k,⟨L,o,hf,hn,ho,hd⟩,hr⟩=>by
  have hL:L∈frs (env::r):=by unfold frs;rw[filterMap_cons,hf];exact mem_cons_self
  obtain⟨o',e',d'⟩:=hk L hL o ho hd;refine⟨k,⟨L,o',hf,hb L hn,e',d'⟩,uU hb (λb hb'=>hk b ?_) hr⟩
  unfold frs;rw[filterMap_cons,hf];exact mem_cons_of_mem _ hb'
end
section
variable {prog:Program} {w:World} {A:Around} {R:Result->Shared->Prop} {s:Shared}
theorem oy{elt target iter:Expr}{ifs:List Expr}{scope:Scope}{pos:Pos}{it acc:Value}{env:Env}(I:Nat->Shared->Prop){ER:Value->Shared->Prop}(hER:ER=notedBy (model prog w) A env (λx s'=>R (.error x) s'))
  (turn:∀n s,I n s->wpAny (model prog w) A (pyNext it) (λr s₁=>match r with
   |none=>R (.ok .next) s₁
   |some v=>wpAny (model prog w) A (letOwnedTupleGo target it v) (λ_ s₁'=>wpAny (model prog w) A (assign target env v) (λ_ s₂=>
     wpAny (model prog w) A (forIn ifs true λc r=>if r=true then do let ok <- isTrue c env (eval c env);pure (ForInStep.yield ok) else pure (ForInStep.yield r)) (λok s₃=>
      if ok=true then wpAny (model prog w) A (eval elt env) (λx s₄=>
       wpAny (model prog w) A (call (.builtin "list.append") [acc,x]) (λ_ s₅=>∃m,m<n/\I m s₅) ER s₄) ER s₃
      else ∃m,m<n/\I m s₃) ER s₂) ER s₁') ER s₁) ER s)
  (n:Nat) (h:I n s) :
  codeAny (model prog w) A (.compLoop (.ListComp elt [⟨target,iter,ifs,0⟩] scope pos) 0 it acc env) R s:=by
 refine codeAny_loop rfl I (λn s hI=>?_) n h
 show wpAny _ A ((compTurn (.ListComp elt [⟨target,iter,ifs,0⟩] scope pos) 0 it acc env).onRaise (λx=>do noteFrame x env;theTreesLotGoes x)) _ _ s
 subst hER;refine wpAny_noted ?_;rw[compTurn_list];refine wpAny_bind (wpAny_standAt (wpAny_bind (wpAny_mono (turn n s hI) (λr s₁ h₁=>?_) λ_ _ h'=>h')))
 cases r with
 |none=>exact wpAny_pure h₁
 |some v=>
  refine wpAny_bind (wpAny_mono h₁ (λ_ s₁' h₁'=>?_) λ_ _ h'=>h')
  refine wpAny_bind (wpAny_mono h₁' (λ_ s₂ h₂=>wpAny_bind (wpAny_mono h₂ (λok s₃ h₃=>?_) λ_ _ h'=>h')) λ_ _ h'=>h')
  cases ok with
  |false=>exact wpAny_pure ⟨rfl,h₃⟩
  |true=>
   exact wpAny_bind (wpAny_bind (wpAny_mono h₃ (λx s₄ h₄=>wpAny_bind (wpAny_mono h₄ (λ_ s₅ h₅=>wpAny_pure (wpAny_pure ⟨rfl,h₅⟩)) λ_ _ h'=>h')) λ_ _ h'=>h'))
end
def cxE(X:Cx)(N:List Str)(scope:Scope)(s:Shared)(H:Hp)(ex:List Addr)(E:XK):Cx:=
 { cxC X N scope s H ex with xe:=λe s'=>∃pins σ H1 s1,Inv (cxC X N scope s H ex) pins σ H1 s1/\CXE X.prog X.w X.stack H1 s1 E e s' }
section
variable {X:Cx} {N:List Str} {scope:Scope} {s s1:Shared} {H H1:Hp} {ex:List Addr} {E:XK} {pins:List (Addr×Obj)} {σ:St}
theorem Inv.toE(I:Inv (cxC X N scope s H ex) pins σ H1 s1):Inv (cxE X N scope s H ex E) pins σ H1 s1:=
 ⟨⟨I.ok.mod,I.ok.kind,I.ok.glob,I.ok.blt,I.ok.above,I.ok.inj,I.ok.has,I.ok.cab,I.ok.hd,I.ok.frames,I.ok.stk,I.ok.exf,I.ok.bs,I.ok.bsz,I.ok.noex,I.ok.exfs,I.ok.funs,I.ok.frf⟩,I.os,I.bare,I.base,I.loc,I.cell,I.free,I.freeC,I.pin,I.hok,I.len⟩
theorem Inv.ofE(I:Inv (cxE X N scope s H ex E) pins σ H1 s1):Inv (cxC X N scope s H ex) pins σ H1 s1:=
 ⟨⟨I.ok.mod,I.ok.kind,I.ok.glob,I.ok.blt,I.ok.above,I.ok.inj,I.ok.has,I.ok.cab,I.ok.hd,I.ok.frames,I.ok.stk,I.ok.exf,I.ok.bs,I.ok.bsz,I.ok.noex,I.ok.exfs,I.ok.funs,I.ok.frf⟩,I.os,I.bare,I.base,I.loc,I.cell,I.free,I.freeC,I.pin,I.hok,I.len⟩
theorem mn:dF (CXE X.prog X.w) (cxE X N scope s H ex E) E:=λpins σ H s e s' I hx=>⟨pins,σ,H,s,I.ofE,hx⟩
end
section
variable {P:Program} {w:World} {K:Frag} {mg:Str->Option Value} {base:Heap} {N:List Str} {qual:Str} {scope:Scope} {f:Addr} {cd:Value} {A:Around} {outer:List Env} {s₀:Shared} {H₀:Hp} {E:XK} {pins:List (Addr×Obj)} {σ:St}
theorem A0{X:Cx}(hX:X=dh (CXE P w) P w K mg base N qual scope f cd A outer s₀ H₀ E){sc:Scope}{NC:List Str}{fp:List Addr}{H3 H1 H':Hp}{s3 s1 s':Shared}{σ1:St}{pins1:List (Addr×Obj)}{x:Addr}{cls:Value}{B:Heap}
  (I3:Inv X pins σ H3 s3) (hf:∀b∈fp,s₀.heap.objs.size<=b) (I1:Inv (cxC X NC sc s3 H3 fp) pins1 σ1 H1 s1) (F:Fly P w X.stack H1 s1 x cls B H' s') (q:E cls none H')
  {use:Option (Value->Sem Unit)} {PQ:Value->Shared->Prop} {acc:Value} {ce:Env} (hfr:ce.frame=X.env.frame) :
  notedBy (model P w) X.A ce (λx s''=>compPost (model P w) X.A X.xe use PQ acc s3.heap.objs.size (.error x) s'') (.ref x) s':=by
 subst hX;have en:noteFrame (.ref x) ce=noteFrame (.ref x) (envOfC qual scope s₀.heap.objs.size f cd):=by unfold noteFrame PySem.frameOf;rw[hfr];rfl
 unfold notedBy;rw[en];obtain⟨a0,fl⟩:=F.fly;refine wpAny_looks_onW (base:=B) I3.ok.frames rfl fl λh2 hh up2=>?_
 obtain⟨k1,k2,k3,k4⟩:=hh;obtain⟨m,hn,_⟩:=I1.loc;obtain⟨oC,es,ep,hoC,hdC,r⟩:=hn;have noEx:∀b:Addr,b∉(dh (CXE P w) P w K mg base N qual scope f cd A outer s₀ H₀ E).ex:=λb z=>absurd (show b∈([]:List Addr) from z) (by simp)
 have lt3:s₀.heap.objs.size<s3.heap.objs.size:=I3.lt;have nC:s3.heap.objs.size∉frs (envOfC qual scope s₀.heap.objs.size f cd::outer):=λz=>by
  rcases List.mem_cons.mp (I3.stkSub _ z) with z|z
  ·exact absurd (show s3.heap.objs.size=s₀.heap.objs.size from z) (Nat.ne_of_gt lt3)
  ·exact I3.nofs (Nat.le_refl _) z
 have fC:H1 s3.heap.objs.size=none:=I1.free;have BC:B.get? s3.heap.objs.size=some oC:=F.keep _ oC hoC fC nC;have fC':H' s3.heap.objs.size=none:=F.free _ oC hoC fC;obtain⟨oe,vs,T,oT,ts,he,hcls,hd,h1,hnT,hTe,hT,hdT,h3t⟩:=k4;have xC:x≠s3.heap.objs.size:=λz=>by rw[z,BC] at k2;cases k2
 have TC:T≠s3.heap.objs.size:=λz=>by rw[z,BC] at hnT;cases hnT
 have hsz3:3<ts.size:=(Array.getElem?_eq_some_iff.mp h3t).1;have main:∀h3,Heap.SameBut s3.heap.objs.size h2 h3->∀v:Value,(dh (CXE P w) P w K mg base N qual scope f cd A outer s₀ H₀ E).xe (.ref x) { s' with heap:=h3.update T (Obj.mapFields (·.setIfInBounds 3 v)) }:=by
  intro h3 sb v;have hT3:h3.get? T=some oT:=(sb.2 T TC).trans hT;have other:∀b,b≠T->(h3.update T (Obj.mapFields (·.setIfInBounds 3 v))).get? b=h3.get? b:=λb hb=>get?_update_other _ _ (Ne.symm hb)
  have nor:∀b o,h2.get? b=some o->(∀vs,o.data≠.fields vs)->b≠T:=λb o hb hnf q=>by
   rw[q,hT] at hb;injection hb with hb;subst hb;exact hnf ts hdT
  have step:∀b o,b≠s3.heap.objs.size->b≠T->h2.get? b=some o->(h3.update T (Obj.mapFields (·.setIfInBounds 3 v))).get? b=some o:=λb o n1 n2 e=>(other b n2).trans ((sb.2 b n1).trans e)
  have nL:∀b o,s₀.heap.get? b=some o->b∉frs outer->b∉frs (envOfC qual scope s₀.heap.objs.size f cd::outer):=λb o e1 hb hm=>by
   rcases List.mem_cons.mp (I3.stkSub b hm) with z|z
   ·have hlt:=lt_size e1;rw[show b=s₀.heap.objs.size from z] at hlt
    exact absurd hlt (Nat.lt_irrefl _)
   ·exact hb z
  have nfp:∀b o,s₀.heap.get? b=some o->b∉fp:=λb o e z=>absurd (Nat.lt_of_lt_of_le (lt_size e) (hf b z)) (Nat.lt_irrefl _)
  have neC:∀b o,s₀.heap.get? b=some o->b∉[s3.heap.objs.size]:=λb o e z=>by
   have e1:=lt_size e;rw[List.mem_singleton.mp z] at e1;exact absurd (Nat.lt_trans e1 lt3) (Nat.lt_irrefl _)
  have hid:∀b,B.get? b=none->(hideAll B [s3.heap.objs.size]).get? b=none:=λb e=>by
   cases z:(hideAll B [s3.heap.objs.size]).get? b with
   |none=>rfl
   |some o=>rw[of_hideAll _ z] at e;cases e
  have hidC:∀b o,(hideAll B [s3.heap.objs.size]).get? b=some o->b≠s3.heap.objs.size:=λb o e z=>by
   rw[z,PySem.W.hideAll_none _ (List.mem_singleton.mpr rfl)] at e;cases e
  show wpAny (model P w) (A.deeper (envOfC qual scope s₀.heap.objs.size f cd)) (leaving (envOfC qual scope s₀.heap.objs.size f cd) (.ref x)) (λ_ s''=>CXE P w outer H₀ s₀ E (.ref x) s'') (λe' s''=>CXE P w outer H₀ s₀ E e' s'') _
  refine rB (base:=hideAll B [s3.heap.objs.size]) (fl:=v) I3.ok.frames rfl (λb o e=>?_) (hid x k2) (uU hid (λb hb o e d=>⟨o,step b o (λz=>nC (z▸hb)) (nor b o e d) e,d⟩) k3)
   ⟨oe,vs,T,_,_,step x oe xC (Ne.symm hTe) he,hcls,hd,h1,hid T hnT,hTe,get?_update_self _ hT3 (Obj.isFreed_of_fields (Obj.data_mapFields hdT _)),Obj.data_mapFields hdT _,by simp[hsz3]⟩ λh5 fl5 up5=>?_
  ·have e':=of_hideAll _ e;exact step b o (hidC b o e) (λz=>by rw[z,hnT] at e';cases e') (k1 b o e')
  refine⟨x,cls,_,H',rfl,⟨F.os.trans (I1.os.trans I3.os),F.bare,⟨_,fl5⟩,λb o e1 n hb=>?_,λb o e1 hb=>?_,λb o e1 hb=>?_,λb o e1 n=>?_,λb xs e1=>F.tups b xs (I1.base.tups b xs (I3.base.tups b xs e1)),λb o u e1=>F.frzs b o u (I1.base.frzs b o u (I3.base.frzs b o u e1)),λb ps e1=>?_,λa ob ea=>?_⟩,q⟩
  ·exact hideAll_get _ (F.keep b o (I1.base.keep b o (I3.base.keep b o e1 n hb (noEx b)) (I3.base.free b o e1 n (noEx b)) (nL b o e1 hb) (nfp b o e1)) (I1.base.free b o (I3.base.keep b o e1 n hb (noEx b)) (I3.base.free b o e1 n (noEx b)) (nfp b o e1)) (nL b o e1 hb)) (neC b o e1)
  ·obtain⟨o2,e2⟩:=I3.base.there b o e1 (noEx b);obtain⟨o3,e3⟩:=I1.base.there b o2 e2 (nfp b o e1);obtain⟨o4,e4⟩:=F.there b o3 e3 (nL b o e1 hb);exact⟨o4,hideAll_get _ e4 (neC b o e1)⟩
  ·obtain⟨sl,e2⟩:=I3.base.slot b o e1 (I3.ok.frf b hb) hb (noEx b);obtain⟨_,o3,e3,hdb⟩:=I3.ok.funs.mem hb;have e1':(dh (CXE P w) P w K mg base N qual scope f cd A outer s₀ H₀ E).s₀.heap.get? b=some o:=e1;rw[e1'] at e3;cases e3;have hb':b∈frs (envOfC qual scope s₀.heap.objs.size f cd::outer):=by
    obtain⟨env,he,hf⟩:=List.mem_filterMap.mp hb;exact List.mem_filterMap.mpr ⟨env,mem_cons_of_mem _ he,hf⟩
   obtain⟨sl2,e3⟩:=I1.base.slot b _ e2 (I3.stkFree b hb') hb' (nfp b o e1);obtain⟨sl3,e4⟩:=F.slot b _ e3 hb';obtain⟨sl4,e5⟩:=up2 b _ e4 hdb;obtain⟨sl5,e6⟩:=up5 b _ (step b _ (λz=>neC b o e1 (List.mem_singleton.mpr z)) (nor b _ e5 hdb) e5) hdb
   exact⟨sl5,e6⟩
  ·obtain⟨o2,e2⟩:=I3.base.there b o e1 (noEx b);obtain⟨o3,e3⟩:=I1.base.there b o2 e2 (nfp b o e1);exact F.free b o3 e3 (I1.base.free b o2 e2 (I3.base.free b o e1 n (noEx b)) (nfp b o e1))
  ·obtain⟨m1,e2⟩:=I3.base.tbls b ps e1;obtain⟨m2,e3⟩:=I1.base.tbls b _ e2;obtain⟨m3,e4⟩:=F.tbls b _ e3;exact⟨m1++(m2++m3),by rw[e4,Array.append_assoc,Array.append_assoc]⟩
  ·refine(F.hok a ob ea).stay (λb u hb e2=>hideAll_get _ e2 λhm=>?_) (λ_ z=>z) λ_ _ z=>z
   rw[List.mem_singleton.mp hm] at hb
   rcases hb with z|z
   ·rw[<- z,fC'] at ea;cases ea
   ·rw[fC'] at z;cases z
 have fin:∃m,h2.Ns s3.heap.objs.size m/\∀h',Heap.SameBut s3.heap.objs.size h2 h'->∀cenv:Env,cenv.locals=s3.heap.objs.size->wpAny (model P w) (A.deeper (envOfC qual scope s₀.heap.objs.size f cd)) (passOn "comprehension.variables-let-go" (.ref x) cenv:Sem Value) (λ_ _=>False) (dh (CXE P w) P w K mg base N qual scope f cd A outer s₀ H₀ E).xe { s' with heap:=h' }:=by
  refine⟨m,⟨oC,es,ep,k1 _ oC BC,hdC,r⟩,λh3 sb cenv hcl=>?_⟩
  have hx3:h3.get? x=some oe:=(sb.2 x xC).trans he;have hT3:h3.get? T=some oT:=(sb.2 T TC).trans hT;unfold PySem.passOn;refine wpAny_bind (wpAny_field (s:={ s' with heap:=h3 }) hx3 hd h1 ?_)
  rw[if_neg (show ¬((Value.ref T==Value.none)=true) from by simp)]
  unfold setFlight;refine wpAny_bind (wpAny_bind (wpAny_field (s:={ s' with heap:=h3 }) hx3 hd h1 ?_))
  rw[if_pos (show(Value.ref T != Value.none)=true from by simp)]
  exact wpAny_setField (s:={ s' with heap:=h3 }) hT3 hdT hsz3 (wpAny_throw (main h3 sb _))
 cases use<;>exact fin
theorem xL{X:Cx}(hX:X=dh (CXE P w) P w K mg base N qual scope f cd A outer s₀ H₀ E){H:Hp}{s:Shared}{elt tg iter:Expr}{ifs:List Expr}{sc:Scope}{pos:Pos}{NC:List Str}{src:List (Option Nat)}{g:TG}{tt:TT}{te:TE}(use:Option (Value->Sem Unit))(PQ:Value->Shared->Prop)
  (hcalm:X.calm=true) (fa:Gh X sc) (hsrc:kO X.N NC src sc=true)
  (hb:∀(s:Shared) (H:Hp) (ex:List Addr),PG (cxE X NC sc s H ex E) tg g/\PIf (cxE X NC sc s H ex E) ifs tt/\PE (cxE X NC sc s H ex E) elt te)
  {it:Addr} {fp:List Addr} {tn:Nat->Heap->Prop} {J:It} (I:Inv X pins σ H s) (T:qc X.prog X.w X.K tg J fp it tn) (st:tn 0 s.heap) (hf:∀b∈fp,gU X pins H b) {Q:VK}
  (h:da J src g tt te σ H Q)
  (hfin:∀(acc C:Addr) (s':Shared) (H':Hp) (m:Str->Option Value),s'.heap.Ns C m->gU X pins H' C->(∀h',Heap.SameBut C s'.heap h'->Inv X pins σ H' { s' with heap:=h' })->Q (.ref acc) H'->compPost (model X.prog X.w) X.A X.xe use PQ (.ref acc) C (.ok .next) s') :
  wpAny (model X.prog X.w) X.A (newList []) (λacc s₃=>
   wpAny (model X.prog X.w) X.A (newFunctionEnv sc X.env.globals (dc X.env sc.names []) [] X.env.qual none .none (some X.env)) (λcenv s₄=>
    codeAny (model X.prog X.w) X.A (.compStart (.ListComp elt [⟨tg,iter,ifs,0⟩] sc pos) 0 (.ref it) acc { cenv with scope:=relabel sc X.env }) (compPost (model X.prog X.w) X.A X.xe use PQ acc cenv.locals) s₄) X.xe s₃) X.xe s:=by
 have ok:=I.ok;have I3:Inv X pins σ (upd H s.heap.objs.size (.lst [])) { s with heap:=s.heap.push { cls:=.type "list",data:=.seq ([]:List Value).toArray },toks:=s.toks }:=I.lnew (ys:=[]) (its:=[]) .nil (Nat.zero_le _)
 obtain⟨W,⟨m0,w0⟩,turn⟩:=h s.heap.objs.size (I.hok.fresh (Nat.le_refl _));refine wpAny_newObj_type (wpAny_newFunctionEnv fa.nocell (by intro y hy;simp at hy) (λh₁ hns₁ hsb₁=>?_) fa.kind)
 dsimp only at hns₁ hsb₁ ⊢;generalize hs3:({ s with heap:=s.heap.push { cls:=.type "list",data:=.seq ([]:List Value).toArray },toks:=s.toks }:Shared)=s3 at I3
 have e3:s3.heap=s.heap.push { cls:=.type "list",data:=.seq ([]:List Value).toArray }:=by rw[<- hs3]
 have hk:∀b o,s3.heap.get? b=some o->h₁.get? b=some o:=λb o e=>by
  rw[e3] at e;exact hsb₁.extBut b o (Nat.ne_of_lt (lt_size e)) (get?_push_of_some _ e)
 have up3:∀b o,s.heap.get? b=some o->s3.heap.get? b=some o:=λb o e=>by rw[e3];exact get?_push_of_some _ e
 have nacc:∀b∈fp,b≠s.heap.objs.size:=λb hb z=>by
  obtain⟨o,e,_⟩:=T.obj 0 _ st b hb;exact absurd (lt_size e) (by rw[z];exact Nat.lt_irrefl _)
 have hex:∀b∈fp,b<s3.heap.objs.size/\b≠X.env.locals/\b∉X.fs/\(∀x c,X.env.cells.lookup x=some c->c≠b)/\∀o,X.base.get? b≠some o:=λb hb=>by
  obtain⟨o,e,_⟩:=T.obj 0 _ st b hb;obtain⟨f0,f1,f2,f3,f4,f5⟩:=hf b hb;refine⟨lt_size (up3 b o e),f1,f2,f4,λo' z=>?_⟩
  rcases f3 with q|q
  ·exact ok.noex b o' z q
  ·exact absurd (Nat.lt_of_lt_of_le (lt_size (ok.bs b o' z).1) q) (Nat.lt_irrefl _)
 have hns₁':h₁.Ns s3.heap.objs.size (λx=>([]:List (Str×Value)).reverse.lookup x):=by rw[e3];exact hns₁
 have IY0:Inv (cxE X NC sc s3 (upd H s.heap.objs.size (.lst [])) fp E) [] (dC src σ) (upd H s.heap.objs.size (.lst [])) { s3 with heap:=h₁,toks:=s.toks+([]:List (Str×Value)).length }:=
  (mq (tk:=s.toks+([]:List (Str×Value)).length) I3 fa hsrc hex hns₁' hk).toE
 have hfp:∀b∈fp,s₀.heap.objs.size<=b:=λb hb=>by
  have z:=(hf b hb).2.2.2.1;rw[hX] at z
  rcases z with z|z
  ·exact absurd (show b∈([]:List Addr) from z) (by simp)
  ·exact z
 generalize hY:cxE X NC sc s3 (upd H s.heap.objs.size (.lst [])) fp E=Y at IY0;have hER:∀e s',Y.xe e s'->notedBy (model X.prog X.w) X.A (compEnvC sc (dc X.env sc.names []) s3.heap.objs.size X.env) (λx s''=>compPost (model X.prog X.w) X.A X.xe use PQ (.ref s.heap.objs.size) s3.heap.objs.size (.error x) s'') e s':=by
  rw[<- hY];rintro e s' ⟨pins1,σ1,H1,s1,I1,x,cls,B,H',rfl,F,q⟩;have XP:X.prog=P:=by rw[hX];rfl
  have Xw:X.w=w:=by rw[hX];rfl
  rw[XP,Xw] at F ⊢;exact A0 hX I3 hfp I1 F q rfl
 have hb':PG Y tg g/\PIf Y ifs tt/\PE Y elt te:=by rw[<- hY];exact hb s3 _ fp
 obtain⟨hg,ht,he⟩:=hb';have Yp:Y.prog=X.prog:=by rw[<- hY];rfl
 have Yw:Y.w=X.w:=by rw[<- hY];rfl
 have YK:Y.K=X.K:=by rw[<- hY];rfl
 have YA:Y.A=X.A:=by rw[<- hY];rfl
 have Yc:Y.calm=true:=by rw[<- hY];exact hcalm
 have Ye:Y.env=compEnvC sc (dc X.env sc.names []) s3.heap.objs.size X.env:=by rw[<- hY];rfl
 have Ys:Y.s₀=s3:=by rw[<- hY];rfl
 have YH:Y.H₀=upd H s.heap.objs.size (.lst []):=by rw[<- hY];rfl
 have Yf:Y.fs=frs X.stack:=by rw[<- hY];rfl
 have Yex:Y.ex=fp:=by rw[<- hY];rfl
 have Ypn:Y.pn=[]:=by rw[<- hY];rfl
 have stat:∀{H':Hp},(∀b∈fp,H' b=none)->∀b∈fp,gU Y [] H' b:=λ{H'} hn b hb=>by
  obtain⟨x1,x2,x3,x4,x5⟩:=hex b hb;refine⟨hn b hb,?_,?_,.inl (by rw[Yex];exact hb),?_,λp hp=>?_⟩
  ·rw[Ye];exact Nat.ne_of_lt x1
  ·rw[Yf];intro z
   rcases List.mem_cons.mp (I.stkSub b z) with q|q
   ·exact x2 q
   ·exact x3 q
  ·rw[Ye];intro x c e;exact x4 x c (fa.cl ok e)
  ·rw[Ypn] at hp;exact absurd hp (by simp)
 have loop:∀s4:Shared,s4=({ s3 with heap:=h₁,toks:=s.toks+([]:List (Str×Value)).length }:Shared)->
   codeAny (model X.prog X.w) X.A (.compLoop (.ListComp elt [⟨tg,iter,ifs,0⟩] sc pos) 0 (.ref it) (.ref s.heap.objs.size) (compEnvC sc (dc X.env sc.names []) s3.heap.objs.size X.env))
    (compPost (model X.prog X.w) X.A X.xe use PQ (.ref s.heap.objs.size) s3.heap.objs.size) s4:=by
  rintro s4 rfl;refine oy (ER:=notedBy (model X.prog X.w) X.A (compEnvC sc (dc X.env sc.names []) s3.heap.objs.size X.env) (λx s''=>compPost (model X.prog X.w) X.A X.xe use PQ (.ref s.heap.objs.size) s3.heap.objs.size (.error x) s'')) (λn s'=>∃i σ' H',Inv Y [] σ' H' s'/\tn i s'.heap/\(∀b∈fp,H' b=none)/\W i n σ' H') rfl ?_ m0
   ⟨0,dC src σ,_,IY0,T.keep 0 _ _ st λb hb o e=>hk b o (up3 b o e),λb hb=>by rw[ar (nacc b hb)];exact(hf b hb).1,w0⟩
  rintro n s5 ⟨i,σ5,H5,I5,st5,fr5,w5⟩
  rcases turn i n σ5 H5 w5 with⟨stop,qn⟩|⟨go,Nn,hNn,step⟩
  ·have q:=T.done Y Yp Yw YK Yc i [] s5 σ5 H5 (notedBy (model X.prog X.w) X.A (compEnvC sc (dc X.env sc.names []) s3.heap.objs.size X.env) (λx s''=>compPost (model X.prog X.w) X.A X.xe use PQ (.ref s.heap.objs.size) s3.heap.objs.size (.error x) s'')) I5 (stat fr5) st5 stop
   rw[YA] at q;refine thn q λr s6 ⟨hr,I6⟩=>?_
   subst hr;obtain⟨m6,hn6,_⟩:=id I6.loc;have eL:Y.env.locals=s3.heap.objs.size:=by rw[Ye];rfl
   rw[eL] at hn6;refine hfin s.heap.objs.size s3.heap.objs.size s6 H5 m6 hn6 (I3.fpOk (Nat.le_refl _) (by have z:=I6.free;rw[eL] at z;exact z)) (λh' sb=>?_) qn
   ·have b6:=I6.base;rw[Ys,YH,Yf,Yex] at b6;have ne:∀b o,s3.heap.get? b=some o->b≠s3.heap.objs.size:=λb o e=>Nat.ne_of_lt (lt_size e)
    have u6:Un (frs X.stack) fp (upd H s.heap.objs.size (.lst [])) H5 s3.heap h':=
     ⟨λb o e n hb hx=>(sb.2 b (ne b o e)).trans (b6.keep b o e n hb hx),λb o e n hb hx=>by
       obtain⟨sl,z⟩:=b6.slot b o e n hb hx;exact⟨sl,(sb.2 b (ne b o e)).trans z⟩,b6.free,λb o e hx=>by
       obtain⟨o',z⟩:=b6.there b o e hx;exact⟨o',(sb.2 b (ne b o e)).trans z⟩,b6.tups,b6.frzs,b6.tbls⟩
    have fL:H5 s3.heap.objs.size=none:=by
     have z:=I6.free;rw[eL] at z;exact z
    have hok6:HOk X.prog X.w H5 h':=by
     have z:=I6.hok;rw[Yp,Yw] at z;intro b ob e;refine(z b ob e).stay (λc w' hc q=>(sb.2 c ?_).trans q) (λ_ q=>q) λ_ _ q=>q
     rintro rfl
     rcases hc with rfl|hc
     ·rw[fL] at e;cases e
     ·rw[fL] at hc;cases hc
    have os6:s6.os=s3.os:=by
     have z:=I6.os;rw[Ys] at z;exact z
    refine Inv.call' (s':={ s6 with heap:=h' }) I3 os6 u6 hok6 I6.bare λb hb=>?_
    obtain⟨f0,f1,f2,f3,f4,f5⟩:=hf b hb;exact⟨f3,f1,f4,f5⟩
  ·have q:=T.item Y Yp Yw YK Yc i [] s5 σ5 H5 (notedBy (model X.prog X.w) X.A (compEnvC sc (dc X.env sc.names []) s3.heap.objs.size X.env) (λx s''=>compPost (model X.prog X.w) X.A X.xe use PQ (.ref s.heap.objs.size) s3.heap.objs.size (.error x) s'')) I5 (stat fr5) st5 go
   rw[YA] at q;refine thn q λr s6 ⟨u,hr,h6⟩=>?_
   subst hr;refine thn h6 λ_ s7 ⟨x,H7,I7,r7,y7,st7,fr7⟩=>?_
   have I7':=I7.pinned (stat fr7) (T.obj _ _ st7);have back:∀{σ9:St} {H9:Hp} {s9:Shared},Inv Y ([]++jX fp s7.heap) σ9 H9 s9->tn (i+1) s9.heap/\∀b∈fp,H9 b=none:=λ{σ9 H9 s9} I9=>
    ⟨T.keep _ _ _ st7 λb hb o e=>(I9.pin (b,o) (mem_append_right _ (mem_append_right _ (dX hb e)))).1,λb hb=>by
     obtain⟨o,e,d⟩:=T.obj _ _ st7 b hb;exact(I9.pin (b,o) (mem_append_right _ (mem_append_right _ (dX hb e)))).2.1⟩
   have g1:=hg _ s7 σ5 H7 x u _ I7' r7 (step x H7 y7);rw[YA,Yp,Yw,Ye] at g1;refine wpAny_mono g1 (λ_ s8 ⟨σ8,H8,I8,q8⟩=>?_) hER
   have g2:=ht _ s8 σ8 H8 _ I8 q8;rw[YA,Yp,Yw,Ye] at g2;refine wpAny_mono g2 (λb s9 ⟨H9,I9,q9⟩=>?_) hER
   cases b with
   |false=>
    simp only[Bool.false_eq_true,if_false] at q9 ⊢;obtain⟨m',hm,w9⟩:=hNn _ _ q9;exact⟨m',hm,i+1,σ8,H9,I9.unpinned,(back I9).1,(back I9).2,w9⟩
   |true=>
    simp only[if_true] at q9 ⊢;have g3:=he _ s9 σ8 H9 _ I9 q9;rw[YA,Yp,Yw,Ye] at g3;refine wpAny_mono g3 (λyv s10 ⟨y,H10,I10,r10,ys,hys,hz,n10⟩=>?_) hER
    obtain⟨m',hm,w10⟩:=hNn _ _ n10;have g4:=jZ (X:=Y) _ s10 σ8 H10 (.ref s.heap.objs.size) [y] (.ref s.heap.objs.size) [yv] (λ_ H11=>H11=upd H10 s.heap.objs.size (.lst (ys++[y]))) I10 rfl (.cons r10 .nil) ⟨_,ys,y,rfl,rfl,hys,hz,rfl⟩
    rw[YA,Yp,Yw] at g4;refine wpAny_mono g4 (λ_ s11 ⟨_,H11,I11,_,e11⟩=>?_) hER
    subst e11;exact⟨m',hm,i+1,σ8,_,I11.unpinned,(back I11).1,(back I11).2,w10⟩
 have q:=loop _ rfl;have eqs:({ s3 with heap:=h₁,toks:=s.toks+([]:List (Str×Value)).length }:Shared)={ s with heap:=h₁,toks:=s.toks+([]:List (Str×Value)).length }:=by rw[<- hs3]
 rw[eqs] at q;rw[e3] at q;have stn:tn 0 h₁:=T.keep 0 _ _ st λb hb o e=>hk b o (up3 b o e)
 exact codeAny_compStart_list q (T.self X.A 0 _ _ _ stn q)
theorem lV{X:Cx}(hX:X=dh (CXE P w) P w K mg base N qual scope f cd A outer s₀ H₀ E){i:Nat}{y:Str}{py spos:Pos}{elt tg iter:Expr}{ifs:List Expr}{sc:Scope}{pos:Pos}{NC:List Str}{src:List (Option Nat)}{wi:TI}{g:TG}{tt:TT}{te:TE}
  (hN:X.N.Nodup) (hix:X.N[i]? = some y) (hx:Loc X.env.scope y)
  (hsc:ma X.env.scope sc=true) (hsrc:kO X.N NC src sc=true) (hi:PI X tg iter wi)
  (hb:∀(s:Shared) (H:Hp) (ex:List Addr),PG (cxE X NC sc s H ex E) tg g/\PIf (cxE X NC sc s H ex E) ifs tt/\PE (cxE X NC sc s H ex E) elt te)
  (hs:∀x,foldedSetIterable iter X.env x=pure x:=by intro _;rfl)
  (hsw:swapsWith (.ListComp elt [⟨tg,iter,ifs,0⟩] sc pos) (some (.Name y py)) spos.line X.env=pure true:=by rfl)
  (hf:X.fn y=true\/X.env.scope.names.lookup y=some .local:=by first|exact .inl rfl|exact .inr rfl|assumption) :
  PS X (.Assign [.Name y py] (.ListComp elt [⟨tg,iter,ifs,0⟩] sc pos) spos) (uz (zr src wi g tt te) (di i)):=by
 intro pins s σ H D I h;have fa:=jR hsc;rw[exec_Assign_Name_used _ _ _ _ hsw];refine wpAny_bind (wpAny_standAt (wpAny_bind ?_));show wpAny _ X.A (do let _ <- comprehension (.ListComp elt [⟨tg,iter,ifs,0⟩] sc pos) sc X.env _ (newList []) false (eval iter X.env) (some (assign (.Name y py) X.env))) _ _ s
 refine wpAny_bind (wpAny_mono (wpAny_comprehension_free (use:=some (assign (.Name y py) X.env)) (Q:=λ_ s'=>SP X pins D .next s') rfl hs (iP (fa.cells I.ok)) fa.kind fa.names
  (thn (hi pins s σ H _ I h) λv s1 h1=>thn h1 λitv s2 h2=>?_)) (λ_ s' hq=>wpAny_pure (wpAny_pure hq)) λ_ _ e=>e)
 obtain⟨it,fp,tn,J,H2,rfl,I2,T,st2,f2,q2⟩:=h2;refine xL hX (NC:=NC) (src:=src) (some (assign (.Name y py) X.env)) (λ_ s'=>SP X pins D .next s') (by rw[hX];rfl) fa hsrc hb I2 T st2 f2 (Q:=λx H1=>di i x σ H1 D.nx) q2 ?_
 intro acc C s' H' m hn fpC hI hq;obtain⟨c0,c1,c2,c3,c4,c5⟩:=fpC;have I':Inv X pins σ H' s':=hI s'.heap (Heap.SameBut.refl ..);show wpAny _ X.A (assign (.Name y py) X.env (.ref acc)) _ _ _;refine wpAny_assign_Name (j0 (v:=.ref acc) I' hN hix hx rfl (λs2 J2 ⟨a,sb,ha⟩=>?_) hf)
 have hCa:C≠a:=by
  rcases ha with rfl|ha
  ·exact c1
  ·exact λz=>c4 y a ha z.symm
 refine⟨m,hn.sameBut sb hCa,λh' sb'=>?_⟩
 exact⟨_,H',J2.turned (t':=s2.toks) (λb o hb e=>(sb'.2 b hb).trans e) c0 c1 c3 c4 c5,hq⟩
end
theorem zL{X:Cx}{c:Expr}{a b:List Stmt}{pos:Pos}{tc:TT}{ta tb:XK->TS}(hc:PT X.nox c tc)(ha:PSX X a ta)(hb:PSX X b tb):PSX X [.If c a b pos] (λEX=>wY tc (ta EX) (tb EX)):=by
 intro pins s σ H D EX I h;refine wpAny_execs_cons (thn (Q:=SP X pins D) ?_ λf s1 q=>?_)
 ·refine wpAny_If (wpAny_mono (hc pins s σ H _ (I.wish _) h) (λd s1 ⟨H1,I1,q1⟩=>?_) λ_ _ z=>False.elim z)
  cases d with
  |true=>exact ha pins s1 σ H1 D EX I1.unwish q1
  |false=>exact hb pins s1 σ H1 D EX I1.unwish q1
 ·cases f with
  |next=>exact wpAny_execs_nil q
  |ret v=>exact q
  |brk=>exact q
  |cont=>exact q
def D5:V->List V->Hp->VK->Prop:=λx vs H Q=>∃(l:Addr) (bs:List Bool),x=.ref l/\vs=[.bl true]/\H l=some (.lst (bs.map V.bl))/\Q (.int (bs.count true:Nat)) H
theorem Ak{X:Cx}:MtM X "list.count" D5:=by
 intro pins s σ H x vs v us Q I rx rv h;obtain⟨l,bs,rfl,rfl,hH,q⟩:=h;cases rx;obtain⟨u,rfl,ru⟩:=rv.one;cases ru;obtain⟨z,its,n,r,hl,e⟩:=I.lstM hH;have hi:its=bs.map Value.bool:=by
  clear hH hl e z q
  induction bs generalizing its with
  |nil=>cases r;rfl
  |cons b bs ih=>cases r with|cons r1 r2=>cases r1;rw[ih _ r2];rfl
 have hc:its.toArray.toList.countP (λv=>v == .bool true)=bs.count true:=by
  rw[hi];clear hH hl e z q r hi
  induction bs with
  |nil=>rfl
  |cons b bs ih=>simp only[map_cons,List.countP_cons,List.count_cons] at ih ⊢;cases b<;>simp_all
 refine call_meets F.slot_list_count ⟨_,e,rfl⟩ F.entry_list_count (F.args_list_count_2 _ _) (PySem.SeqAt.list_countAt l its.toArray n _ _ (.bool true) (λv=>v == .bool true)) ⟨e,?_,?_⟩
 ·intro y hy;rw[hi] at hy;obtain⟨b,_,rfl⟩:=List.mem_map.mp (List.mem_toArray.mp hy);have:=PySem.SeqAt.EqAt.bool_bool (A:=X.A.in1) (s:=s) b true;cases b<;>exact this
 ·rw[hc];exact⟨.int (bs.count true:Nat),H,I.tok _,⟨_,rfl⟩,q⟩
end L2
set_option exponentiation.threshold 9000
namespace L2
open PySem PySem.Spec PyProof.Rows
theorem zl{n:Nat}(h:Nat.ble n 1000=true:=by rfl):n<=sizeLine:=Nat.le_trans (Nat.le_of_ble_eq_true h) (by decide)
theorem Ea{X:Cx}{x:Str}{k:Nat}{sp:Sp}{p pos:Pos}(F:FnB X.prog X.w X.K X.mg X.base k x sp)(hr:F5 k X.A)(hg:Gl X x:=by rfl)(hdb:(x==("__debug__" : Str))=false:=by decide):PE X (.Call (.Name x p) [] [] pos) (mf sp [] E0 fT):=by
 obtain⟨f,fd,ps,F',hm,hk,hb⟩:=F.ex;exact y9 F' hr hg hm hk hb .nil sV hdb
theorem defH{P:Program}{w:World}{Kf:Frag}{mg:Str->Option Value}{base h:Heap}{n:Str}{st:Stmt}{k:Nat}{sp:Sp}{ps:List Str}(X:Kf.In h)(G:h.Ns mainGlobals mg)(d:F3 Kf n st)(o:∀{f fd},Fun Kf n n st f fd->rc P w Kf mg base k f fd ps sp)(b:BindsOk n st ps:=by(repeat intro _);rfl):BU P w Kf mg base k n sp:=
 let ⟨f,fd,a,F⟩:=d
 ⟨f,fd,ps,o F,mg_of X G a,F.kp,b.b F⟩
end L2
namespace K
open PySem L2 PyProof.Rows
variable {P:Program} {w:World} {K:Frag} {mg:Str->Option Value} {base:Heap}
theorem un{H H1:Hp}{l:Addr}{o:HO}(e:upd H l o=H1)(n:H l=none):FX H H1/\H1 l=some o:=⟨e▸FX.new n,e▸FY⟩
def top(i:Nat):Stmt:=PySem.Challenge.pw_relationladder_k54_no_texts.main.body.getD i (.Pass ⟨0,0,0,0⟩)
abbrev dG:Stmt:=top 15
abbrev jQ:Stmt:=top 16
abbrev bL:Stmt:=inClass (top 21) 0
abbrev bc:Stmt:=inClass (top 21) 1
abbrev aV:Stmt:=inClass (top 21) 2
abbrev bW:Stmt:=inClass (top 21) 3
abbrev bN:Stmt:=inClass (top 21) 5
abbrev bV:Stmt:=inClass (top 22) 0
abbrev cK:Stmt:=inClass (top 22) 1
abbrev bM:Stmt:=inClass (top 22) 2
abbrev bR:Stmt:=inClass (top 22) 3
abbrev cZ:Stmt:=inClass (top 22) 4
abbrev cL:Stmt:=inClass (top 22) 6
abbrev i3:Stmt:=top 23
abbrev dw:Stmt:=top 24
abbrev kh:Stmt:=top 25
abbrev gw:Stmt:=top 27
abbrev mZ:Stmt:=top 28
abbrev nn:Stmt:=top 29
abbrev iR:Stmt:=top 30
abbrev cb:Stmt:=inClass (top 33) 0
abbrev cq:Stmt:=inClass (top 33) 1
abbrev cC:Stmt:=inClass (top 33) 2
abbrev mY:Stmt:=top 34
abbrev j8:Stmt:=top 35
abbrev nF:Stmt:=top 36
abbrev iY:Stmt:=top 37
abbrev qT:Stmt:=top 38
abbrev mR:Stmt:=top 40
abbrev iU:Stmt:=top 41
abbrev fH:Stmt:=top 42
abbrev hV:Stmt:=top 43
abbrev iW:Stmt:=top 48
abbrev i0:Stmt:=top 49
abbrev gr:Stmt:=top 50
abbrev ib:Stmt:=top 51
abbrev dI:Stmt:=top 52
abbrev fF:Stmt:=top 53
abbrev ik:Stmt:=top 54
abbrev fV:Stmt:=top 55
abbrev eO:Stmt:=top 56
abbrev fG:Stmt:=top 57
abbrev i4:Stmt:=top 58
abbrev iT:Stmt:=top 59
abbrev gi:Stmt:=top 60
abbrev gh:Stmt:=top 61
abbrev eW:Stmt:=top 62
abbrev gs:Stmt:=top 63
abbrev eP:Stmt:=top 64
abbrev gD:Stmt:=top 65
abbrev eT:Stmt:=top 66
abbrev im:Stmt:=top 67
abbrev gK:Stmt:=top 68
abbrev eV:Stmt:=top 69
abbrev fB:Stmt:=top 70
abbrev eR:Stmt:=top 71
abbrev ii:Stmt:=top 73
abbrev jb:Stmt:=top 74
abbrev ia:Stmt:=top 75
abbrev eS:Stmt:=top 76
abbrev gn:Stmt:=top 77
abbrev fz:Stmt:=top 78
abbrev eQ:Stmt:=top 79
abbrev fD:Stmt:=top 80
abbrev gz:Stmt:=top 81
abbrev cY:Stmt:=top 82
abbrev dW:Stmt:=top 83
abbrev gu:Stmt:=top 84
abbrev fv:Stmt:=top 85
abbrev Bj:Stmt:=top 86
theorem Fk:(["_law_part", "_law_number"]:List Str).Nodup:=by decide +kernel
def CDivA(_ j:Int):Prop:=j≠0/\j.natAbs<2^8800
theorem CDivA.ok{i j:Int}(h:CDivA i j):Builtin.divisionGoesByPylong i j=false:=by
 refine PyProof.noPylong_of_log2 ?_
 by_cases h0:j.natAbs=0
 ·rw[h0];decide +kernel
 ·have h30:j.natAbs.log2<8800:=(Nat.log2_lt h0).mpr h.2;omega
theorem iw{X:Cx}:OpR X (binaryOp .FloorDiv) (rI CDivA λi j=>.int (i.fdiv j)):=opI λ_ _ _ _ _ _ _ hc q=>floordiv_int hc.1 q (.inl hc.ok)
theorem FO{i j:Int}(hi:i.natAbs<2^8800)(hj:j.natAbs<2^8800):IntMulOk i j:=by
 have bits:∀{k:Int},k.natAbs<2^8800->Builtin.Int.intBits k<=8800:=λ{k} h=>by
  unfold Builtin.Int.intBits
  split
  ·omega
  ·rename_i h0;have h0':k.natAbs≠0:=by intro z;apply h0;simp;omega
   have:=(Nat.log2_lt h0').mpr h;omega
 have h1:=bits hi;have h2:=bits hj;unfold IntMulOk;have h3:Builtin.Int.intTooBig ((Builtin.Int.intBits i:Int)+Builtin.Int.intBits j)=false:=by
  unfold Builtin.Int.intTooBig;rw[decide_eq_false_iff_not];have:bitsLine=2^27:=rfl;rw[this];omega
 rw[h3];simp
theorem sq5{a b c d e z:TS}{D:fJ}{σ:L2.St}{H:Hp}(o:∀R,R=z->(cf a (cf b (cf c (cf d (cf e R))))) D σ H):(cf a (cf b (cf c (cf d (cf e z))))) D σ H:=o z rfl
theorem sq6{a b c d e f z:TS}{D:fJ}{σ:L2.St}{H:Hp}(o:∀R,R=z->(cf a (cf b (cf c (cf d (cf e (cf f R)))))) D σ H):(cf a (cf b (cf c (cf d (cf e (cf f z)))))) D σ H:=o z rfl
theorem sq7{a b c d e f g z:TS}{D:fJ}{σ:L2.St}{H:Hp}(o:∀R,R=z->(cf a (cf b (cf c (cf d (cf e (cf f (cf g R))))))) D σ H):(cf a (cf b (cf c (cf d (cf e (cf f (cf g z))))))) D σ H:=o z rfl
theorem oV{K:Frag}{a:Addr}{xs:List V}{g:TG}{tb:TS}{D:fJ}{σ:L2.St}{H:Hp}(Pv:Nat->L2.St->Hp->Prop)(h0:Pv 0 σ H)(hl:∀i σ H,i<=xs.length->Pv i σ H->SqL K H a xs)
  (hs:∀i x σ H,xs[i]? = some x->Pv i σ H->∀N B:L2.St->Hp->Prop,(∀σ' H',Pv (i+1) σ' H'->N σ' H')->g x σ H λσ2 H2=>tb { nx:=N,ct:=N,bk:=B,rt:=D.rt } σ2 H2) (hd:∀σ H,Pv xs.length σ H->D.nx σ H) :
  ∃W:Nat->Nat->L2.St->Hp->Prop,(∃m,W 0 m σ H)/\∀i m σ H,W i m σ H->
   ((Itl K a).stop i H/\D.nx σ H)\/((Itl K a).go i H/\∃N:L2.St->Hp->Prop,(∀σ' H',N σ' H'->∃m',m'<m/\W (i+1) m' σ' H')/\∀x H',(Itl K a).yld i H x H'->g x σ H' λσ2 H2=>tb { D with nx:=N,ct:=N,bk:=D.nx } σ2 H2):=
 sP Pv h0 hl (λi x σ H e p=>hs i x σ H e p _ _ λ_ _ z=>z) hd
theorem mh{lo:Int}{n:Nat}{g:TG}{tb:TS}{D:fJ}{σ:L2.St}{H:Hp}(Pv:Nat->L2.St->Hp->Prop)(h0:Pv 0 σ H)
  (hs:∀i σ H,i<n->Pv i σ H->∀N B:L2.St->Hp->Prop,(∀σ' H',Pv (i+1) σ' H'->N σ' H')->g (.int (lo+i)) σ H λσ2 H2=>tb { nx:=N,ct:=N,bk:=B,rt:=D.rt } σ2 H2) (hd:∀σ H,Pv n σ H->D.nx σ H) :
  ∃W:Nat->Nat->L2.St->Hp->Prop,(∃m,W 0 m σ H)/\∀i m σ H,W i m σ H->
   ((Itr lo n).stop i H/\D.nx σ H)\/((Itr lo n).go i H/\∃N:L2.St->Hp->Prop,(∀σ' H',N σ' H'->∃m',m'<m/\W (i+1) m' σ' H')/\∀x H',(Itr lo n).yld i H x H'->g x σ H' λσ2 H2=>tb { D with nx:=N,ct:=N,bk:=D.nx } σ2 H2):=
 pI Pv h0 (λi σ H e p=>hs i σ H e p _ _ λ_ _ z=>z) hd
theorem A6{t1 t2:Bool}{K:Frag}{a b:Addr}{xs ys:List V}{g:TG}{tb:TS}{D:fJ}{σ:L2.St}{H:Hp}(Pv:Nat->L2.St->Hp->Prop)(h0:Pv 0 σ H)(hl:∀i σ H,i<=min xs.length ys.length->Pv i σ H->SqV t1 K H a xs/\SqV t2 K H b ys)
  (hs:∀(i:Nat) x y σ H p,xs[i]? = some x->ys[i]? = some y->Pv i σ H->H p=none->∀N B:L2.St->Hp->Prop,(∀σ' H',Pv (i+1) σ' H'->N σ' H')->g (.ref p) σ (upd H p (.tup [x,y])) λσ2 H2=>tb { nx:=N,ct:=N,bk:=B,rt:=D.rt } σ2 H2) (hd:∀σ H,Pv (min xs.length ys.length) σ H->D.nx σ H) :
  ∃W:Nat->Nat->L2.St->Hp->Prop,(∃m,W 0 m σ H)/\∀i m σ H,W i m σ H->
   ((Itz t1 t2 K a b).stop i H/\D.nx σ H)\/((Itz t1 t2 K a b).go i H/\∃N:L2.St->Hp->Prop,(∀σ' H',N σ' H'->∃m',m'<m/\W (i+1) m' σ' H')/\∀x H',(Itz t1 t2 K a b).yld i H x H'->g x σ H' λσ2 H2=>tb { D with nx:=N,ct:=N,bk:=D.nx } σ2 H2):=
 B5 Pv h0 hl (λi x y σ H p e1 e2 q n=>hs i x y σ H p e1 e2 q n _ _ λ_ _ z=>z) hd
theorem bg{j:Int}(h:0<=j)(h2:j<2^63):j.natAbs<2^8800:=by
 have h3:j.natAbs<2^63:=by omega
 exact Nat.lt_of_lt_of_le h3 (Nat.pow_le_pow_right (by decide) (by decide))
theorem mU{i j:Int}(h:0<j)(h2:j<2^63):CDivA i j:=⟨by omega,bg (by omega) h2⟩
theorem Bh(ns:List Int){k:Int}(h0:0<=k)(h1:k<ns.length):∃z,atI (ns.map V.int) k=some (V.int z):=by
 obtain⟨n,rfl⟩:=Int.eq_ofNat_of_zero_le h0;have hn:n<ns.length:=by omega
 exact⟨ns[n],aB (by rw[getElem?_map,getElem?_eq_getElem hn];rfl)⟩
def yB(K:Frag):Sp:=λvs H Q _=>∃(a:Addr) (ns:List Int) (k:Int),vs=[.ref a,.int k]/\SqL K H a (ns.map V.int)/\ns.length<=63/\0<=k/\k<=100/\∀r:Int,Q (.int r) H
def iO(a b:Int):Int:=(a*48271+7919*b*b+17)%2147483647
def Gm(a b:Int)(k:Nat):Prop:=b=0\/(0<=a/\a<2147483647/\0<b/\b<=k)
def Dq(K:Frag):Sp:=λvs H Q _=>∃(a:Addr) (ns:List Int) (k:Int),vs=[.ref a,.int k]/\SqL K H a (ns.map V.int)/\ns.length<=63/\0<=k/\k<=99/\
 ∀(p:Addr) (a b:Int),H p=none->Gm a b 100->Q (.ref p) (upd H p (.lst [.int a,.int b]))
def mL:Sp:=λvs H Q _=>∃(p:Addr) (a b m:Int) (k:Nat),vs=[.ref p,.int m]/\H p=some (.lst [.int a,.int b])/\Gm a b k/\k<=1000000/\0<m/\m.natAbs<2^8800/\
 ∀r a' b',0<=r->r<m->Gm a' b' (k+1)->Q (.int r) (upd H p (.lst [.int a',.int b']))
theorem GI:FZ ["_law_script", "_law_k", "_law_seed", "_law_some"] ["_law_script", "_law_k"] (ah ii):=.i
theorem CB{f:Addr}{fd:FuncData}(F:Fun K "_law_cell" "_law_cell" ii f fd)(T:Blt mg):F2 P w K mg base CX0 1 f fd ["_law_script", "_law_k"] (yB K):=by
 refine F.o GI λ_ _ _ _ H _ Q _ hr h=>?_
 ·obtain⟨a,ns,k,rfl,hS,hl,hk0,hk1,q⟩:=h;have hln:((ns.map V.int).length:Int)=ns.length:=by rw[length_map]
  refine⟨_,(af (aW (aA gO (pv 1) (cG K T (pv 0)) (ao _))
(aj (au (aG (ay K rfl) (pv 0) (pv 1) (λ_ _=>rfl))))
aF)
(af (aD (i:=2) GI.nd rfl (Or.inl rfl) (aH dE (pv 1) ag))
(af (aW (aA gL (cG K T (pv 0)) ag (ao _))
(aj (aD (i:=2) GI.nd rfl (Or.inl rfl) (aH cN (pv 2) (aH cP (aG (ay K rfl) (pv 0) (aH cP (pv 1) (cG K T (pv 0))) (λ_ _=>rfl)) ag))))
aF)
(af (aD (i:=3) GI.nd rfl (Or.inl rfl) (aH cP (aH dE (pv 2) ag) ag))
(aj (au (aH cP (aH iw (aH dE (pv 3) (aH cN (aH cN (pv 3) (aH dE ag (pv 1))) ag)) ag) ag))))))),?_⟩
  refine⟨_,rfl,_,rfl,a,_,rfl,.inl hS,_,_,rfl,rfl,_,rfl,?_⟩;refine bt (λh=>?_) (λh=>?_)
  ·have h':k<ns.length:=by have:=of_decide_eq_true h;omega
   obtain⟨z,hz⟩:=Bh ns hk0 h';exact⟨_,rfl,_,rfl,a,_,_,_,rfl,rfl,hS,hz,q _⟩
  ·refine⟨_,rfl,_,_,rfl,rfl,.inl ⟨by omega,by omega⟩,?_⟩
   refine⟨_,rfl,a,_,rfl,.inl hS,_,_,rfl,rfl,_,rfl,?_⟩;have fin:∀sd:Int,(0:Int)<=sd*48271%65537/\sd*48271%65537<65537:=λsd=>⟨Int.emod_nonneg _ (by decide),Int.emod_lt_of_pos _ (by decide)⟩
   refine bt (λh=>?_) (λh=>?_)
   ·have h':0<(ns.length:Int):=by have:=of_decide_eq_true h;omega
    obtain⟨z,hz⟩:=Bh ns (k:=k%((ns.map V.int).length:Int)) (Int.emod_nonneg _ (by omega)) (by have:=Int.emod_lt_of_pos k (b:=((ns.map V.int).length:Int)) (by omega);omega)
    refine⟨_,rfl,_,rfl,_,rfl,_,rfl,a,_,rfl,.inl hS,_,_,rfl,rfl,(by show(0:Int)<_;omega),a,_,_,_,rfl,rfl,hS,hz,_,_,rfl,rfl,(by show(0:Int)<65537;decide),_,_,rfl,rfl,?_⟩
    have f1:=fin (k*7919+z%65537);refine⟨_,rfl,_,_,rfl,rfl,.inr ⟨by decide,by decide⟩,_,_,rfl,rfl,(by show(0:Int)<65537;decide),?_⟩
    exact⟨_,rfl,_,rfl,_,rfl,_,_,rfl,rfl,.inl ⟨by decide,by decide⟩,_,_,rfl,rfl,_,_,rfl,rfl,_,_,rfl,rfl,.inl ⟨Int.lt_of_lt_of_le (by decide) f1.1,Int.lt_of_lt_of_le f1.2 (by decide)⟩,_,_,rfl,rfl,mU (by decide) (by decide),_,_,rfl,rfl,(by show(0:Int)<65521;decide),q _⟩
   ·have f1:=fin (k*7919);refine⟨_,rfl,_,_,rfl,rfl,.inr ⟨by decide,by decide⟩,_,_,rfl,rfl,(by show(0:Int)<65537;decide),?_⟩
    exact⟨_,rfl,_,rfl,_,rfl,_,_,rfl,rfl,.inl ⟨by decide,by decide⟩,_,_,rfl,rfl,_,_,rfl,rfl,_,_,rfl,rfl,.inl ⟨Int.lt_of_lt_of_le (by decide) f1.1,Int.lt_of_lt_of_le f1.2 (by decide)⟩,_,_,rfl,rfl,mU (by decide) (by decide),_,_,rfl,rfl,(by show(0:Int)<65521;decide),q _⟩
theorem sc__law_bag:FZ ["_law_script", "_law_at", "_law_cell_here"] ["_law_script", "_law_at"] (ah jb):=.i
theorem EY{f:Addr}{fd:FuncData}(F:Fun K "_law_bag" "_law_bag" jb f fd)(Li:FnB P w K mg base 1 "_law_cell" (yB K)):F2 P w K mg base CX0 2 f fd ["_law_script", "_law_at"] (Dq K):=by
 refine F.o sc__law_bag λ_ _ _ _ H _ Q _ hr h=>?_
 ·obtain⟨a,ns,k,rfl,hS,hl,hk0,hk1,q⟩:=h;refine⟨_,(af (aD (i:=2) sc__law_bag.nd rfl (Or.inl rfl) (aR Li hr.m (aa (pv 0) (aa (pv 1) ae))))
(af (aW (PW.pt (fI (aA Bg (pv 2) (aH zu ag ag) (ao _)) (et (aA sj (pv 2) (kF g0 (aH zu ag ag)) (ao _)))))
(aj (au (ci (aa (pv 2) (aa ag ae)))))
aF)
(aj (au (ci (aa (aH cP (pv 2) ag) (aa (aH cN (pv 1) ag) ae))))))),?_⟩
  refine⟨_,rfl,_,rfl,a,ns,k,rfl,hS,hl,hk0,by omega,λr=>?_⟩
  refine⟨_,rfl,_,_,rfl,rfl,⟨by decide,by decide,by decide⟩,_,_,rfl,rfl,_,rfl,?_⟩
  have f1:(0:Int)<=r%2147483647/\r%2147483647<2147483647:=⟨Int.emod_nonneg _ (by decide),Int.emod_lt_of_pos _ (by decide)⟩
  refine bt (λh=>?_) (λh=>?_)
  ·refine bC ?_;exact⟨_,rfl,zl,λp hp=>q p r 0 hp (.inl rfl)⟩
  ·refine⟨_,rfl,_,_,rfl,rfl,⟨by decide,by decide,by decide⟩,_,rfl,_,_,rfl,rfl,_,rfl,?_⟩
   refine bt (λh=>?_) (λh=>?_)
   ·exact⟨_,rfl,zl,λp hp=>q p r 0 hp (.inl rfl)⟩
   ·exact⟨_,rfl,_,_,rfl,rfl,(by show(0:Int)<2147483647;decide),_,rfl,_,_,rfl,rfl,zl,λp hp=>q p _ _ hp (.inr ⟨f1.1,f1.2,by omega,by omega⟩)⟩
theorem sc__law_take:FZ ["_law_bag_here", "_law_many", "_law_some"] ["_law_bag_here", "_law_many"] (ah ia):=.i
theorem Cb{f:Addr}{fd:FuncData}(F:Fun K "_law_take" "_law_take" ia f fd):F2 P w K mg base CX0 1 f fd ["_law_bag_here", "_law_many"] mL:=by
 refine F.o sc__law_take λ_ _ _ _ H _ Q _ hr h=>?_
 ·obtain⟨p,a,b,m,k,rfl,hp,hb,hk,hm,hm2,q⟩:=h;refine⟨_,(af (aW (aA ba (aG (ay K rfl) (pv 0) ag (λ_ _=>rfl)) ag (ao _))
(af (aD (i:=2) sc__law_take.nd rfl (Or.inl rfl) (aH cP (aG (ay K rfl) (pv 0) ag (λ_ _=>rfl)) (pv 1)))
(af (lU (aH iw (aG (ay K rfl) (pv 0) ag (λ_ _=>rfl)) (pv 1)) (mi (pv 0) ag dH))
(aj (au (pv 2)))))
aF)
(af (lU (aH cP (aH cN (aH cN (aH dE (aG (ay K rfl) (pv 0) ag (λ_ _=>rfl)) ag) (aH dE (aH dE ag (aG (ay K rfl) (pv 0) ag (λ_ _=>rfl))) (aG (ay K rfl) (pv 0) ag (λ_ _=>rfl)))) ag) ag) (mi (pv 0) ag dH))
(af (lU (aH cN (aG (ay K rfl) (pv 0) ag (λ_ _=>rfl)) ag) (mi (pv 0) ag dH))
(aj (au (aH cP (aH cP (aH dE (aG (ay K rfl) (pv 0) ag (λ_ _=>rfl)) ag) ag) (pv 1))))))),?_⟩
  have e0:∀(a b:Int) (H':Hp),H' p=some (.lst [.int a,.int b])->SqL K H' p [.int a,.int b]:=λa b H' h=>SqL.of h
  refine⟨_,rfl,p,_,_,_,rfl,rfl,e0 a b H hp,rfl,rfl,_,rfl,?_⟩;refine bt (λh=>?_) (λh=>?_)
  ·have hb0:b=0:=by simpa using h
   refine⟨_,rfl,p,_,_,_,rfl,rfl,e0 a b H hp,rfl,_,rfl,_,_,rfl,rfl,hm,?_⟩;refine⟨_,rfl,p,_,_,_,rfl,rfl,e0 a b H hp,rfl,_,rfl,_,_,rfl,rfl,⟨by omega,hm2⟩,_,rfl,p,_,_,_,rfl,rfl,hp,rfl,?_⟩
   refine⟨_,rfl,?_⟩;exact q _ _ _ (Int.emod_nonneg _ (by omega)) (Int.emod_lt_of_pos _ hm) (.inl hb0)
  ·have hb0:b≠0:=by simpa using h
   rcases hb with z|⟨a0,a1,b0,b1⟩
   ·exact absurd z hb0
   refine⟨_,rfl,p,_,_,_,rfl,rfl,e0 a b H hp,rfl,_,_,rfl,rfl,.inl ⟨by omega,by omega⟩,_,rfl,p,_,_,_,rfl,rfl,e0 a b H hp,rfl,_,_,rfl,rfl,.inl ⟨by decide,by decide⟩,_,rfl,p,_,_,_,rfl,rfl,e0 a b H hp,rfl,_,_,rfl,rfl,.inr ⟨by omega,by omega⟩,_,_,rfl,rfl,_,_,rfl,rfl,_,_,rfl,rfl,(by show(0:Int)<2147483647;decide),_,rfl,p,_,_,_,rfl,rfl,hp,rfl,?_⟩
   have a0':0<=iO a b:=Int.emod_nonneg _ (by decide)
   have a1':iO a b<2147483647:=Int.emod_lt_of_pos _ (by decide)
   refine⟨_,rfl,p,_,_,_,rfl,rfl,e0 (iO a b) b _ FY,rfl,_,_,rfl,rfl,_,rfl,p,[.int (iO a b),.int b],_,_,rfl,rfl,FY,rfl,?_⟩;refine⟨_,rfl,p,_,_,_,rfl,rfl,e0 (iO a b) (b+1) _ FY,rfl,_,_,rfl,rfl,.inl ⟨by omega,by omega⟩,_,_,rfl,rfl,(by show(0:Int)<2147483629;decide),_,rfl,_,_,rfl,rfl,hm,?_⟩
   have e:upd (upd H p (.lst [.int (iO a b),.int b])) p (.lst [.int (iO a b),.int (b+1)])=upd H p (.lst [.int (iO a b),.int (b+1)]):=vi;have z:=q (iO a b*69621%2147483629%m) (iO a b) (b+1) (Int.emod_nonneg _ (by omega)) (Int.emod_lt_of_pos _ hm) (.inr ⟨a0',a1',by omega,by omega⟩)
   rw[<- e] at z;exact z
theorem Gm.mono{a b:Int}{j k:Nat}(h:Gm a b j)(hk:j<=k):Gm a b k:=by
 rcases h with h|⟨h1,h2,h3,h4⟩
 ·exact .inl h
 ·exact .inr ⟨h1,h2,h3,by omega⟩
theorem sqvT{K:Frag}{H:Hp}{a:Addr}{xs:List V}(h:SqT K H a xs):SqV true K H a xs:=h
theorem fc{K:Frag}{H:Hp}{a:Addr}{xs:List V}(h:SqL K H a xs):SqV false K H a xs:=h
def v2(f:Int->Int->V):V->V->V:=λx y=>match x,y with
 |.int i,.int j=>f i j
 |_,_=>.non
def v1(f:Int->V):V->V:=λx=>match x with
 |.int i=>f i
 |_=>.non
theorem D7(f:Int->V)(ns:List Int):(ns.map V.int).map (v1 f)=ns.map f:=by
 rw[map_map];rfl
theorem iI{ns:List Int}{i:Nat}{x:V}(h:(ns.map V.int)[i]? = some x):∃z,ns[i]? = some z/\x=.int z:=by
 rw[getElem?_map] at h;cases e:ns[i]? with
 |none=>rw[e] at h;cases h
 |some z=>rw[e] at h;exact⟨z,rfl,(Option.some.inj h).symm⟩
def eE(n:Int)(i:Nat):List Int:=((List.range i).map λj:Nat=>(2:Int)+(j:Int)).filter λd=>decide (d*d<=n)
def gP(n:Int):Bool:=decide (1<n)&&(eE n 98).all λd=>decide (0<n%d)
def F0(p:Int):Prop:=p=0\/(2<=p/\p<=9973/\gP p=true)
theorem jB(n:Int)(i:Nat):eE n (i+1)=if (2+(i:Int))*(2+(i:Int))<=n then eE n i++[2+(i:Int)] else eE n i:=by
 unfold eE;rw[range_succ,map_append,List.filter_append]
 by_cases h:(2+(i:Int))*(2+(i:Int))<=n
 ·rw[if_pos h];simp[h]
 ·rw[if_neg h];simp[h]
theorem mem_parts{n d:Int}{i:Nat}:d∈eE n i↔2<=d/\d<2+(i:Int)/\d*d<=n:=by
 unfold eE;rw[List.mem_filter,List.mem_map]
 constructor
 ·rintro⟨⟨j,hj,rfl⟩,h⟩;have:=List.mem_range.mp hj;exact⟨by omega,by omega,of_decide_eq_true h⟩
 ·rintro⟨h1,h2,h3⟩;exact⟨⟨(d-2).toNat,List.mem_range.mpr (by omega),by omega⟩,decide_eq_true h3⟩
theorem isPb_iff{n:Int}:gP n=true↔1<n/\∀d,2<=d->d<100->d*d<=n->0<n%d:=by
 unfold gP;rw[Bool.and_eq_true,all_eq_true]
 constructor
 ·rintro⟨h1,h2⟩;exact⟨of_decide_eq_true h1,λd a b c=>of_decide_eq_true (h2 d (mem_parts.mpr ⟨a,by omega,c⟩))⟩
 ·rintro⟨h1,h2⟩;refine⟨decide_eq_true h1,λd hd=>?_⟩
  obtain⟨a,b,c⟩:=mem_parts.mp hd;exact decide_eq_true (h2 d a (by omega) c)
theorem E1:gP 2=true:=by decide +kernel
def m7:Sp:=λvs H Q _=>∃n:Int,vs=[.int n]/\∀H',FX H H'->Q (.bl (gP n)) H'
theorem GQ:FZ ["_law_number", "_law_parts"] ["_law_number"] (ah eS):=.i
theorem sw{f:Addr}{fd:FuncData}(F:Fun K "_law_is_prime" "_law_is_prime" eS f fd)(T:Blt mg):F2 P w K mg base CX0 1 f fd ["_law_number"] m7:=by
 refine F.o GQ λ_ _ _ _ H _ Q _ hr h=>?_
 ·obtain⟨n,rfl,q⟩:=h;refine⟨_,(af (pZ (i:=1) GQ.nd rfl (Or.inl rfl) (N:=["_law_part", "_law_number"]) (src:=[none,some 0]) rfl rfl rfl (by exact(wM rfl T.range (aa ag (aa ag ae)))) (λ_ _ _=>by exact⟨by exact(cv (i:=0) Fk rfl rfl),(qL (aA sj (aH dE (pv 0) (pv 0)) (pv 1) (ao _))),by exact(pv 0)⟩))
(aj (au (df (bF gL (pv 0) ag (ao _)) (du (fM K T (by exact cD (N:=["_law_part", "_law_number"]) (src:=[none,some 0]) rfl rfl rfl (by exact(bI K rfl (pv 1))) (λ_ _ _=>by exact⟨by exact(cv (i:=0) Fk rfl rfl),bi,by exact(bF gL (aH cP (pv 1) (pv 0)) ag (ao _))⟩)) false)))))),?_⟩
  refine⟨_,_,rfl,⟨by decide,by decide,by decide,by decide⟩,fe (n:=98) (σ0:=[none,some (.int n)]) rfl (λacc i zs σ H'=>∃u:Option V,σ=[u,some (.int n)]/\zs=(eE n i).map V.int/\FX H H') (by decide) (λacc hacc=>⟨none,rfl,rfl,FX.new hacc⟩) ?_ ?_ ?_ ?_⟩
  ·rintro acc i zs σ H' hacc hi hz _;exact hi
  ·rintro acc zs σ H' hacc hz _;exact Nat.le_refl 98
  ·rintro acc i zs σ H' x H'' hacc hi hz hzl ⟨u,rfl,rfl,sm⟩ ⟨rfl,rfl⟩;refine⟨_,rfl,_,rfl,_,_,rfl,rfl,.inl ⟨by omega,by omega⟩,_,rfl,_,_,rfl,rfl,_,rfl,bt (λh=>?_) (λh=>?_)⟩
   ·have h':(2+(i:Int))*(2+(i:Int))<=n:=of_decide_eq_true h;refine⟨_,rfl,_,hz,o8 (by omega),_,FY,by rw[length_append,length_singleton];omega,_,rfl,?_,sm.put hacc⟩
    rw[jB,if_pos h',map_append]
    rfl
   ·have h':¬(2+(i:Int))*(2+(i:Int))<=n:=λz=>h (decide_eq_true z)
    refine⟨_,hz,by omega,_,rfl,?_,sm⟩
    rw[jB,if_neg h']
  ·rintro acc zs σ H' hacc hz hzl ⟨u,rfl,rfl,sm⟩;refine⟨_,rfl,_,_,rfl,rfl,_,rfl,bt (λh=>?_) (λh=>?_)⟩
   ·have h1:(1:Int)<n:=of_decide_eq_true h;refine⟨_,rfl,acc,rfl,⟨_,SqL.of hz⟩,yS (v1 λd=>.bl (decide (0<n%d))) rfl (SqL.of hz) (Nat.le_of_lt (o8 (by omega))) (λi x H1 R hx sm1 hR=>?_) (λacc2 H1 hacc2 sm1 hl1=>?_)⟩
    ·obtain⟨z,hz',rfl⟩:=iI hx;obtain⟨z2,_,_⟩:=mem_parts.mp (mem_of_getElem? hz');exact⟨_,rfl,_,rfl,_,_,rfl,rfl,(by show(0:Int)<z;omega),_,_,rfl,rfl,hR⟩
    ·rw[D7] at hl1;have e1:(eE n 98).map (λd=>V.bl (decide (0<n%d)))=((eE n 98).map λd=>decide (0<n%d)).map V.bl:=by rw[map_map];rfl
     rw[e1] at hl1;refine⟨acc2,_,rfl,fc (SqL.of hl1),?_⟩;have z:=q H1 (sm.trans sm1);unfold gP at z;rw[decide_eq_true h1,Bool.true_and] at z;rw[all_map];exact z
   ·have h1:¬(1:Int)<n:=λz=>h (decide_eq_true z)
    have z:=q H' sm;unfold gP at z;rw[decide_eq_false h1,Bool.false_and] at z;exact z
def vy:Sp:=λvs H Q _=>∃(p:Addr) (a b:Int) (k:Nat),vs=[.ref p]/\H p=some (.lst [.int a,.int b])/\Gm a b k/\k<=900000/\
 ∀(r a' b':Int) (H':Hp),F0 r->H' p=some (.lst [.int a',.int b'])->Gm a' b' (k+2)->(∀c o,H c=some o->c≠p->H' c=some o)->Q (.int r) H'
theorem GC:FZ ["_law_bag_here", "_law_way", "_law_number"] ["_law_bag_here"] (ah gn):=.i
theorem AB{f:Addr}{fd:FuncData}(F:Fun K "_law_prime" "_law_prime" gn f fd)(Ho:FnB P w K mg base 1 "_law_take" mL)(JC:FnB P w K mg base 1 "_law_is_prime" m7):F2 P w K mg base CX0 2 f fd ["_law_bag_here"] vy:=by
 refine F.o GC λ_ _ _ _ H _ Q _ hr h=>?_
 ·obtain⟨p,a,b,k,rfl,hp,hb,hk,q⟩:=h;refine⟨_,(af (aD (i:=1) GC.nd rfl (Or.inl rfl) (aR Ho hr.m (aa (pv 0) (aa ag ae))))
(af (aW (aA gO (pv 1) ag (ao _))
(aj (au ag))
aF)
(af (aW (aA gO (pv 1) ag (ao _))
(aj (au (aG (ay K rfl) (ci (aa ag (aa ag (aa ag ae)))) (aH kq (pv 1) ag) (λ_ _=>rfl))))
aF)
(af (aD (i:=2) GC.nd rfl (Or.inl rfl) (aH cN ag (aR Ho hr.m (aa (pv 0) (aa ag ae)))))
(af (jg PassesOwn.never (cB (bH (aR JC hr.m (aa (pv 2) ae))))
(aj (aD (i:=2) GC.nd rfl (Or.inl rfl) (aH kq (pv 2) ag))))
(aj (au (pv 2)))))))),?_⟩
  refine⟨_,rfl,p,a,b,8,k,rfl,hp,hb,by omega,by decide,bg (by decide) (by decide),λr1 a1 b1 r10 r11 hb1=>?_⟩
  have k1:∀o c o',H c=some o'->c≠p->(upd H p o) c=some o':=λo c o' e hc=>by rw[ar hc];exact e
  refine⟨_,rfl,_,_,rfl,rfl,_,rfl,bt (λh=>?_) (λh=>?_)⟩
  ·exact q 0 a1 b1 _ (.inl rfl) FY (hb1.mono (by omega)) (k1 _)
  have h4:¬r1<4:=λz=>h (decide_eq_true z)
  refine⟨_,rfl,_,_,rfl,rfl,_,rfl,bt (λh=>?_) (λh=>?_)⟩
  ·have h7:r1<7:=of_decide_eq_true h;refine⟨zl,λq1 n1=>?_⟩
   have pq:p≠q1:=al (o:=.lst [.int a1,.int b1]) FY n1;obtain⟨v,hat,hv⟩:∃v:Int,atI [V.int 2,V.int 3,V.int 7] (r1-4)=some (.int v)/\F0 v:=by
    have h:r1=4\/r1=5\/r1=6:=by omega
    rcases h with rfl|rfl|rfl
    ·exact⟨2,rfl,.inr ⟨by decide,by decide,by decide +kernel⟩⟩
    ·exact⟨3,rfl,.inr ⟨by decide,by decide,by decide +kernel⟩⟩
    ·exact⟨7,rfl,.inr ⟨by decide,by decide,by decide +kernel⟩⟩
   refine⟨_,rfl,_,_,rfl,rfl,q1,_,_,_,rfl,rfl,SqL.of FY,hat,?_⟩;exact q v a1 b1 _ hv (by rw[ar pq,FY]) (hb1.mono (by omega)) λc o e hc=>by rw[ar (al (k1 _ c o e hc) n1)];exact k1 _ c o e hc
  ·refine⟨_,rfl,p,a1,b1,9972,k+1,rfl,FY,hb1,by omega,by decide,bg (by decide) (by decide),λr2 a2 b2 r20 r21 hb2=>?_⟩
   refine⟨_,_,rfl,rfl,?_⟩;rw[vi];refine je (λσ H'=>∃n:Int,σ=[some (.ref p),some (.int r1),some (.int n)]/\2<=n/\n<=9973/\FX (upd H p (.lst [.int a2,.int b2])) H') (λσ _=>match σ with|[_,_,some (.int n)]=>n.toNat|_=>0) ⟨_,rfl,by omega,by omega,FX.refl _⟩ ?_ ?_
   ·rintro σ H2 ⟨n,rfl,n2,n9,sm⟩;refine⟨_,rfl,n,rfl,λH3 sm3=>⟨_,rfl,?_⟩⟩
    cases hn:gP n with
    |false=>
     refine bC ⟨_,rfl,_,_,rfl,rfl,⟨_,rfl,?_,by omega,sm.trans sm3⟩,?_⟩
     ·have:n≠2:=λz=>by rw[z,E1] at hn;cases hn
      omega
     ·show(n-1).toNat<n.toNat;omega
    |true=>
     refine bS ⟨_,rfl,?_⟩;have s:=sm.trans sm3;exact q n a2 b2 H3 (.inr ⟨n2,n9,hn⟩) (s _ _ FY) hb2 λc o e hc=>s _ _ (k1 _ c o e hc)
   ·rintro σ H Q Q' hq ⟨x,hx,n,e,h⟩;refine⟨x,hx,n,e,λH' s=>?_⟩
    obtain⟨b,hb,z⟩:=h H' s;exact⟨b,hb,hq _ _ z⟩
def j3:Sp:=λvs H Q _=>∃n:Int,vs=[.int n]/\Q (.bl (decide (2<=n/\n<=9973)&&gP n)) H
theorem sc_is_prime:FZ ["whole", "divisor"] ["whole"] (ah i3):=.i
theorem uk{f:Addr}{fd:FuncData}{tk tk2:Tok}(F:Fun K "is_prime" "is_prime" i3 f fd)(cLeast:mg "LEAST_PRIME"=some (.int 2 tk))(cGreatest:mg "GREATEST_PRIME"=some (.int 9973 tk2)):F2 P w K mg base CX0 1 f fd ["whole"] j3:=by
 refine F.o sc_is_prime λ_ _ _ _ H _ Q _ hr h=>?_
 ·obtain⟨n,rfl,q⟩:=h;refine⟨_,(af (aW (PW.pt (fI (aA gO (pv 0) (bG (v:=.int 2) rfl cLeast ⟨_,rfl⟩) (ao _)) (et (aA gL (pv 0) (bG (v:=.int 9973) rfl cGreatest ⟨_,rfl⟩) (ao _)))))
(aj (au fN))
aF)
(af (aD (i:=1) sc_is_prime.nd rfl (Or.inl rfl) ag)
(af (jg PassesOwn.never (aA sj (aH dE (pv 1) (pv 1)) (pv 0) (ao _))
(af (aW (aA ba (aH cP (pv 0) (pv 1)) ag (ao _))
(aj (au fN))
aF)
(aj (aD (i:=1) sc_is_prime.nd rfl (Or.inl rfl) (aH cN (pv 1) ag)))))
(aj (au fN))))),?_⟩
  have no:¬(2<=n/\n<=9973)->Q (.bl false) H:=λh=>by
   rw[decide_eq_false h,Bool.false_and] at q;exact q
  refine⟨_,rfl,_,_,rfl,rfl,_,rfl,bt (λh=>?_) (λh=>?_)⟩
  ·have h1:n<2:=of_decide_eq_true h;exact bC (no (by omega))
  have h1:¬n<2:=λz=>h (decide_eq_true z)
  refine⟨_,rfl,_,_,rfl,rfl,_,rfl,bt (λh=>?_) (λh=>?_)⟩
  ·have h2:9973<n:=of_decide_eq_true h;exact no (by omega)
  have h2:¬9973<n:=λz=>h (decide_eq_true z)
  rw[decide_eq_true (show 2<=n/\n<=9973 by omega),Bool.true_and] at q
  refine je (λσ H'=>∃d:Int,σ=[some (.int n),some (.int d)]/\H'=H/\2<=d/\d<=101/\∀e,2<=e->e<d->0<n%e) (λσ _=>match σ with|[_,some (.int d)]=>(200-d).toNat|_=>0) ⟨2,rfl,rfl,by omega,by omega,λe h1 h2=>by omega⟩ ?_ ?_
  ·rintro σ H2 ⟨d,rfl,rfl,hd2,hd1,hall⟩;refine⟨_,rfl,_,rfl,_,_,rfl,rfl,.inl ⟨by omega,by omega⟩,_,rfl,_,_,rfl,rfl,_,rfl,bt (λh=>?_) (λh=>?_)⟩
   ·have hdd:d*d<=n:=of_decide_eq_true h;have hd100:d<100:=Int.not_le.mp λz=>by
     have:=Int.mul_le_mul z z (by omega) (by omega)
     omega
    refine⟨_,rfl,_,rfl,_,_,rfl,rfl,(by show(0:Int)<d;omega),rfl,_,rfl,bt (λh=>?_) (λh=>?_)⟩
    ·have h0:n%d=0:=by
      have:=of_decide_eq_true h;injection this
     have e:gP n=false:=by
      cases hp:gP n with
      |false=>rfl
      |true=>
       have:=(isPb_iff.mp hp).2 d hd2 hd100 hdd;omega
     rw[e] at q;exact q
    ·have h0:n%d≠0:=λz=>h (decide_eq_true (congrArg V.int z))
     have h00:=Int.emod_nonneg n (show d≠0 by omega)
     refine⟨_,rfl,_,_,rfl,rfl,⟨d+1,rfl,rfl,by omega,by omega,λe e1 e2=>?_⟩,?_⟩
     ·by_cases ee:e=d
      ·rw[ee];omega
      ·exact hall e e1 (by omega)
     ·show(200-(d+1)).toNat<(200-d).toNat;omega
   ·have hdd:¬d*d<=n:=λz=>h (decide_eq_true z)
    have e:gP n=true:=isPb_iff.mpr ⟨by omega,λe e1 e2 e3=>hall e e1 (Int.not_le.mp λz=>by
     have:=Int.mul_le_mul z z (by omega) (by omega)
     omega)⟩
    rw[e] at q;exact q
  ·rintro σ H Q Q' hq ⟨x,hx,x2,hx2,i,j,e1,e2,c,y,hy,i2,j2,e3,e4,b,hb,h⟩;exact⟨x,hx,x2,hx2,i,j,e1,e2,c,y,hy,i2,j2,e3,e4,b,hb,hq _ _ h⟩
def zA:Sp:=λvs H Q _=>∃a b:Int,vs=[.int a,.int b]/\Q (.int (Int.gcd a b)) H
theorem Gb:FZ ["one", "other", "first", "second", "rest"] ["one", "other"] (ah dw):=.i
theorem D1{f:Addr}{fd:FuncData}(F:Fun K "greatest_divisor" "greatest_divisor" dw f fd)(T:Blt mg):F2 P w K mg base CX0 1 f fd ["one", "other"] zA:=by
 refine F.o Gb λ_ _ _ _ H _ Q _ hr h=>?_
 ·obtain⟨a,b,rfl,q⟩:=h;refine⟨_,(af (aD (i:=2) Gb.nd rfl (Or.inl rfl) (yH T (pv 0)))
(af (aD (i:=3) Gb.nd rfl (Or.inl rfl) (yH T (pv 1)))
(af (jg PassesOwn.never (aA iz (pv 3) ag (ao _))
(af (aD (i:=4) Gb.nd rfl (Or.inl rfl) (aH cP (pv 2) (pv 3)))
(af (aD (i:=2) Gb.nd rfl (Or.inl rfl) (pv 3))
(aj (aD (i:=3) Gb.nd rfl (Or.inl rfl) (pv 4))))))
(aj (au (pv 2)))))),?_⟩
  refine⟨_,rfl,_,rfl,_,rfl,_,rfl,?_⟩;refine je (λσ H'=>∃(x y:Nat) (u:Option V),σ=[some (.int a),some (.int b),some (.int x),some (.int y),u]/\H'=H/\Nat.gcd x y=Int.gcd a b) (λσ _=>match σ with|[_,_,_,some (.int y),_]=>y.toNat|_=>0) ⟨a.natAbs,b.natAbs,none,?_,rfl,rfl⟩ ?_ ?_
  ·have e1:(if a<0 then -a else a)=(a.natAbs:Int):=by split<;>omega
   have e2:(if b<0 then -b else b)=(b.natAbs:Int):=by split<;>omega
   rw[e1,e2]
   rfl
  ·rintro σ H2 ⟨x,y,u,rfl,rfl,hg⟩;refine⟨_,rfl,rfl,_,rfl,?_⟩
   by_cases hy:y=0
   ·subst hy;refine vp rfl ?_;rw[Nat.gcd_zero_right] at hg;subst hg;exact⟨_,rfl,q⟩
   ·rw[decide_eq_false (show ¬V.int (y:Int)=V.int 0 from λz=>by injection z;omega)]
    refine bC ⟨_,rfl,_,rfl,_,_,rfl,rfl,(by show(0:Int)<(y:Int);omega),_,rfl,_,rfl,⟨y,x%y,some (.int ((x:Int)%(y:Int))),?_,rfl,?_⟩,?_⟩
    ·rfl
    ·rw[<- hg,Nat.gcd_comm x y,Nat.gcd_rec y x,Nat.gcd_comm]
    ·show((x:Int)%(y:Int)).toNat<(y:Int).toNat;have h1:=Int.emod_lt_of_pos (x:Int) (show(0:Int)<y by omega)
     have h2:=Int.emod_nonneg (x:Int) (show(y:Int)≠0 by omega)
     omega
  ·rintro σ H Q Q' hq ⟨x,hx,e1,b,hb,h⟩;exact⟨x,hx,e1,b,hb,hq _ _ h⟩
def F7(CF CR:Addr)(H:Hp)(x:Addr)(p:Int):Prop:=(p=0/\∃dx,H x=some (.ins CF dx []))\/(p≠0/\∃dx,H x=some (.ins CR dx [("modulus",.int p)]))
def lL(CR:Addr):Sp:=λvs H Q _=>∃(x dx:Addr) (p:Int),vs=[.ref x,.int p]/\H x=some (.ins CR dx [])/\F0 p/\p≠0/\Q .non (upd H x (.ins CR dx [("modulus",.int p)]))
def AF(CF CR:Addr):Sp:=λvs H Q _=>∃p:Int,vs=[.int p]/\F0 p/\∀(x:Addr) (H':Hp),FX H H'->F7 CF CR H' x p->Q (.ref x) H'
theorem jP:FZ ["self", "prime"] ["self", "prime"] (ah bV):=.i
theorem yU{f CR:Addr}{fd:FuncData}(F:Fun K "__init__" "Rests.__init__" bV f fd)(cl:Cls K CR)(nM:Gk K CR "modulus")(Je:FnB P w K mg base 1 "is_prime" j3):F2 P w K mg base CX0 2 f fd ["self", "prime"] (lL CR):=by
 refine F.o jP λ_ _ _ _ H _ Q _ hr h=>?_
 ·obtain⟨x,dx,p,rfl,hx,hp,p0,q⟩:=h;refine⟨_,(af (aW (cB (bH (aR Je hr.m (aa (pv 1) ae))))
(aj zd)
aF)
(aj (uq (pv 0) (pv 1) rfl))),?_⟩
  rcases hp with z|⟨h1,h2,h3⟩
  ·exact absurd z p0
  refine⟨_,rfl,p,rfl,_,rfl,?_⟩;rw[decide_eq_true ⟨h1,h2⟩,h3];refine bS ⟨_,rfl,_,rfl,x,CR,dx,[],rfl,hx,cl,nM,(by show 0<1000;decide),?_⟩
  exact q
theorem kY:FZ ["_law_prime_here"] ["_law_prime_here"] (ah fz):=.i
theorem BS{f CF CR:Addr}{fd:FuncData}(F:Fun K "_law_numbers" "_law_numbers" fz f fd)(MFractions:Mk0 K CF)(AFractions:mg "Fractions"=some (.ref CF))(K9:MkB P w K mg base 2 CR "Rests" (lL CR)):F2 P w K mg base CX0 4 f fd ["_law_prime_here"] (AF CF CR):=by
 refine F.o kY λ_ _ _ _ H _ Q _ hr h=>?_
 ·obtain⟨p,rfl,hp,q⟩:=h;refine⟨_,(af (aW (aA ba (pv 0) ag (ao _))
(aj (au (AY MFractions AFractions)))
aF)
(aj (au (yp K9 hr.m (aa (pv 0) ae))))),?_⟩
  refine⟨_,rfl,rfl,_,rfl,bt (λh=>?_) (λh=>?_)⟩
  ·have h0:p=0:=by
    have:=of_decide_eq_true h;injection this
   intro x dx nx ndx ne;exact q x _ ((FX.new ndx).put nx) (.inl ⟨h0,dx,FY⟩)
  ·have h0:p≠0:=λz=>h (decide_eq_true (congrArg V.int z))
   refine⟨_,rfl,λx dx nx ndx ne=>?_⟩
   refine⟨x,dx,p,rfl,FY,hp,h0,rfl,?_⟩;exact q x _ (((FX.new ndx).put nx).put nx) (.inr ⟨h0,dx,FY⟩)
def FT:List V->Bool
 |[.int n,.int d]=>decide (1<=d)&&decide (Int.gcd n d=1)
 |_=>false
def fracV(H:Hp):V->Bool
 |.ref a=>match H a with
  |some (.tup xs)=>FT xs
  |_=>false
 |_=>false
def At(P:Int)(H:Hp)(v:V)(x:Int×Int):Prop:=(P=0/\∃t,v=.ref t/\H t=some (.tup [.int x.1,.int x.2]))\/(P≠0/\v=.int x.1/\x.2=1)
theorem At.mono{P:Int}{H H':Hp}{v:V}{x:Int×Int}(h:At P H v x)(k:∀t xs,H t=some (.tup xs)->H' t=some (.tup xs)):At P H' v x:=by
 rcases h with⟨h0,t,rfl,e⟩|h
 ·exact .inl ⟨h0,t,rfl,k _ _ e⟩
 ·exact .inr h
theorem At.same{P:Int}{H H':Hp}{v:V}{x:Int×Int}(h:At P H v x)(s:FX H H'):At P H' v x:=h.mono λt xs e=>s _ _ e
theorem sE:(2:Nat)^4300<2^8800:=Nat.pow_lt_pow_right (by decide) (by decide)
theorem se{a b:Int}(h1:a.natAbs<2^4300)(h2:b.natAbs<2^4300):IntMulOk a b:=FO (Nat.lt_trans h1 sE) (Nat.lt_trans h2 sE)
theorem zI{a b:Int}(h1:a.natAbs<2^4300)(h2:b.natAbs<2^4300):(a*b).natAbs<2^8800:=Nat.lt_of_lt_of_le (mW h1 h2) (jM (by decide))
def dZ(CN:Addr):Sp:=λvs H Q E=>∃(x:V) (a b:Int),vs=[x,.int a,.int b]/\(b=0->E (.ref CN) none H)/\(b≠0->b.natAbs<2^8800/\∀t,H t=none->Q (.ref t) (upd H t (.tup [.int (nrm a b).1,.int (nrm a b).2])))
theorem GH:FZ ["self", "top", "bottom", "common"] ["self", "top", "bottom"] (ah aV):=.i
theorem ve{f Hl:Addr}{fd:FuncData}(F:FunD K "of" "Fractions.of" aV f fd)(Hv:FnB P w K mg base 1 "greatest_divisor" zA)(ANoNumber:mg "NoNumber"=some (.ref Hl))(xc:XCl K Hl) :
  F2 P w K mg base (CXE P w) 2 f fd ["self", "top", "bottom"] (dZ Hl):=by
 refine F.okX GH (λvs H Q E h=>?_) (λcdv A outer s H vs Q E hr h=>?_)
 ·obtain⟨x,a,b,rfl,_⟩:=h
  rfl
 ·obtain⟨x,a,b,rfl,hz,hq⟩:=h;refine⟨_,(af (aW (aA ba (pv 2) ag (ao _))
(aj (bT xc.ek ANoNumber (aa aI ae)))
aF)
(af (aW (aA ba (pv 2) ag (ao _))
(aj (au (gH (aa (pv 1) (aa ag ae)))))
aF)
(af (aD (i:=3) GH.nd rfl (Or.inl rfl) (aR Hv hr.m (aa (pv 1) (aa (pv 2) ae))))
(af (aW (aA gO (pv 2) ag (ao _))
(aj (aD (i:=3) GH.nd rfl (Or.inl rfl) (kF g0 (pv 3))))
aF)
(aj (au (gH (aa (aH iw (pv 1) (pv 3)) (aa (aH iw (pv 2) (pv 3)) ae))))))))),?_⟩
  refine⟨_,rfl,rfl,_,rfl,?_⟩
  by_cases hb:b=0
  ·subst hb;rw[decide_eq_true rfl];exact bC ⟨zl,hz rfl⟩
  obtain⟨hbs,q⟩:=hq hb;rw[decide_eq_false (show ¬V.int b=V.int 0 from λz=>hb (by injection z))]
  refine bS ⟨_,rfl,rfl,_,rfl,bt (λh=>?_) (λh=>?_)⟩
  ·have h1:b=1:=by
    have:=of_decide_eq_true h;injection this
   subst h1;refine⟨_,rfl,zl,λt ht=>?_⟩
   have z:=q t ht;rw[(nv a 1 (by decide)).mpr (Int.gcd_one_right ..)] at z
   exact z
  ·refine⟨_,rfl,_,rfl,a,b,rfl,?_⟩;have hgp:0<Int.gcd a b:=Int.gcd_pos_of_ne_zero_right a hb;have hgl:Int.gcd a b<=b.natAbs:=Nat.le_of_dvd (by omega) (Nat.gcd_dvd_right a.natAbs b.natAbs)
   have sm:(Int.gcd a b)<2^8800:=Nat.lt_of_le_of_lt hgl hbs;refine⟨_,rfl,_,_,rfl,rfl,_,rfl,bt (λh=>?_) (λh=>?_)⟩
   ·have hb0:b<0:=of_decide_eq_true h;refine⟨_,rfl,_,rfl,?_⟩;have sm2:CDivA a (-(Int.gcd a b:Int)):=⟨by omega,by rw[Int.natAbs_neg,Int.natAbs_natCast];exact sm⟩
    refine⟨_,rfl,_,rfl,_,_,rfl,rfl,sm2,_,rfl,_,rfl,_,_,rfl,rfl,sm2,zl,λt ht=>?_⟩
    have z:=q t ht;unfold nrm at z;rw[if_pos hb0] at z;exact z
   ·have hb0:¬b<0:=λz=>h (decide_eq_true z)
    have sm2:CDivA a (Int.gcd a b:Int):=⟨by omega,by rw[Int.natAbs_natCast];exact sm⟩
    refine⟨_,rfl,_,rfl,_,_,rfl,rfl,sm2,_,rfl,_,rfl,_,_,rfl,rfl,sm2,zl,λt ht=>?_⟩
    have z:=q t ht;unfold nrm at z;rw[if_neg hb0] at z;exact z
def lX(CF:Addr)(g:Int×Int->Int×Int->Int×Int):Sp:=λvs H Q _=>∃(x dx s t:Addr) (a b:Int×Int),vs=[.ref x,.ref s,.ref t]/\H x=some (.ins CF dx [])/\H s=some (.tup [.int a.1,.int a.2])/\H t=some (.tup [.int b.1,.int b.2])/\0<a.2/\0<b.2/\Sz 4300 a/\Sz 4300 b/\
 ∀r,H r=none->Q (.ref r) (upd H r (.tup [.int (nrm (g a b).1 (g a b).2).1,.int (nrm (g a b).1 (g a b).2).2]))
def mP(CR:Addr)(g:Int->Int->Int):Sp:=λvs H Q _=>∃(x dx:Addr) (p a b:Int),vs=[.ref x,.int a,.int b]/\H x=some (.ins CR dx [("modulus",.int p)])/\0<p/\p<=9973/\0<=a/\a<p/\0<=b/\b<p/\Q (.int (g a b%p)) H
theorem jD:FZ ["self", "one", "other"] ["self", "one", "other"] (ah bW):=.i
theorem Bi{f CF Hl:Addr}{fd:FuncData}(F:Fun K "plus" "Fractions.plus" bW f fd)(Lj:fW P w K mg base 2 CF "of" [] (dZ Hl)):F2 P w K mg base CX0 3 f fd ["self", "one", "other"] (lX CF λa b=>(a.1*b.2+b.1*a.2,a.2*b.2)):=by
 refine F.o jD λ_ _ _ _ H _ Q _ hr h=>?_
 ·obtain⟨x,dx,s,t,a,b,rfl,hx,hs,ht,ha,hb,sa,sb,q⟩:=h;refine⟨_,(aj (au (de Lj hr.m cj (pv 0) (aa (aH cN (aH ju (aG (aL K rfl) (pv 1) ag (λ_ _=>rfl)) (aG (aL K rfl) (pv 2) ag (λ_ _=>rfl))) (aH ju (aG (aL K rfl) (pv 2) ag (λ_ _=>rfl)) (aG (aL K rfl) (pv 1) ag (λ_ _=>rfl)))) (aa (aH ju (aG (aL K rfl) (pv 1) ag (λ_ _=>rfl)) (aG (aL K rfl) (pv 2) ag (λ_ _=>rfl))) ae))))),?_⟩
  refine⟨_,rfl,x,dx,[],rfl,hx,rfl,_,rfl,s,_,_,_,rfl,rfl,SqT.of hs,rfl,_,rfl,t,_,_,_,rfl,rfl,SqT.of ht,rfl,_,_,rfl,rfl,se sa.1 sb.2,_,rfl,t,_,_,_,rfl,rfl,SqT.of ht,rfl,_,rfl,s,_,_,_,rfl,rfl,SqT.of hs,rfl,_,_,rfl,rfl,se sb.1 sa.2,_,_,rfl,rfl,?_⟩;refine⟨_,rfl,s,_,_,_,rfl,rfl,SqT.of hs,rfl,_,rfl,t,_,_,_,rfl,rfl,SqT.of ht,rfl,_,_,rfl,rfl,se sa.2 sb.2,_,_,_,rfl,λz=>absurd z (jL ha hb),λ_=>⟨zI sa.2 sb.2,q⟩⟩
theorem ou:FZ ["self", "one", "other"] ["self", "one", "other"] (ah cZ):=.i
theorem yE{f CR:Addr}{fd:FuncData}(F:Fun K "plus" "Rests.plus" cZ f fd)(cl:Cls K CR)(nM:Gk K CR "modulus"):F2 P w K mg base CX0 1 f fd ["self", "one", "other"] (mP CR (· + ·)):=by
 refine F.o ou λ_ _ _ _ H _ Q _ hr h=>?_
 ·obtain⟨x,dx,p,a,b,rfl,hx,hp,hp9,a0,a1,b0,b1,q⟩:=h;refine⟨_,(aj (au (aH cP (aH cN (pv 1) (pv 2)) (gJ (pv 0) rfl)))),?_⟩;exact⟨_,rfl,_,rfl,_,_,rfl,rfl,_,rfl,x,CR,dx,_,_,rfl,hx,cl,nM,rfl,_,_,rfl,rfl,hp,q⟩
theorem F0.b{P:Int}(h:F0 P):0<=P/\P<=9973/\P≠1:=by
 rcases h with h|⟨h1,h2,_⟩<;>omega
def dN(P:Int)(x:Int×Int):PyData:=if P=0 then gX [x.1,x.2] else .int x.1
theorem nh{K:Frag}{P:Int}{H:Hp}{v:V}{x:Int×Int}(h:At P H v x):DR K H (dN P x) v:=by
 unfold dN
 rcases h with⟨h0,t,rfl,e⟩|⟨h0,rfl,_⟩
 ·rw[if_pos h0];exact iC (ns:=[x.1,x.2]) (SqT.of e)
 ·rw[if_neg h0];exact .int _
theorem dY(P:Int)(x:Int×Int):SeqAt.shaped (dN P x)=true:=by
 unfold dN
 split
 ·exact dB _
 ·rfl
abbrev aw:=List Int×(Int×Int)
def PartR(P:Int)(H:Hp)(v:V)(p:aw):Prop:=∃(t k:Addr) (u:V),v=.ref t/\H t=some (.tup [.ref k,u])/\H k=some (.tup (p.1.map V.int))/\At P H u p.2
abbrev F8(P:Int)(H:Hp):List V->List aw->Prop:=Paired (PartR P H)
theorem PartR.mono{P:Int}{H H':Hp}{v:V}{p:aw}(k:∀t xs,H t=some (.tup xs)->H' t=some (.tup xs))(h:PartR P H v p):PartR P H' v p:=by
 obtain⟨t,c,u,rfl,h1,h2,h3⟩:=h;exact⟨t,c,u,rfl,k _ _ h1,k _ _ h2,h3.mono k⟩
theorem F8.mono{P:Int}{H H':Hp}(k:∀t xs,H t=some (.tup xs)->H' t=some (.tup xs)):∀{vs:List V} {ps:List aw},F8 P H vs ps->F8 P H' vs ps
 |_,_,.nil=>.nil
 |_,_,.cons q r=>.cons (q.mono k) (F8.mono k r)
theorem F8.at_{P:Int}{H:Hp}:∀{vs:List V} {ps:List aw} {i:Nat} {v:V},F8 P H vs ps->vs[i]? = some v->∃p,ps[i]? = some p/\PartR P H v p
 |_,_,0,v,.cons q r,e=>by cases e;exact⟨_,rfl,q⟩
 |_::_,_::_,i+1,v,.cons q r,e=>F8.at_ (i:=i) r e
theorem oP{α β:Type}{R:α->β->Prop}:∀{xs:List α} {ys:List β} {i:Nat} {x:α} {y:β},Paired R xs ys->xs[i]? = some x->ys[i]? = some y->R x y
 |_,_,0,x,y,.cons q r,e1,e2=>by cases e1;cases e2;exact q
 |_::_,_::_,i+1,x,y,.cons q r,e1,e2=>oP (i:=i) r e1 e2
def gN(P:Int)(m:List aw)(p:aw):List aw:=nV m p.1 (ji P ((fU m p.1).getD (0,1)) p.2)
def acc(P:Int)(ps:List aw):List aw:=ps.foldl (gN P) []
theorem AA(P:Int)(ps:List aw)(p:aw):acc P (ps++[p])=gN P (acc P ps) p:=by
 unfold acc;rw[List.foldl_append]
 rfl
theorem lS{P:Int}{ps:List aw}{i:Nat}{p:aw}(h:ps[i]? = some p):acc P (ps.take (i+1))=gN P (acc P (ps.take i)) p:=by
 rw[take_add_one,h];exact AA P _ p
def C1(P:Int)(ps:List aw):Prop:=(∀p∈ps,OkN P p.2/\Sz 4300 p.2)/\∀i,∀p∈acc P (ps.take i),Sz 4300 p.2
theorem wj(P:Int)(ps:List aw):((acc P ps).map (·.1)).Nodup:=by
 unfold acc;have go:∀(ps m:List aw),(m.map (·.1)).Nodup->((ps.foldl (gN P) m).map (·.1)).Nodup:=by
  intro ps
  induction ps with
  |nil=>intro m h;exact h
  |cons p ps ih=>intro m h;exact ih _ (tO h)
 exact go ps [] (by simp)
theorem q5(P:Int)(ps:List aw):(acc P ps).length<=ps.length:=by
 unfold acc;have go:∀(ps m:List aw),(ps.foldl (gN P) m).length<=m.length+ps.length:=by
  intro ps
  induction ps with
  |nil=>intro m;simp
  |cons p ps ih=>
   intro m;have h1:=ih (gN P m p);have h2:(gN P m p).length<=m.length+1:=yJ _ _ _;show(ps.foldl (gN P) (gN P m p)).length<=_;rw[length_cons];omega
 simpa using go ps []
theorem pY{P:Int}(hP:0<=P)(h1:P≠1){ps:List aw}(h:∀p∈ps,OkN P p.2):∀p∈acc P ps,OkN P p.2:=by
 unfold acc;have go:∀(ps m:List aw),(∀p∈ps,OkN P p.2)->(∀p∈m,OkN P p.2)->∀p∈ps.foldl (gN P) m,OkN P p.2:=by
  intro ps
  induction ps with
  |nil=>intro m _ h;exact h
  |cons p ps ih=>
   intro m hp hm;refine ih _ (λq hq=>hp q (by simp[hq])) λq hq=>?_
   rcases mK hq with z|z
   ·rw[z];refine BV hP ?_ (hp p (by simp))
    cases e:fU m p.1 with
    |none=>exact mm hP h1
    |some y=>exact hm _ (g9 e)
   ·exact hm q z
 exact go ps [] h (λp hp=>nomatch hp)
def nz(p:aw):Bool:=decide (p.2≠(0,1))
def hk(p:aw):Int×List Int:=(p.1.sum,p.1)
def IsSum(P:Int)(ps out:List aw):Prop:=out.Perm ((acc P ps).filter nz)/\out.Pairwise λa b=>klt (hk b) (hk a)=true
theorem qb{P:Int}{ps a b:List aw}(h1:IsSum P ps a)(h2:IsSum P ps b):a=b:=
 kK (lt:=λx y=>klt (hk x) (hk y)) (λ_=>uR _) (λ_ _ _=>oY) (h1.1.trans h2.1.symm) h1.2 h2.2
theorem qo{P:Int}{x y:Int×Int}(hx:OkN P x)(hy:OkN P y):PyData.eqv (dN P x) (dN P y)=decide (x=y):=by
 unfold dN
 by_cases h0:P=0
 ·rw[if_pos h0,if_pos h0,mD];apply decide_eq_decide.mpr
  constructor
  ·intro z;injection z with z1 z2
   injection z2 with z2
   exact Prod.ext z1 z2
  ·intro z;rw[z]
 ·rw[if_neg h0,if_neg h0]
  rcases hx with⟨z,_⟩|⟨_,_,_,x2⟩
  ·exact absurd z h0
  rcases hy with⟨z,_⟩|⟨_,_,_,y2⟩
  ·exact absurd z h0
  have e:PyData.eqv (.int x.1) (.int y.1)=decide (x.1=y.1):=by simp only[PyData.eqv];rfl
  rw[e];apply decide_eq_decide.mpr;exact⟨λz=>Prod.ext z (x2.trans y2.symm),λz=>by rw[z]⟩
def vI:V->Int
 |.int i=>i
 |_=>0
def DT(H:Hp):V->List Int
 |.ref k=>match H k with
  |some (.tup xs)=>xs.map vI
  |_=>[]
 |_=>[]
def xV(H:Hp)(v:V):Int×List Int:=((DT H v).sum,DT H v)
theorem qw{H:Hp}{k:Addr}{ns:List Int}(h:H k=some (.tup (ns.map V.int))):DT H (.ref k)=ns:=by
 show(match H k with|some (.tup xs)=>xs.map vI|_=>[])=ns
 rw[h];show(ns.map V.int).map vI=ns;rw[map_map];exact List.map_id'' (λ_=>rfl) ns
theorem Bc{ps:List aw}(h:(ps.map (·.1)).Nodup):(ps.map hk).Nodup:=by
 have e:ps.map hk=(ps.map (·.1)).map (λk:List Int=>(k.sum,k)):=by rw[map_map];rfl
 rw[e];exact List.Pairwise.map _ (λa b hab z=>hab (congrArg Prod.snd z)) h
theorem F8.snoc{P:Int}{H:Hp}{v:V}{p:aw}(q:PartR P H v p):∀{vs:List V} {ps:List aw},F8 P H vs ps->F8 P H (vs++[v]) (ps++[p])
 |_,_,.nil=>.cons q .nil
 |_,_,.cons a r=>.cons a (F8.snoc q r)
theorem kH{ps:List aw}{i:Nat}{p:aw}(h:ps[i]? = some p):(ps.take (i+1)).filter nz=(ps.take i).filter nz++(if nz p=true then[p] else[]):=by
 rw[take_add_one,h,List.filter_append];congr 1;show List.filter nz [p]=_
 by_cases e:nz p=true
 ·rw[if_pos e];simp[e]
 ·rw[if_neg e];simp[e]
theorem tm{α β:Type}{R:α->β->Prop}{ws vs:List α}(p:ws.Perm vs):∀ps:List β,Paired R vs ps->∃qs:List β,qs.Perm ps/\Paired R ws qs:=by
 induction p with
 |nil=>intro ps h;exact⟨ps,.refl _,h⟩
 |cons x p ih=>
  intro ps h;cases h with
  |cons q r=>
   obtain⟨qs,e,h'⟩:=ih _ r;exact⟨_::qs,e.cons _,.cons q h'⟩
 |swap x y l=>
  intro ps h;cases h with
  |cons q r=>cases r with
   |cons q2 r=>exact⟨_::_::_,.swap _ _ _,.cons q2 (.cons q r)⟩
 |trans p1 p2 ih1 ih2=>
  intro ps h;obtain⟨qs,e,h'⟩:=ih2 _ h;obtain⟨rs,e2,h2⟩:=ih1 _ h';exact⟨rs,e2.trans e,h2⟩
def sM(H:Hp)(v:V)(p:aw):Prop:=∃a,v=.ref a/\H a=some (.tup (p.1.map V.int))
theorem vY{H:Hp}:∀{as:List Addr} {m:List aw},Paired (λ(a:Addr) (q:aw)=>H a=some (.tup (q.1.map V.int))) as m->Paired (sM H) (as.map V.ref) m
 |_,_,.nil=>.nil
 |_,_,.cons q r=>.cons ⟨_,rfl,q⟩ (vY r)
theorem kg{H:Hp}:∀{vs:List V} {m:List aw},Paired (sM H) vs m->vs.map (xV H)=m.map hk
 |_,_,.nil=>rfl
 |_,_,.cons ⟨a,e,q⟩ r=>by
  rw[map_cons,map_cons,kg r,e];unfold xV hk;rw[qw q]
theorem sN{H:Hp}:∀{vs:List V} {ps:List aw} {v:V},Paired (sM H) vs ps->v∈vs->∃p∈ps,sM H v p
 |_,_,v,.cons q r,hv=>by
  rcases List.mem_cons.mp hv with rfl|hv
  ·exact⟨_,by simp,q⟩
  ·obtain⟨p,hp,h⟩:=sN r hv;exact⟨p,by simp[hp],h⟩
theorem uX(P:Int):(if P=0 then((0:Int),(1:Int)) else(0%P,1))=(0,1):=by
 split
 ·rfl
 ·rw[Int.zero_emod]
theorem nd_1:(["product", "found", "nought"]:List Str).Nodup:=by decide +kernel
theorem EU{p f:Int}(h2:2<=p)(h9:p<=9973)(hp:gP p=true)(f0:0<f)(f1:f<p):Int.gcd p f=1:=by
 have hg0:0<Int.gcd p f:=Int.gcd_pos_of_ne_zero_left f (by omega)
 have hgp:((Int.gcd p f:Nat):Int) ∣ p:=Int.gcd_dvd_left ..;have hgf:((Int.gcd p f:Nat):Int) ∣ f:=Int.gcd_dvd_right ..;generalize Int.gcd p f=g at *;have gle:(g:Int)<=f:=Int.le_of_dvd f0 hgf;obtain⟨h,e⟩:=hgp
 by_cases g1:g=1
 ·exact g1
 exfalso
 have g2:2<=(g:Int):=by omega
 have hh:2<=h:=by
  rcases Int.lt_or_le h 2 with z|z
  ·have:=Int.mul_le_mul_of_nonneg_left (show h<=1 by omega) (show 0<=(g:Int) by omega)
   omega
  ·exact z
 have key:∀d k:Int,2<=d->d<=k->p=d*k->False:=λd k d2 dk ep=>by
  have hdd:d*d<=p:=by rw[ep];exact Int.mul_le_mul_of_nonneg_left dk (by omega)
  have hd100:d<100:=Int.not_le.mp λz=>by
   have:=Int.mul_le_mul z z (by omega) (by omega)
   omega
  have h0:=(isPb_iff.mp hp).2 d d2 hd100 hdd;have:p%d=0:=by rw[ep];exact Int.mul_emod_right d k
  omega
 rcases Int.le_total (g:Int) h with z|z
 ·exact key g h g2 z e
 ·exact key h g hh z (by rw[e,Int.mul_comm])
theorem mS{a b p:Int}(h:p ∣ a-b):a%p=b%p:=Int.emod_eq_emod_iff_emod_sub_eq_zero.mpr (Int.emod_eq_zero_of_dvd h)
theorem lD(a p:Int):p ∣ a-a%p:=⟨a/p,by rw[Int.emod_def];omega⟩
def Ds:Sp:=λvs H Q _=>∃(w p:Int),vs=[.int w,.int p]/\2<=p/\p<=9973/\gP p=true/\w%p≠0/\∀r:Int,0<=r->r<p->(r*w)%p=1->Q (.int r) H
theorem Gd:FZ ["whole", "prime", "rest", "share", "following", "following_share", "often", "further", "further_share"] ["whole", "prime"] (ah kh):=.i
theorem uJ{f:Addr}{fd:FuncData}(F:Fun K "inverse" "inverse" kh f fd):F2 P w K mg base CX0 1 f fd ["whole", "prime"] Ds:=by
 refine F.o Gd λ_ _ _ _ H _ Q _ hr h=>?_
 ·obtain⟨a,p,rfl,h2,h9,hp,ha,q⟩:=h;refine⟨_,(af (aD (i:=2) Gd.nd rfl (Or.inl rfl) (pv 1))
(af (aD (i:=3) Gd.nd rfl (Or.inl rfl) ag)
(af (aD (i:=4) Gd.nd rfl (Or.inl rfl) (aH cP (pv 0) (pv 1)))
(af (aD (i:=5) Gd.nd rfl (Or.inl rfl) ag)
(af (jg PassesOwn.never (aA iz (pv 4) ag (ao _))
(af (aD (i:=6) Gd.nd rfl (Or.inl rfl) (aH iw (pv 2) (pv 4)))
(af (aD (i:=7) Gd.nd rfl (Or.inl rfl) (aH kq (pv 2) (aH dE (pv 6) (pv 4))))
(af (aD (i:=8) Gd.nd rfl (Or.inl rfl) (aH kq (pv 3) (aH dE (pv 6) (pv 5))))
(af (aD (i:=2) Gd.nd rfl (Or.inl rfl) (pv 4))
(af (aD (i:=3) Gd.nd rfl (Or.inl rfl) (pv 5))
(af (aD (i:=4) Gd.nd rfl (Or.inl rfl) (pv 7))
(aj (aD (i:=5) Gd.nd rfl (Or.inl rfl) (pv 8))))))))))
(aj (au (aH cP (pv 5) (pv 1))))))))),?_⟩
  refine⟨_,rfl,_,rfl,_,rfl,_,_,rfl,rfl,(by show(0:Int)<p;omega),?_⟩
  have m0:=Int.emod_nonneg a (show p≠0 by omega)
  have m1:=Int.emod_lt_of_pos a (show 0<p by omega)
  refine je (λσ H'=>∃(R S F G:Int) (u6 u7 u8:Option V),σ=[some (.int a),some (.int p),some (.int R),some (.int S),some (.int F),some (.int G),u6,u7,u8]/\H'=H/\1<=F/\F<R/\R<=p/\Int.gcd R F=1/\p ∣ S*a-R/\p ∣ G*a-F)
   (λσ _=>match σ with|[_,_,_,_,some (.int F),_,_,_,_]=>F.toNat|_=>0) ⟨p,0,a%p,1,none,none,none,rfl,rfl,by omega,m1,Int.le_refl p,EU h2 h9 hp (by omega) m1,⟨-1,by omega⟩,by rw[Int.one_mul];exact lD a p⟩ ?_ ?_
  ·rintro σ H2 ⟨R,S,F,G,u6,u7,u8,rfl,rfl,f1,fR,Rp,hg,d1,d2⟩;refine⟨_,rfl,rfl,_,rfl,?_⟩
   by_cases hF:F=1
   ·subst hF;refine vp rfl ?_;refine⟨_,rfl,_,rfl,_,_,rfl,rfl,(by show(0:Int)<p;omega),?_⟩
    refine q _ (Int.emod_nonneg _ (by omega)) (Int.emod_lt_of_pos _ (by omega)) ?_
    have e1:(G%p*a)%p=1%p:=by
     apply mS;obtain⟨k1,e1⟩:=d2;obtain⟨k2,e2⟩:=lD G p;refine⟨k1-k2*a,?_⟩;have e3:G%p=G-p*k2:=by omega
     rw[e3,Int.sub_mul,Int.mul_sub,Int.mul_assoc];omega
    rw[e1];exact Int.emod_eq_of_lt (by decide) (by omega)
   ·rw[decide_eq_false (show ¬V.int F=V.int 1 from λz=>hF (by injection z))]
    have eq:R.fdiv F=R/F:=Int.fdiv_eq_ediv_of_nonneg _ (by omega)
    have q0:0<=R/F:=Int.ediv_nonneg (by omega) (by omega)
    have q1:R/F<=R:=Int.ediv_le_self F (by omega)
    refine bC ⟨_,rfl,_,rfl,_,_,rfl,rfl,mU (by omega) (by omega),?_⟩
    refine⟨_,rfl,_,rfl,_,rfl,_,_,rfl,rfl,.inr ⟨by omega,by omega⟩,_,_,rfl,rfl,?_⟩
    refine⟨_,rfl,_,rfl,_,rfl,_,_,rfl,rfl,.inl ⟨by omega,by omega⟩,_,_,rfl,rfl,?_⟩
    rw[eq];have eF:R-R/F*F=R%F:=by rw[Int.emod_def,Int.mul_comm]
    have r0:=Int.emod_nonneg R (show F≠0 by omega)
    have r1:=Int.emod_lt_of_pos R (show 0<F by omega)
    have rn:R%F≠0:=λz=>by
     have hd:F ∣ R:=Int.dvd_of_emod_eq_zero z;have:Nat.gcd R.natAbs F.natAbs=F.natAbs:=Nat.gcd_eq_right (Int.natAbs_dvd_natAbs.mpr hd);have hg':Nat.gcd R.natAbs F.natAbs=1:=hg;omega
    refine⟨_,rfl,_,rfl,_,rfl,_,rfl,⟨F,G,R-R/F*F,S-R/F*G,_,_,_,rfl,rfl,by omega,by omega,by omega,?_,d2,?_⟩,?_⟩
    ·rw[eF,Int.emod_def,Int.gcd_comm];rw[Int.gcd_sub_mul_left_left];exact hg
    ·obtain⟨k1,e1⟩:=d1;obtain⟨k2,e2⟩:=d2;refine⟨k1-R/F*k2,?_⟩;have e3:(S-R/F*G)*a-(R-R/F*F)=(S*a-R)-R/F*(G*a-F):=by
      rw[Int.sub_mul,Int.mul_sub,Int.mul_assoc];omega
     rw[e3,e1,e2,Int.mul_sub,Int.mul_left_comm]
    ·show(R-R/F*F).toNat<F.toNat;omega
  ·rintro σ H Q Q' hq ⟨x,hx,e1,b,hb,h⟩;exact⟨x,hx,e1,b,hb,hq _ _ h⟩
def fA(CR CN:Addr):Sp:=λvs H Q E=>∃(x dx:Addr) (p a b:Int),vs=[.ref x,.int a,.int b]/\H x=some (.ins CR dx [("modulus",.int p)])/\2<=p/\p<=9973/\gP p=true/\
 (b%p=0->E (.ref CN) none H)/\(b%p≠0->∀r:Int,0<=r->r<p->(r*b)%p=a%p->Q (.int r) H)
theorem sA:FZ ["self", "top", "bottom"] ["self", "top", "bottom"] (ah bR):=.i
theorem uS{f CR Hl:Addr}{fd:FuncData}(F:FunD K "of" "Rests.of" bR f fd)(cl:Cls K CR)(nM:Gk K CR "modulus")(Lk:FnB P w K mg base 1 "inverse" Ds)(ANoNumber:mg "NoNumber"=some (.ref Hl))(xc:XCl K Hl) :
  F2 P w K mg base (CXE P w) 2 f fd ["self", "top", "bottom"] (fA CR Hl):=by
 refine F.okX sA (λvs H Q E h=>?_) (λcdv A outer s H vs Q E hr h=>?_)
 ·obtain⟨x,dx,p,a,b,rfl,_⟩:=h
  rfl
 ·obtain⟨x,dx,p,a,b,rfl,hx,h2,h9,hp,qn,qy⟩:=h;refine⟨_,(af (aW (aA ba (aH cP (pv 2) (gJ (pv 0) rfl)) ag (ao _))
(aj (bT xc.ek ANoNumber (aa aI ae)))
aF)
(aj (au (aH cP (aH dE (pv 1) (aR Lk hr.m (aa (pv 2) (aa (gJ (pv 0) rfl) ae)))) (gJ (pv 0) rfl))))),?_⟩
  have p0:(0:Int)<p:=by omega
  refine⟨_,rfl,_,rfl,x,CR,dx,_,_,rfl,hx,cl,nM,rfl,_,_,rfl,rfl,p0,rfl,_,rfl,?_⟩
  by_cases hb:b%p=0
  ·rw[decide_eq_true (congrArg V.int hb)];exact bC ⟨zl,qn hb⟩
  ·rw[decide_eq_false (show ¬V.int (b%p)=V.int 0 from λz=>hb (by injection z))]
   refine bS ⟨_,rfl,_,rfl,_,rfl,x,CR,dx,_,_,rfl,hx,cl,nM,rfl,b,p,rfl,h2,h9,hp,hb,λr r0 r1 hr'=>?_⟩
   refine⟨_,_,rfl,rfl,.inr ⟨by omega,by omega⟩,_,rfl,x,CR,dx,_,_,rfl,hx,cl,nM,rfl,_,_,rfl,rfl,p0,?_⟩
   refine qy hb _ (Int.emod_nonneg _ (by omega)) (Int.emod_lt_of_pos _ p0) ?_
   apply mS;obtain⟨k1,e1⟩:=lD (a*r) p;obtain⟨k2,e2⟩:=lD (r*b) p;rw[hr'] at e2;refine⟨a*k2-k1*b,?_⟩;have e3:a*r%p=a*r-p*k1:=by omega
   have e4:r*b=1+p*k2:=by omega
   rw[e3,Int.sub_mul,Int.mul_assoc,e4,Int.mul_add,Int.mul_sub,Int.mul_one,Int.mul_left_comm,Int.mul_assoc];omega
theorem F7.mono{CF CR x:Addr}{p:Int}{H H':Hp}(h:F7 CF CR H x p)(k:∀o,H x=some o->H' x=some o):F7 CF CR H' x p:=by
 rcases h with⟨h0,dx,e⟩|⟨h0,dx,e⟩
 ·exact .inl ⟨h0,dx,k _ e⟩
 ·exact .inr ⟨h0,dx,k _ e⟩
theorem jT{m:Str}(e:(m==("modulus" : Str))=false)(v:V):List.lookup m [(("modulus" : Str),v)]=none:=by
 simp only[List.lookup,e]
theorem Dk{CF CR x:Addr}{P:Int}{u v:V}{a b:Int×Int}{H:Hp}{σ:L2.St}{R:VK}{ta:TE}{t:TA}{m:Str}(gF:Int×Int->Int×Int->Int×Int)(gR:Int->Int->Int)(res:Int×Int)(hres:res=if P=0 then nrm (gF a b).1 (gF a b).2 else(gR a.1 b.1%P,1))(hm:(m==("modulus" : Str))=false)
  (hP:F0 P) (hN:F7 CF CR H x P) (h1:At P H u a) (h2:At P H v b) (o1:OkN P a) (o2:OkN P b) (s1:Sz 4300 a) (s2:Sz 4300 b) (ha:∀Z:VK,Z (.ref x) H->ta σ H Z) (ht:∀Z:List V->Hp->Prop,Z [u,v] H->t σ H Z) (hR:∀r H',FX H H'->At P H' r res->R r H') :
  Cp (ig CF m (lX CF gF) [] E0 ta t) (ig CR m (mP CR gR) [] E0 ta t) σ H R:=by
 subst hres
 rcases hN with⟨h0,dx,e⟩|⟨h0,dx,e⟩
 ·rcases h1 with⟨_,s,rfl,hs⟩|⟨z,_⟩
  ·rcases h2 with⟨_,t',rfl,ht'⟩|⟨z,_⟩
   ·rw[if_pos h0] at hR;exact .inl (ha _ ⟨x,dx,[],rfl,e,rfl,ht _ ⟨x,dx,s,t',a,b,rfl,e,hs,ht',o1.den,o2.den,s1,s2,λr nr=>hR _ _ (FX.new nr) (.inl ⟨h0,r,rfl,FY⟩)⟩⟩)
   ·exact absurd h0 z
  ·exact absurd h0 z
 ·rcases h1 with⟨z,_⟩|⟨_,rfl,_⟩
  ·exact absurd z h0
  ·rcases h2 with⟨z,_⟩|⟨_,rfl,_⟩
   ·exact absurd z h0
   ·rw[if_neg h0] at hR;have hb:=hP.b
    rcases o1 with⟨z,_⟩|⟨_,x0,x1,_⟩
    ·exact absurd z h0
    rcases o2 with⟨z,_⟩|⟨_,y0,y1,_⟩
    ·exact absurd z h0
    exact .inr (ha _ ⟨x,dx,_,rfl,e,jT hm _,ht _ ⟨x,dx,P,_,_,rfl,e,by omega,hb.2.1,x0,x1,y0,y1,hR _ _ (FX.refl H) (.inr ⟨h0,rfl,rfl⟩)⟩⟩)
theorem pG{CF CR Hl x:Addr}{P a:Int}{vs dvs:List V}{H:Hp}{σ:L2.St}{R:VK}{ta:TE}{t:TA}(hP:F0 P)(hN:F7 CF CR H x P)(hv:vs++dvs=[.int a,.int 1])(ha:∀Z:VK,Z (.ref x) H->ta σ H Z)(ht:∀Z:List V->Hp->Prop,Z vs H->t σ H Z)
  (hR:∀r H',FX H H'->At P H' r (if P=0 then(a,1) else(a%P,1))->R r H') :
  Cp (ig CF "of" (dZ Hl) dvs E0 ta t) (ig CR "of" (fA CR Hl) dvs E0 ta t) σ H R:=by
 rcases hN with⟨h0,dx,e⟩|⟨h0,dx,e⟩
 ·rw[if_pos h0] at hR;refine .inl (ha _ ⟨x,dx,[],rfl,e,rfl,ht _ ⟨.ref x,a,1,by rw[hv],λz=>absurd z (by decide),λ_=>⟨by decide +kernel,λr nr=>?_⟩⟩⟩)
  rw[(nv a 1 (by decide)).mpr (Int.gcd_one_right ..)]
  exact hR _ _ (FX.new nr) (.inl ⟨h0,r,rfl,FY⟩)
 ·rw[if_neg h0] at hR
  rcases hP with z|⟨h2,h9,hp⟩
  ·exact absurd z h0
  have e1:(1:Int)%P=1:=Int.emod_eq_of_lt (by decide) (by omega)
  refine .inr (ha _ ⟨x,dx,_,rfl,e,jT (by decide +kernel) _,ht _ ⟨x,dx,P,a,1,by rw[hv],e,h2,h9,hp,(λz=>absurd (e1.symm.trans z) (by decide)),λ_ r r0 r1 hr=>?_⟩⟩)
  rw[Int.mul_one,Int.emod_eq_of_lt r0 r1] at hr;rw[hr];exact hR _ _ (FX.refl H) (.inr ⟨h0,rfl,rfl⟩)
def tK(K:Frag):Sp:=λvs H Q _=>∃(a:Addr) (ns:List Int),vs=[.ref a]/\SqT K H a (ns.map V.int)/\Q (.int ns.sum) H
theorem xH:FZ ["one"] ["one"] (ah mZ):=.i
theorem wR{f:Addr}{fd:FuncData}(F:Fun K "degree" "degree" mZ f fd)(T:Blt mg):F2 P w K mg base CX0 1 f fd ["one"] (tK K):=by
 refine F.o xH λ_ _ _ _ H _ Q _ hr h=>?_
 ·obtain⟨a,ns,rfl,ha,q⟩:=h;refine⟨_,(aj (au (Cf K T (pv 0) true))),?_⟩;exact⟨_,rfl,a,ns,rfl,sqvT ha,q⟩
def mJ(K:Frag):Sp:=λvs H Q _=>∃(a:Addr) (ns:List Int),vs=[.ref a]/\SqT K H a (ns.map V.int)/\∀t,H t=none->Q (.ref t) (upd H t (.tup [.int ns.sum,.ref a]))
def vx(K:Frag):Sp:=λvs H Q _=>∃(a b:Addr) (ns ms:List Int),vs=[.ref a,.ref b]/\SqT K H a (ns.map V.int)/\SqT K H b (ms.map V.int)/\∀H',FX H H'->Q (.bl (hgt ns.sum ns ms.sum ms)) H'
theorem xx:FZ ["one"] ["one"] (ah nn):=.i
theorem xB{f:Addr}{fd:FuncData}(F:Fun K "height" "height" nn f fd)(HG:FnB P w K mg base 1 "degree" (tK K)):F2 P w K mg base CX0 2 f fd ["one"] (mJ K):=by
 refine F.o xx λ_ _ _ _ H _ Q _ hr h=>?_
 ·obtain⟨a,ns,rfl,ha,q⟩:=h;refine⟨_,(aj (au (gH (aa (aR HG hr.m (aa (pv 0) ae)) (aa (pv 0) ae))))),?_⟩;exact⟨_,rfl,a,ns,rfl,ha,_,rfl,zl,q⟩
theorem rz:FZ ["one", "other"] ["one", "other"] (ah iR):=.i
theorem zG{f:Addr}{fd:FuncData}(F:Fun K "is_above" "is_above" iR f fd)(JD:FnB P w K mg base 2 "height" (mJ K)):F2 P w K mg base CX0 3 f fd ["one", "other"] (vx K):=by
 refine F.o rz λ_ _ _ _ H _ Q _ hr h=>?_
 ·obtain⟨a,b,ns,ms,rfl,ha,hb,q⟩:=h;refine⟨_,(aj (au (bF (kgtP (k:=0) (K:=K) rfl (hr.mono (by decide))) (aR JD hr.m (aa (pv 0) ae)) (aR JD hr.m (aa (pv 1) ae)) (ao _)))),?_⟩
  refine⟨_,rfl,a,ns,rfl,ha,λt1 n1=>?_⟩
  have s1:=FX.new (o:=.tup [.int ns.sum,.ref a]) n1;refine⟨_,rfl,b,ms,rfl,s1.sqT hb,λt2 n2=>?_⟩
  have s2:=FX.new (o:=.tup [.int ms.sum,.ref b]) n2;exact⟨t1,t2,a,b,ns.sum,ms.sum,ns,ms,rfl,rfl,SqT.of (s2 _ _ FY),SqT.of FY,(s1.trans s2).sqT ha,(s1.trans s2).sqT hb,q _ (s1.trans s2)⟩
theorem sC:∀a b:List Int,rA a b=HT.lexLt b a
 |[],[]=>rfl
 |[],_::_=>rfl
 |_::_,[]=>rfl
 |x::a,y::b=>by
  rw[HT.lexLt_cons,<- sC a b];unfold rA FP gtI
  by_cases e:x=y
  ·subst e;simp[rD]
  ·rw[if_neg (λz=>e z.symm)]
   have e2:(x==y)=false:=by simpa using e
   show rD ((x==y,decide (y<x))::_) _=_;rw[e2]
   rfl
theorem BF(a b:List Int):hgt a.sum a b.sum b=klt (b.sum,b) (a.sum,a):=by
 unfold hgt klt gtI
 by_cases h:a.sum=b.sum
 ·rw[if_pos h,if_pos h.symm]
  by_cases e:a=b
  ·rw[if_pos e,if_pos e.symm]
  ·rw[if_neg e,if_neg (λz=>e z.symm)]
   exact sC a b
 ·rw[if_neg h,if_neg (λz=>h z.symm)]
def cF(CG:Addr)(H:Hp)(g x:Addr)(L:Int):Prop:=∃dx,H g=some (.ins CG dx [("kind",.ref x),("width",.int L)])
def iq(CG:Addr):Sp:=λvs H Q _=>∃(g x:Addr) (L:Int),vs=[.ref g]/\cF CG H g x L/\Q (.ref x) H
def jV(CG:Addr):Sp:=λvs H Q _=>∃(g x:Addr) (L:Int),vs=[.ref g]/\cF CG H g x L/\Q (.int L) H
theorem kT:FZ ["self"] ["self"] (ah cq):=.i
theorem Bz{f CG:Addr}{fd:FuncData}(F:Fun K "numbers" "Ring.numbers" cq f fd)(cl:Cls K CG)(nA:Gk K CG "kind"):F2 P w K mg base CX0 1 f fd ["self"] (iq CG):=by
 refine F.o kT λ_ _ _ _ H _ Q _ hr h=>?_
 ·obtain⟨g,x,L,rfl,⟨dx,hg⟩,q⟩:=h;refine⟨_,(aj (au (gJ (pv 0) rfl))),?_⟩;exact⟨_,rfl,g,CG,dx,_,_,rfl,hg,cl,nA,rfl,q⟩
theorem kW:FZ ["self"] ["self"] (ah cC):=.i
theorem Bp{f CG:Addr}{fd:FuncData}(F:Fun K "letters" "Ring.letters" cC f fd)(cl:Cls K CG)(nA:Gk K CG "width"):F2 P w K mg base CX0 1 f fd ["self"] (jV CG):=by
 refine F.o kW λ_ _ _ _ H _ Q _ hr h=>?_
 ·obtain⟨g,x,L,rfl,⟨dx,hg⟩,q⟩:=h;refine⟨_,(aj (au (gJ (pv 0) rfl))),?_⟩;exact⟨_,rfl,g,CG,dx,_,_,rfl,hg,cl,nA,rfl,q⟩
def CY(CF CR CG:Addr):Sp:=λvs H Q _=>∃(g x l:Addr) (P L:Int) (ts:List V) (ps:List aw),vs=[.ref g,.ref l]/\F0 P/\cF CG H g x L/\F7 CF CR H x P/\H l=some (.lst ts)/\F8 P H ts ps/\ps.length<=60/\C1 P ps/\
 ∀(d:Addr) (rs:List V) (out:List aw) (H':Hp),H d=none->FX H H'->H' d=some (.lst rs)->F8 P H' rs out->IsSum P ps out->Q (.ref d) H'
theorem i7{P:Int}{x:Int×Int}(h:OkN P x):ji P (0,1) x=x:=by
 unfold ji
 rcases h with⟨h0,hd,hg⟩|⟨h0,a,b,c⟩
 ·rw[if_pos h0];show nrm (0*x.2+x.1*1) (1*x.2)=x;rw[Int.zero_mul,Int.zero_add,Int.mul_one,Int.one_mul];exact(nv x.1 x.2 hd).mpr hg
 ·rw[if_neg h0];show((0+x.1)%P,1)=x;rw[Int.zero_add,Int.emod_eq_of_lt a b];exact Prod.ext rfl c.symm
theorem GF:FZ ["ring", "parts", "numbers", "found", "product", "number", "nought", "falling"] ["ring", "parts"] (ah nF):=.i
theorem AI{f CF CR CG Hl:Addr}{fd:FuncData}(F:Fun K "sum_of" "sum_of" nF f fd)(T:Blt mg)(JD:FnB P w K mg base 2 "height" (mJ K))(Hx:MtB P w K mg base 1 CG "numbers" (iq CG))
  (OF:MtB P w K mg base 3 CF "plus" (lX CF λa b=>(a.1*b.2+b.1*a.2,a.2*b.2))) (OG:MtB P w K mg base 3 CR "plus" (mP CR (· + ·)))
  (HN:fW P w K mg base 2 CF "of" [.int 1] (dZ Hl)) (HP:fW P w K mg base 2 CR "of" [.int 1] (fA CR Hl)) :
  F2 P w K mg base CX0 5 f fd ["ring", "parts"] (CY CF CR CG):=by
 refine F.o GF λ_ _ _ _ H _ Q _ hr h=>?_
 ·obtain⟨g,x,l,P,L,ts,ps,rfl,hP,hg,hN,hl,hps,hn,hok,q⟩:=h;have hB:=hP.b;refine⟨_,(af (aD (i:=2) GF.nd rfl (Or.inl rfl) (bD Hx hr.m (pv 0)))
(af (aD (i:=3) GF.nd rfl (Or.inr rfl) zP)
(af (ja PassesOwn.never rfl (bI K rfl (pv 1)) (iF K (i:=4) (j:=5) rfl rfl GF.nd rfl rfl rfl rfl)
(aj (Cm (hu1 hr) (pv 3) (pv 4) (cA (DK (EQ (hu1 hr) (pv 4) (pv 3))) (dJ (pD OF hr.m (pv 2) (aa (lO (hu1 hr) (pv 3) (pv 4) (λ_ _=>rfl)) (aa (pv 5) ae))) (pD OG hr.m (pv 2) (aa (lO (hu1 hr) (pv 3) (pv 4) (λ_ _=>rfl)) (aa (pv 5) ae)))) (pv 5)) rfl)))
(af (aD (i:=6) GF.nd rfl (Or.inr rfl) (dJ (de HN hr.m cj (pv 2) (aa ag ae)) (de HP hr.m cj (pv 2) (aa ag ae))))
(af (aD (i:=7) GF.nd rfl (Or.inl rfl) (Am T JD hr.m (pv 3)))
(aj (au (by exact cD (N:=["product", "found", "nought"]) (src:=[none,some 3,some 6]) rfl rfl rfl (by exact(bI K rfl (pv 7))) (λ_ _ _=>by exact⟨by exact(cv (i:=0) nd_1 rfl rfl),(qL (aA (B8 K rfl hr.units) (lO (hu1 hr) (pv 1) (pv 0) (λ_ _=>rfl)) (pv 2) (ao _))),by exact(gH (aa (pv 0) (aa (lO (hu1 hr) (pv 1) (pv 0) (λ_ _=>rfl)) ae)))⟩))))))))),?_⟩
  have lt:ts.length=ps.length:=Paired.length hps;obtain⟨dxg,hg'⟩:=id hg;refine⟨_,rfl,g,dxg,_,rfl,hg',rfl,g,x,L,rfl,hg,?_⟩;intro d hd;have dl:d≠l:=λz=>by rw[z,hl] at hd;cases hd
  refine⟨_,rfl,l,rfl,⟨_,SqL.of (by rw[ar dl.symm];exact hl)⟩,sP (xs:=ts) (λi σ H'=>∃(x4 x5:Option V) (kvs:List (List Key×V)),σ=[some (.ref g),some (.ref l),some (.ref x),some (.ref d),x4,x5,none,none]/\FX H H'/\H' d=some (.dT kvs)/\Gi (At P H') kvs (acc P (ps.take i))) ?_ ?_ ?_ ?_⟩
  ·exact⟨none,none,[],rfl,FX.new hd,FY,.nil⟩
  ·rintro i σ H' _ ⟨x3,x4,kvs,rfl,sm,_⟩;exact SqL.of (sm _ _ hl)
  ·rintro i v σ H1 hx ⟨x3,x4,kvs,rfl,sm,hd1,dr⟩;obtain⟨p,ep,t,k,u,rfl,ht,hk,hu⟩:=hps.at_ hx;refine⟨t,_,rfl,SqT.of (sm _ _ ht),rfl,_,_,rfl,_,_,rfl,rfl,?_⟩;have hk1:H1 k=some (.tup ((kI p.1).map kV)):=by rw[zX];exact sm _ _ hk
   have mp:p∈ps:=mem_of_getElem? ep;obtain⟨op,zp⟩:=hok.1 p mp;have okm:∀q∈acc P (ps.take i),OkN P q.2:=pY hB.1 hB.2.2 λq hq=>(hok.1 q (mem_of_mem_take hq)).1
   have hlen:kvs.length<sizeLine:=by
    have h1:kvs.length=(acc P (ps.take i)).length:=Paired.length dr;have h2:=q5 P (ps.take i);rw[length_take] at h2;rw[h1,sizeLine_eq];omega
   have fin:∀r3 H3,FX H1 H3->At P H3 r3 (ji P ((fU (acc P (ps.take i)) p.1).getD (0,1)) p.2)->∃(x4 x5:Option V) (kvs':List (List Key×V)),[some (V.ref g),some (.ref l),some (.ref x),some (.ref d),some (.ref k),some u,none,none]=[some (.ref g),some (.ref l),some (.ref x),some (.ref d),x4,x5,none,none]/\FX H (upd H3 d (.dT (gj kvs (kI p.1) r3)))/\(upd H3 d (.dT (gj kvs (kI p.1) r3))) d=some (.dT kvs')/\Gi (At P (upd H3 d (.dT (gj kvs (kI p.1) r3)))) kvs' (acc P (ps.take (i+1))):=λr3 H3 s3 a3=>by
    have d3:H3 d=some (.dT kvs):=s3 _ _ hd1;have keep:∀c o,H3 c=some o->c≠d->upd H3 d (.dT (gj kvs (kI p.1) r3)) c=some o:=λc o e hc=>by rw[ar hc];exact e
    have tk3:∀t xs,H3 t=some (.tup xs)->upd H3 d (.dT (gj kvs (kI p.1) r3)) t=some (.tup xs):=λt xs e=>keep t _ e (iM e d3 (by intro z;cases z))
    refine⟨_,_,_,rfl,λc o e=>keep c o (s3 _ _ (sm c o e)) (al e hd),FY,?_⟩
    rw[lS ep];exact Gi.put (a3.mono tk3) (dr.mono λv x z=>(z.same s3).mono tk3)
   have put:∀r3 H3,FX H1 H3->DPut H3 d (.ref k) r3 (upd H3 d (.dT (gj kvs (kI p.1) r3))):=λr3 H3 s3=>DPut.t (k:=kI p.1) (s3 _ _ hd1) (s3 _ _ hk1) hlen
   refine⟨_,rfl,_,rfl,d,_,rfl,DGet.t hd1 hk1,_,rfl,?_⟩
   rcases dr.val p.1 with⟨e1,e2⟩|⟨v,y,e1,e2,ra⟩
   ·rw[e1];rw[e2] at fin;refine bS ⟨_,rfl,_,rfl,_,rfl,d,_,rfl,put _ H1 (FX.refl _),fin _ H1 (FX.refl _) ?_⟩;show At P H1 u (ji P (0,1) p.2);rw[i7 op];exact hu.same sm
   ·rw[e1];rw[e2] at fin;refine bC (Dk _ _ (ji P y p.2) (by unfold ji;rfl) (by decide +kernel) hP (hN.mono λo e=>sm _ _ e) ra (hu.same sm) (okm _ (g9 e2)) op (hok.2 i _ (g9 e2)) zp (λZ z=>⟨_,rfl,z⟩) (λZ z=>⟨_,rfl,_,rfl,d,v,rfl,(by rw[<- e1];exact DGet.t hd1 hk1),_,rfl,z⟩) λr3 H3 s3 a3=>?_)
    exact⟨_,rfl,_,rfl,d,_,rfl,put _ H3 s3,fin _ H3 s3 a3⟩
  ·rintro σ H1 ⟨x3,x4,kvs,rfl,sm,hd1,dr⟩;rw[lt,take_length] at dr;have nd:=wj P ps;have lm:=q5 P ps;have okm:∀q∈acc P ps,OkN P q.2:=pY hB.1 hB.2.2 λq hq=>(hok.1 q hq).1
   unfold IsSum at q;generalize acc P ps=m at *;refine pG (a:=0) hP (hN.mono λo e=>sm _ _ e) rfl (λZ z=>⟨_,rfl,z⟩) (λZ z=>z) λr H2 s2 A2=>?_
   rw[uX] at A2;have hd2:=s2 _ _ hd1;have dr2:Gi (At P H2) kvs m:=dr.mono λv x z=>z.same s2
   have sm2:=sm.trans s2;refine⟨_,rfl,.inr ⟨d,kvs,rfl,hd2,λas pk=>?_⟩⟩
   have tp:=vY (dr2.tups pk);have la:(as.map V.ref).length=m.length:=Paired.length tp;generalize as.map V.ref=vs at *;refine⟨by omega,xV H2,by rw[kg tp];exact Bc nd,λy hy H3 s3=>?_,λD H3 zs nD s3 hD pm pw=>?_⟩
   ·obtain⟨p,hp,a,rfl,ha⟩:=sN tp hy;refine⟨a,p.1,rfl,SqT.of (s3 _ _ ha),λt nt=>⟨FX.new nt,t,a,rfl,?_,?_⟩⟩
    ·rw[FY];unfold xV;rw[qw ha]
    ·unfold xV;rw[qw ha];exact SqT.of (FX.new nt _ _ (s3 _ _ ha))
   ·obtain⟨qs,pe,pq⟩:=tm pm m tp;have lq:zs.length=qs.length:=Paired.length pq;have lz:qs.length=m.length:=pe.length_eq;have fall:qs.Pairwise λa b=>klt (hk b) (hk a)=true:=by
     have z:(zs.map (xV H2)).Pairwise (λa b=>klt b a=true):=List.pairwise_map.mpr pw
     rw[kg pq] at z;exact List.pairwise_map.mp z
    refine⟨_,rfl,D,rfl,⟨_,SqL.of hD⟩,fe (n:=zs.length) (σ0:=[none,some (.ref d),some r]) rfl (λacc i ws σ H'=>∃u:Option V,σ=[u,some (.ref d),some r]/\FX H3 H'/\F8 P H' ws ((qs.take i).filter nz)) (by rw[sizeLine_eq];omega) (λacc hacc=>⟨none,rfl,FX.new hacc,.nil⟩) ?_ ?_ ?_ ?_⟩
    ·rintro acc i ws σ H' hacc hi hz ⟨u,rfl,sm',_⟩;exact⟨zs,_,SqL.of (sm' _ _ hD),getElem?_eq_getElem hi⟩
    ·rintro acc ws σ H' hacc hz ⟨u,rfl,sm',_⟩;exact⟨zs,SqL.of (sm' _ _ hD),Nat.le_refl _⟩
    ·rintro acc i ws σ H9 x' H' hacc hi hz hzl ⟨u,rfl,sm',pr⟩ ⟨rfl,hx⟩;have hx:=hx zs (SqL.of (sm' _ _ hD));obtain⟨p,ep⟩:∃p,qs[i]? = some p:=⟨_,getElem?_eq_getElem (by omega)⟩
     obtain⟨a,rfl,ha⟩:=(oP (R:=sM H2) pq hx ep);have mp:p∈m:=pe.mem_iff.mp (mem_of_getElem? ep);have s3':=s3.trans sm';obtain⟨v,e1,av⟩:∃v,jh kvs (kI p.1)=some v/\At P H2 v p.2:=by
      rcases dr2.val p.1 with⟨_,e2⟩|⟨v,y,e1,e2,ra⟩
      ·rw[qJ nd (show(p.1,p.2)∈m from mp)] at e2;cases e2
      ·rw[qJ nd (show(p.1,p.2)∈m from mp)] at e2
       cases e2;exact⟨v,e1,ra⟩
     have dg:DGet H' d (.ref a) (some v):=.inr ⟨kvs,kI p.1,a,.inl (s3' _ _ hd2),rfl,by rw[zX];exact s3' _ _ ha,e1.symm⟩
     refine⟨_,rfl,_,rfl,d,v,rfl,dg,_,rfl,dN P p.2,dN P (0,1),nh (av.same s3'),nh (A2.same s3'),dY _ _,dY _ _,?_⟩;rw[qo (okm p mp) (mm hB.1 hB.2.2)];have en:(!decide (p.2=(0,1)))=nz p:=by unfold nz;rw[decide_not]
     rw[en];refine⟨_,rfl,bt (λh=>?_) (λh=>?_)⟩
     ·refine⟨_,rfl,_,rfl,_,rfl,d,v,rfl,dg,zl,λt nt=>?_⟩
      have s4:=FX.new (o:=.tup [.ref a,v]) nt;have hz4:=s4 _ _ hz;have keep4:∀c u,(upd H' t (.tup [.ref a,v])) c=some u->c≠acc->upd (upd H' t (.tup [.ref a,v])) acc (.lst (ws++[.ref t])) c=some u:=λc u e hc=>by rw[ar hc];exact e
      have tk4:∀c xs,(upd H' t (.tup [.ref a,v])) c=some (.tup xs)->upd (upd H' t (.tup [.ref a,v])) acc (.lst (ws++[.ref t])) c=some (.tup xs):=λc xs e=>keep4 c _ e (iM e hz4 (by intro z;cases z))
      refine⟨ws,hz4,by rw[sizeLine_eq];omega,_,FY,by rw[length_append,length_singleton];omega,_,rfl,λc u e=>keep4 c u (s4 _ _ (sm' c u e)) (al e hacc),?_⟩
      rw[kH ep,if_pos h];exact(F8.snoc (p:=p) ⟨t,a,v,rfl,FY,s4 _ _ (s3' _ _ ha),(av.same s3').same s4⟩ (pr.mono λt xs e=>s4 _ _ e)).mono tk4
     ·refine⟨ws,hz,by omega,_,rfl,sm',?_⟩
      rw[kH ep,if_neg h,append_nil];exact pr
    ·rintro acc ws σ H' hacc hz hzl ⟨u,rfl,sm',pr⟩;rw[lq,take_length] at pr;refine q acc ws _ H' ?_ ((sm2.trans s3).trans sm') hz pr ⟨pe.filter _,fall.filter _⟩;exact(sm2.trans s3).free hacc
def dP(P:Int)(p:aw):PyData:=.tuple [gX p.1,dN P p.2]
def dS(P:Int)(out:List aw):PyData:=.list (out.map (dP P))
theorem C8(P:Int)(p:aw):(dP P p).canLay0=true/\(dP P p).depth<=2:=by
 have h1:=dB p.1;have h2:=dY P p.2;have d1:(gX p.1).depth<=1:=by simp[gX,PyData.depth,PySem.W.ke_depthAll]
 have d2:(dN P p.2).depth<=1:=by
  unfold dN
  split
  ·simp[gX,PyData.depth,PyData.depthAll]
  ·simp[PyData.depth]
 refine⟨?_,?_⟩
 ·simp only[dP,PyData.canLay0,PyData.canLayAll0,SeqAt.canLay_of_shaped h1,SeqAt.canLay_of_shaped h2,Bool.and_true]
 ·simp only[dP,PyData.depth,PyData.depthAll];omega
theorem AE(P:Int):∀out:List aw,PyData.canLayAll0 (out.map (dP P))=true/\PyData.depthAll (out.map (dP P))<=2
 |[]=>⟨rfl,by simp[PyData.depthAll]⟩
 |p::r=>by
  obtain⟨a,b⟩:=C8 P p;obtain⟨c,d⟩:=AE P r;refine⟨by simp only[map_cons,PyData.canLayAll0,a,c,Bool.and_true],?_⟩
  simp only[map_cons,PyData.depthAll];omega
theorem cm(P:Int)(out:List aw):SeqAt.shaped (dS P out)=true:=by
 obtain⟨c,d⟩:=AE P out;unfold SeqAt.shaped dS;rw[Bool.and_eq_true];refine⟨by simp only[PyData.canLay0,c],decide_eq_true ?_⟩
 simp only[PyData.depth];omega
theorem oW{K:Frag}{P:Int}{H:Hp}:∀{ts:List V} {ps:List aw},F8 P H ts ps->DRs K H (ps.map (dP P)) ts
 |_,_,.nil=>.nil
 |_,_,.cons ⟨t,k,u,e,h1,h2,h3⟩ r=>by
  rw[e];exact .cons (.tup (SqT.of h1) (.cons (iC (SqT.of h2)) (.cons (nh h3) .nil))) (oW r)
theorem ir{K:Frag}{P:Int}{H:Hp}{l:Addr}{ts:List V}{ps:List aw}(hl:H l=some (.lst ts))(h:F8 P H ts ps):DR K H (dS P ps) (.ref l):=.lst (SqL.of hl) (oW h)
theorem rO{P:Int}{ps:List aw}(hn:(ps.map (·.1)).Nodup)(h:∀p∈ps,OkN P p.2):∀i,i<=ps.length->acc P (ps.take i)=ps.take i
 |0,_=>by simp[acc]
 |i+1,hi=>by
  obtain⟨q,eq⟩:∃q,ps[i]? = some q:=⟨_,getElem?_eq_getElem (by omega)⟩
  rw[lS eq,rO hn h i (by omega)]
  have hv:fU (ps.take i) q.1=none:=by
   apply aval_none.mpr;intro hm;have e1:ps.take (i+1)=ps.take i++[q]:=by rw[take_add_one,eq];rfl
   have hs:((ps.take (i+1)).map (·.1)).Nodup:=(List.Sublist.map _ (List.take_sublist _ _)).nodup hn;rw[e1,map_append,List.nodup_append] at hs;exact hs.2.2 q.1 hm q.1 (by simp) rfl
  unfold gN nV;rw[hv];show ps.take i++[(q.1,ji P (0,1) q.2)]=ps.take (i+1);rw[i7 (h q (mem_of_getElem? eq)),take_add_one,eq]
  rfl
theorem xZ{P:Int}{ps:List aw}(hn:(ps.map (·.1)).Nodup)(h:∀p∈ps,OkN P p.2):acc P ps=ps:=by
 have z:=rO hn h ps.length (Nat.le_refl _);rw[take_length] at z;exact z
theorem yu{P:Int}{ps:List aw}:∀p∈acc P ps,∃q∈ps,q.1=p.1:=by
 unfold acc;have go:∀(rs m:List aw),(∀r∈rs,r∈ps)->(∀p∈m,∃q∈ps,q.1=p.1)->∀p∈rs.foldl (gN P) m,∃q∈ps,q.1=p.1:=by
  intro rs
  induction rs with
  |nil=>intro m _ h;exact h
  |cons r rs ih=>
   intro m hr hm;refine ih _ (λq hq=>hr q (by simp[hq])) λp hp=>?_
   rcases mK hp with z|z
   ·exact⟨r,hr r (by simp),by rw[z]⟩
   ·exact hm p z
 exact go ps [] (λr hr=>hr) (λp hp=>nomatch hp)
def vH(a b:aw):Prop:=klt (hk b) (hk a)=true
theorem uI{a:List aw}(h:a.Pairwise vH):(a.map (·.1)).Nodup:=by
 rw[List.Nodup,List.pairwise_map];refine h.imp λ{x y} z e=>?_
 unfold vH at z;have e2:hk x=hk y:=by unfold hk;rw[e]
 rw[e2,uR] at z;cases z
theorem IsSum.nz{P:Int}{ps out:List aw}(h:IsSum P ps out):∀p∈out,_root_.K.nz p=true:=λp hp=>(List.mem_filter.mp (h.1.mem_iff.mp hp)).2
theorem IsSum.mem{P:Int}{ps out:List aw}(h:IsSum P ps out):∀p∈out,p∈acc P ps:=λp hp=>(List.mem_filter.mp (h.1.mem_iff.mp hp)).1
def Canon(P L:Int)(z:Nat)(ps:List aw):Prop:=ps.Pairwise vH/\∀p∈ps,OkN P p.2/\Sz z p.2/\nz p=true/\(p.1.length:Int)=L/\∀e∈p.1,0<=e
theorem Canon.nodup{P L:Int}{z:Nat}{ps:List aw}(h:Canon P L z ps):(ps.map (·.1)).Nodup:=uI h.1
theorem Canon.ok{P L:Int}{z:Nat}{ps:List aw}(h:Canon P L z ps):∀p∈ps,OkN P p.2:=λp hp=>(h.2 p hp).1
theorem Canon.self{P L:Int}{z:Nat}{ps:List aw}(h:Canon P L z ps):IsSum P ps ps:=by
 refine⟨?_,h.1⟩;rw[xZ h.nodup h.ok,List.filter_eq_self.mpr λq hq=>(h.2 q hq).2.2.1]
section
open PySem.StrLaws PySem.Builtin.Str
def one(c:Nat):Str:=⟨#[c]⟩
theorem qg(x:Str)(c limit:Nat):∀(n lo:Nat) (st:Array Nat×Nat),st.snd<=lo->st.fst.size+n<=limit->
  (forIn (List.range' lo n) st (occBody x (one c) x.length limit)).run.fst.toList=st.fst.toList++(List.range' lo n).filter λi=>decide (x.cps.toList[i]? = some c)
 |0,lo,st,_,_=>by simp
 |n+1,lo,st,h1,h2=>by
  rw[range'_succ,forIn_cons,filter_cons];unfold occBody;have key:=subAt_one x c lo
  by_cases hx:x.cps.toList[lo]? = some c
  ·have k:=key.mpr hx;rw[if_pos ⟨⟨⟨by omega,h1⟩,k.1⟩,k.2⟩,if_pos (decide_eq_true hx)]
   have ih:=qg x c limit n (lo+1) (st.fst.push lo,lo+(one c).length) (by show lo+1<=lo+1;omega) (by rw[Array.size_push];omega)
   show(forIn (List.range' (lo+1) n) (st.fst.push lo,lo+(one c).length) (occBody x (one c) x.length limit)).run.fst.toList=_;rw[ih,Array.toList_push,append_assoc]
   rfl
  ·rw[if_neg λh=>hx (key.mp ⟨h.1.2,h.2⟩),if_neg (by rw[decide_eq_false hx];decide)]
   have ih:=qg x c limit n (lo+1) (st.fst,st.snd) (by show st.snd<=lo+1;omega) (by show st.fst.size+n<=limit;omega)
   exact ih
theorem vo(x:Str)(c:Nat):occurrences x (one c) 0 x.length (x.length+1)=(List.range' 0 (x.length+1)).filter λi=>decide (x.cps.toList[i]? = some c):=by
 rw[occ_eq,Nat.sub_zero,qg x c (x.length+1) (x.length+1) 0 _ (Nat.le_refl _) (by simp)]
 simp
def spl(c:Nat):List Nat->List (List Nat)
 |[]=>[[]]
 |a::l=>if a=c then[]::spl c l else match spl c l with
  |[]=>[[a]]
  |w::ws=>(a::w)::ws
theorem dM(c a:Nat)(l:List Nat):spl c (a::l)=if a=c then[]::spl c l else match spl c l with
  |[]=>[[a]]
  |w::ws=>(a::w)::ws:=rfl
theorem eX(c:Nat):∀l,spl c l≠[]
 |[]=>by simp[spl]
 |a::l=>by
  unfold spl
  split
  ·simp
  ·split<;>simp
def aT(c:Nat):List (List Nat)->List Nat
 |[]=>[]
 |[w]=>w
 |w::v::ws=>w++c::aT c (v::ws)
theorem nR(c:Nat):∀(w r:List Nat),c∉w->spl c (w++c::r)=w::spl c r
 |[],r,_=>by simp[spl]
 |a::w,r,h=>by
  have ha:a≠c:=λz=>h (by simp[z])
  have ih:=nR c w r λz=>h (by simp[z])
  show spl c (a::(w++c::r))=_;rw[dM,if_neg ha,ih]
theorem dm(c:Nat):∀w:List Nat,c∉w->spl c w=[w]
 |[],_=>rfl
 |a::w,h=>by
  have ha:a≠c:=λz=>h (by simp[z])
  have ih:=dm c w λz=>h (by simp[z])
  rw[dM,if_neg ha,ih]
theorem f6(c:Nat):∀ws:List (List Nat),ws≠[]->(∀w∈ws,c∉w)->spl c (aT c ws)=ws
 |[],h,_=>absurd rfl h
 |[w],_,h=>dm c w (h w (by simp))
 |w::v::ws,_,h=>by
  show spl c (w++c::aT c (v::ws))=_;rw[nR c w _ (h w (by simp)),f6 c (v::ws) (by simp) λu hu=>h u (by simp only[mem_cons] at hu ⊢;exact .inr hu)]
theorem jU(x:Str)(c:Nat):∀(k a b:Nat),a<=b->b+k=x.length->(∀i,a<=i->i<b->x.cps.toList[i]?≠some c)->
  (partsFrom x 1 a ((List.range' b (k+1)).filter λi=>decide (x.cps.toList[i]? = some c))).map (·.cps.toList)=match spl c (x.cps.toList.drop b) with
   |[]=>[]
   |w::ws=>(((x.cps.toList.drop a).take (b-a))++w)::ws
 |0,a,b,hab,hk,_=>by
  have hl:x.cps.toList.length=x.length:=by simp[Str.length]
  have e:x.cps.toList[b]? = none:=getElem?_eq_none (by omega)
  have e2:x.cps.toList.drop b=[]:=drop_of_length_le (by omega)
  rw[List.range'_one,filter_cons,if_neg (by rw[e];simp),List.filter_nil,e2]
  show[(strSub x a x.length).cps.toList]=[((x.cps.toList.drop a).take (b-a))++[]];rw[strSub_toList,append_nil];congr 2;omega
 |k+1,a,b,hab,hk,hn=>by
  have hl:x.cps.toList.length=x.length:=by simp[Str.length]
  have hb:b<x.cps.toList.length:=by omega
  have ed:x.cps.toList.drop b=x.cps.toList[b]::x.cps.toList.drop (b+1):=drop_eq_getElem_cons hb;have eg:x.cps.toList[b]? = some x.cps.toList[b]:=getElem?_eq_getElem hb;rw[range'_succ,filter_cons,ed,eg]
  by_cases hc:x.cps.toList[b]=c
  ·rw[if_pos (by rw[hc];simp)]
   have ih:=jU x c k (b+1) (b+1) (Nat.le_refl _) (by omega) (λi h1 h2=>by omega)
   rw[dM,if_pos hc];show(strSub x a b).cps.toList::(partsFrom x 1 (b+1) _).map _=_;rw[ih,strSub_toList];cases hs:spl c (x.cps.toList.drop (b+1)) with
   |nil=>exact absurd hs (eX _ _)
   |cons w ws=>simp
  ·rw[if_neg (by rw[decide_eq_false λz=>hc (by injection z)];decide)]
   have ih:=jU x c k a (b+1) (by omega) (by omega) (λi h1 h2=>by
    by_cases e:i=b
    ·rw[e,eg];intro z;injection z with z
     exact hc z
    ·exact hn i h1 (by omega))
   rw[ih,dM,if_neg hc];cases hs:spl c (x.cps.toList.drop (b+1)) with
   |nil=>exact absurd hs (eX _ _)
   |cons w ws=>
    dsimp only;congr 1;rw[show b+1-a=(b-a)+1 by omega,take_succ]
    have e3:(x.cps.toList.drop a)[b-a]? = some x.cps.toList[b]:=by
     rw[List.getElem?_drop,show a+(b-a)=b by omega,eg]
    rw[e3,append_assoc]
    rfl
theorem ya(x:Str)(c:Nat)(hx:x.cps.all (· < 128)=true)(hc:c<128):(Txt.split x (one c)).map (·.cps.toList)=spl c x.cps.toList:=by
 have hl:x.cps.toList.length=x.length:=by simp[Str.length]
 have full:=jU x c x.length 0 0 (Nat.le_refl _) (by omega) (λi _ h=>absurd h (Nat.not_lt_zero _))
 have fin:((strSub x 0 x.length::[]).map (·.cps.toList))=[x.cps.toList]:=by rw[sub_whole];rfl
 have nf:(∀i,x.cps.toList[i]?≠some c)->spl c x.cps.toList=[x.cps.toList]:=λh=>dm c _ λz=>by
  obtain⟨i,hi,e⟩:=List.mem_iff_getElem.mp z;exact h i (by rw[getElem?_eq_getElem hi,e])
 unfold Txt.split
 split
 ·rename_i h;have k1:Builtin.Str.strKind x=1:=by
   unfold Builtin.Str.strKind;rw[if_pos];rw[Array.all_eq_true'] at hx ⊢;intro y hy;have:=of_decide_eq_true (hx y hy);exact decide_eq_true (by omega)
  have k2:Builtin.Str.strKind (one c)=1:=by
   unfold Builtin.Str.strKind one;rw[if_pos];simp;omega
  rw[k1,k2,Bool.or_eq_true] at h
  rcases h with h|h
  ·have h:=of_decide_eq_true h;have:x.length=0:=by have:(one c).length=1:=rfl;omega
   rw[nf λi z=>by
    have:=(List.getElem?_eq_some_iff.mp z).1;omega]
   rfl
  ·exact absurd (of_decide_eq_true h) (by decide)
 ·split
  ·rename_i h;rw[vo,List.isEmpty_iff] at h;rw[nf λi z=>by
    have hi:=(List.getElem?_eq_some_iff.mp z).1;have:i∈(List.range' 0 (x.length+1)).filter λi=>decide (x.cps.toList[i]? = some c):=List.mem_filter.mpr ⟨by rw[List.mem_range'_1];omega,decide_eq_true z⟩
    rw[h] at this;cases this]
   rfl
  ·rw[partsBetween_eq,vo];show(partsFrom x 1 0 _).map _=_;rw[full,drop_zero];cases hs:spl c x.cps.toList with
   |nil=>exact absurd hs (eX _ _)
   |cons w ws=>simp
end
section
open PySem.StrLaws PySem.Builtin.Str
theorem wS{x:Str}{c:Nat}(h:c∉x.cps.toList):Txt.partition x (one c)=(x,Str.empty,Str.empty):=by
 unfold Txt.partition
 rcases occ_head x (one c) 1 (Nat.le_refl _) with⟨e,_⟩|⟨i,r,e,a,_⟩
 ·rw[e]
 ·exact absurd (mem_of_getElem? ((subAt_one x c i).mp a)) h
theorem wq{x:Str}{c:Nat}{w r:List Nat}(hx:x.cps.toList=w++c::r)(h:c∉w):Txt.partition x (one c)=(⟨w.toArray⟩,one c,⟨r.toArray⟩):=by
 have hl:x.cps.toList.length=x.length:=by simp[Str.length]
 have hat:x.cps.toList[w.length]? = some c:=by rw[hx];simp
 unfold Txt.partition
 rcases occ_head x (one c) 1 (Nat.le_refl _) with⟨e,n⟩|⟨i,t,e,a,n⟩
 ·exact absurd ((subAt_one x c w.length).mpr hat) (n w.length)
 ·rw[e];have ai:=(subAt_one x c i).mp a;have ei:i=w.length:=by
   rcases Nat.lt_trichotomy i w.length with z|z|z
   ·rw[hx,getElem?_append_left z] at ai;exact absurd (mem_of_getElem? ai) h
   ·exact z
   ·exact absurd ((subAt_one x c w.length).mpr hat) (n _ z)
  subst ei;have hlen:x.length=w.length+(r.length+1):=by rw[<- hl,hx,length_append,length_cons]
  refine Prod.ext ?_ (Prod.ext rfl ?_)
  ·refine mk_of_toList ?_;show(strSub x 0 w.length).cps.toList=w;rw[strSub_toList,hx,drop_zero,Nat.sub_zero,List.take_left]
  ·refine mk_of_toList ?_;show(strSub x (w.length+1) x.length).cps.toList=r;have ed:(w++c::r).drop (w.length+1)=r:=by
    rw[<- List.drop_drop,drop_left]
    rfl
   rw[strSub_toList,hx,ed,hlen];exact take_of_length_le (by omega)
end
section
open PySem.StrLaws PySem.Builtin.Str PySem.NumText PySem.W
def tx(l:List Nat):Str:=⟨l.toArray⟩
theorem iA(l:List Nat):(tx l).cps.toList=l:=rfl
theorem aK(l:List Nat):(tx l).length=l.length:=by simp[tx,Str.length]
theorem bq(a b:List Nat):tx a++tx b=tx (a++b):=Str.ext' (by simp[Str.cps_append,tx])
theorem Gs{a b:List Nat}:tx a=tx b↔a=b:=⟨λh=>by have:=congrArg (λx:Str=>x.cps.toList) h;exact this,λh=>by rw[h]⟩
def az(n:Nat):List Nat:=(Nat.toDigits 10 n).map Char.toNat
theorem tD(n:Nat):(Str.ofString (toString ((n:Nat):Int)))=tx (az n):=by
 have:=KIN.signs_num n;exact mk_of_toList this
theorem cJ{n c:Nat}(h:c∈az n):48<=c/\c<=57:=by
 obtain⟨ch,hch,e⟩:=List.mem_map.mp h;have r:=digit_range (Nat.isDigit_of_mem_toDigits (by decide) (by decide) hch)
 rw[<- e];exact r
theorem qP(n:Nat):az n≠[]:=by
 intro e;have h:=toDigits_len_ge 10 n;rw[List.map_eq_nil_iff.mp e] at h;exact absurd h (by decide)
theorem bh{k n:Nat}(hk:1<=k)(h:n<10^k):(az n).length<=k:=by
 unfold az;rw[length_map];exact PyProof.Rows.digits10_le hk h
theorem oQ{n:Nat}(h:(az n).length<=640):PySem.intText? (tx (az n))=some (n:Int):=by
 have hd:AllDigits (tx (az n)).cps.toList:=λc hc=>cJ hc
 have e:=intText_digits hd (qP n) (by rw[aK];omega)
 rw[iA] at e;have v:=KIN.val_back n;unfold az at e;rw[v] at e;exact e
end
def f9(P:Int)(x:Int×Int):Int×Int:=if P=0/\x.1<0 then(-x.1,x.2) else x
def shN(P:Int)(x:Int×Int):List Nat:=if P=0/\x.2≠1 then az x.1.natAbs++47::az x.2.natAbs else az x.1.natAbs
def pR:Sp:=λvs H Q _=>∃x:V,vs=[x]/\Q (.int 0) H
def ph(CR:Addr):Sp:=λvs H Q _=>∃(x dx:Addr) (p:Int),vs=[.ref x]/\H x=some (.ins CR dx [("modulus",.int p)])/\Q (.int p) H
def qD(CF CR:Addr):Sp:=λvs H Q _=>∃(x:Addr) (P:Int) (u:V) (a:Int×Int),vs=[.ref x,u]/\F7 CF CR H x P/\At P H u a/\Q (.bl (decide (P=0/\a.1<0))) H
def ni(CF CR:Addr):Sp:=λvs H Q _=>∃(x:Addr) (P:Int) (u:V) (a:Int×Int),vs=[.ref x,u]/\F7 CF CR H x P/\At P H u a/\∀r H',FX H H'->At P H' r (f9 P a)->Q r H'
def Dn:Sp:=λvs H Q _=>∃(u:V) (a:Int×Int),vs=[u]/\At 0 H u a/\0<=a.1/\0<a.2/\Sz 110 a/\Q (.str (tx (shN 0 a))) H
def Dm(CF CR:Addr):Sp:=λvs H Q _=>∃(x:Addr) (P:Int) (u:V) (a:Int×Int),vs=[.ref x,u]/\F7 CF CR H x P/\At P H u a/\OkN P a/\0<=a.1/\Sz 110 a/\Q (.str (tx (shN P a))) H
theorem dv{i:Int}(h:i.natAbs<2^110):i.natAbs.log2<1920:=by
 by_cases z:i.natAbs=0
 ·rw[z]
  decide
 ·exact Nat.lt_of_lt_of_le ((Nat.log2_lt z).mpr h) (by decide)
theorem cR{i:Int}(h:0<=i):(Str.ofString (toString i))=tx (az i.natAbs):=by
 have:=tD i.natAbs;rwa [Int.natAbs_of_nonneg h] at this
theorem i6:FZ ["numbers", "number"] ["numbers", "number"] (ah dI):=.i
theorem zZ{f CF CR:Addr}{fd:FuncData}(F:Fun K "is_below_nought" "is_below_nought" dI f fd)(J1:MtB P w K mg base 1 CF "prime" pR)(J3:MtB P w K mg base 1 CR "prime" (ph CR)):F2 P w K mg base CX0 2 f fd ["numbers", "number"] (qD CF CR):=by
 refine F.o i6 λ_ _ _ _ H _ Q _ hr h=>?_
 ·obtain⟨x,P,u,a,rfl,hN,hu,q⟩:=h;refine⟨_,(aj (au (df (bF ba (dJ (bD J1 hr.m (pv 0)) (bD J3 hr.m (pv 0))) ag (ao _)) (du (bF gO (aG (aL K rfl) (pv 1) ag (λ_ _=>rfl)) ag (ao _)))))),?_⟩
  rcases hN with⟨h0,dx,e⟩|⟨h0,dx,e⟩
  ·rcases hu with⟨_,t,rfl,ht⟩|⟨z,_⟩
   ·refine .inl ⟨_,rfl,x,dx,_,rfl,e,rfl,.ref x,rfl,rfl,_,rfl,bC ⟨_,rfl,t,_,_,_,rfl,rfl,SqT.of ht,aB (j:=0) rfl,_,_,rfl,rfl,?_⟩⟩;rw[show decide (P=0/\a.1<0)=decide (a.1<0) from decide_eq_decide.mpr ⟨λz=>z.2,λz=>⟨h0,z⟩⟩] at q
    exact q
   ·exact absurd h0 z
  ·refine .inr ⟨_,rfl,x,dx,_,rfl,e,jT (by decide +kernel) _,x,dx,P,rfl,e,rfl,_,rfl,?_⟩
   rw[decide_eq_false (show ¬V.int P=V.int 0 from λz=>h0 (by injection z))]
   refine bS ?_;rw[decide_eq_false (λz=>h0 z.1)] at q
   exact q
theorem kX:FZ ["numbers", "number"] ["numbers", "number"] (ah fF):=.i
theorem sR{f CF CR:Addr}{fd:FuncData}(F:Fun K "without_sign" "without_sign" fF f fd)(Hy:FnB P w K mg base 2 "is_below_nought" (qD CF CR)):F2 P w K mg base CX0 3 f fd ["numbers", "number"] (ni CF CR):=by
 refine F.o kX λ_ _ _ _ H _ Q _ hr h=>?_
 ·obtain⟨x,P,u,a,rfl,hN,hu,q⟩:=h;refine⟨_,(aj (au (cA (bH (aR Hy hr.m (aa (pv 0) (aa (pv 1) ae)))) (gH (aa (kF g0 (aG (aL K rfl) (pv 1) ag (λ_ _=>rfl))) (aa (aG (aL K rfl) (pv 1) ag (λ_ _=>rfl)) ae))) (pv 1)))),?_⟩
  unfold f9 at q;refine⟨_,rfl,_,rfl,x,P,u,a,rfl,hN,hu,_,rfl,bt (λh=>?_) (λh=>?_)⟩
  ·have h:=of_decide_eq_true h;rw[if_pos h] at q
   rcases hu with⟨_,t,rfl,ht⟩|⟨z,_⟩
   ·refine⟨_,rfl,t,_,_,_,rfl,rfl,SqT.of ht,aB (j:=0) rfl,_,rfl,_,rfl,t,_,_,_,rfl,rfl,SqT.of ht,aB (j:=1) rfl,zl,λr nr=>?_⟩
    exact q _ _ (FX.new nr) (.inl ⟨h.1,r,rfl,FY⟩)
   ·exact absurd h.1 z
  ·rw[if_neg λz=>h (decide_eq_true z)] at q
   exact⟨_,rfl,q _ H (FX.refl H) hu⟩
theorem kn:FZ ["fraction"] ["fraction"] (ah eO):=.i
theorem yY{f:Addr}{fd:FuncData}(F:Fun K "show_fraction" "show_fraction" eO f fd)(T:Blt mg)(nstr:mg "str" = none):F2 P w K mg base CX0 1 f fd ["fraction"] Dn:=by
 refine F.o kn λ_ _ _ _ H _ Q _ hr h=>?_
 ·obtain⟨u,a,rfl,hu,a0,b0,sz,q⟩:=h;refine⟨_,(aj (au (cA (aA ba (aG (aL K rfl) (pv 0) ag (λ_ _=>rfl)) ag (ao _)) (bK aX (by rfl) nstr bO (aa (aG (aL K rfl) (pv 0) ag (λ_ _=>rfl)) ae)) (aH aE (aH aE (bK aX (by rfl) nstr bO (aa (aG (aL K rfl) (pv 0) ag (λ_ _=>rfl)) ae)) aI) (bK aX (by rfl) nstr bO (aa (aG (aL K rfl) (pv 0) ag (λ_ _=>rfl)) ae)))))),?_⟩
  rcases hu with⟨_,t,rfl,ht⟩|⟨z,_⟩
  ·have l1:(az a.1.natAbs).length<=40:=bh (by decide) (Nat.lt_trans sz.1 (by decide +kernel))
   have l2:(az a.2.natAbs).length<=40:=bh (by decide) (Nat.lt_trans sz.2 (by decide +kernel))
   unfold shN at q;refine⟨_,rfl,t,_,_,_,rfl,rfl,SqT.of ht,aB (j:=1) rfl,rfl,_,rfl,bt (λh=>?_) (λh=>?_)⟩
   ·have h1:a.2=1:=by have:=of_decide_eq_true h;injection this
    rw[if_neg λz=>z.2 h1] at q
    refine⟨_,rfl,t,_,_,_,rfl,rfl,SqT.of ht,aB (j:=0) rfl,_,rfl,dv sz.1,?_⟩;rw[cR a0];exact q
   ·have h1:a.2≠1:=λz=>h (decide_eq_true (congrArg V.int z))
    rw[if_pos ⟨rfl,h1⟩] at q;refine⟨_,rfl,t,_,_,_,rfl,rfl,SqT.of ht,aB (j:=0) rfl,_,rfl,dv sz.1,?_⟩;rw[cR a0];refine⟨_,_,rfl,rfl,?_,?_⟩
    ·rw[aK,sizeLine_eq];show(az a.1.natAbs).length+1<=_;omega
    refine⟨_,rfl,t,_,_,_,rfl,rfl,SqT.of ht,aB (j:=1) rfl,_,rfl,dv sz.2,?_⟩;rw[cR (by omega)]
    have e1:tx (az a.1.natAbs)++Str.ofString "/" = tx (az a.1.natAbs++[47]):=bq _ [47];rw[e1];refine⟨_,_,rfl,rfl,?_,?_⟩
    ·rw[aK,aK,sizeLine_eq,length_append];show(az a.1.natAbs).length+1+_<=_;omega
    rw[bq,append_assoc];exact q
  ·exact absurd rfl z
theorem nY:FZ ["numbers", "number"] ["numbers", "number"] (ah fV):=.i
theorem Bd{f CF CR:Addr}{fd:FuncData}(F:Fun K "show_number" "show_number" fV f fd)(nstr:mg "str" = none)(J1:MtB P w K mg base 1 CF "prime" pR)(J3:MtB P w K mg base 1 CR "prime" (ph CR))(JE:FnB P w K mg base 1 "show_fraction" Dn):F2 P w K mg base CX0 2 f fd ["numbers", "number"] (Dm CF CR):=by
 refine F.o nY λ_ _ _ _ H _ Q _ hr h=>?_
 ·obtain⟨x,P,u,a,rfl,hN,hu,oa,a0,sz,q⟩:=h;refine⟨_,(af (aW (aA iz (dJ (bD J1 hr.m (pv 0)) (bD J3 hr.m (pv 0))) ag (ao _))
(aj (au (bK aX (by rfl) nstr bO (aa (pv 1) ae))))
aF)
(aj (au (aR JE hr.m (aa (pv 1) ae))))),?_⟩
  rcases hN with⟨h0,dx,e⟩|⟨h0,dx,e⟩
  ·subst h0;refine .inl ⟨_,rfl,x,dx,_,rfl,e,rfl,.ref x,rfl,rfl,_,rfl,bS ?_⟩;exact⟨_,rfl,u,a,rfl,hu,a0,oa.den,sz,q⟩
  ·refine .inr ⟨_,rfl,x,dx,_,rfl,e,jT (by decide +kernel) _,x,dx,P,rfl,e,rfl,_,rfl,?_⟩
   rw[decide_eq_false (show ¬V.int P=V.int 0 from λz=>h0 (by injection z))]
   refine bC ?_
   rcases hu with⟨z,_⟩|⟨_,rfl,_⟩
   ·exact absurd z h0
   ·refine⟨_,rfl,_,rfl,dv sz.1,?_⟩;unfold shN at q;rw[if_neg λz=>h0 z.1] at q
    rw[cR a0];exact q
def shW(k:Nat)(e:Int):List Nat:=[120,121,122,119].getD k 0::if e=1 then[] else 94::az e.natAbs
def wds:Nat->List Int->List (List Nat)
 |_,[]=>[]
 |k,e::r=>if 0<e then shW k e::wds (k+1) r else wds (k+1) r
theorem rQ:∀(k:Nat) (r:List Int) (e:Int),wds k (r++[e])=wds k r++if 0<e then[shW (k+r.length) e] else[]
 |k,[],e=>by
  show wds k [e]=_;unfold wds
  split<;>simp[wds]
 |k,a::r,e=>by
  have ih:=rQ (k+1) r e;show wds k (a::(r++[e]))=_;unfold wds;rw[ih,length_cons,show k+1+r.length=k+(r.length+1) by omega]
  split<;>simp
theorem fo(c:Nat):∀ws:List (List Nat),Txt.join (one c) (ws.map tx)=tx (aT c ws):=λws=>by
 unfold Txt.join;rw[StrLaws.glued_eq_join]
 induction ws with
 |nil=>rfl
 |cons w r ih=>
  cases r with
  |nil=>rfl
  |cons v r=>
   show tx w++one c++Str.join (one c) (tx v::r.map tx)=tx (w++c::aT c (v::r));have ih:Str.join (one c) (tx v::r.map tx)=tx (aT c (v::r)):=ih;rw[ih,show one c=tx [c] from rfl,bq,bq,append_assoc]
   rfl
theorem jo:∀(k:Nat) (r:List Int),(wds k r).length<=r.length
 |_,[]=>Nat.le_refl _
 |k,e::r=>by
  have:=jo (k+1) r;unfold wds
  split<;>simp<;>omega
theorem eK{B:Nat}:∀{k:Nat} {r:List Int} {w:List Nat},w∈wds k r->∃(j:Nat) (e:Int),k<=j/\j<k+r.length/\e∈r/\0<e/\w=shW j e
 |k,e::r,w,h=>by
  unfold wds at h
  split at h
  ·rcases List.mem_cons.mp h with z|z
   ·exact⟨k,e,Nat.le_refl _,by simp,by simp,‹_›,z⟩
   ·obtain⟨j,e',h1,h2,h3,h4⟩:=eK (B:=B) z;exact⟨j,e',by omega,by simp only[length_cons];omega,by simp[h3],h4⟩
  ·obtain⟨j,e',h1,h2,h3,h4⟩:=eK (B:=B) h;exact⟨j,e',by omega,by simp only[length_cons];omega,by simp[h3],h4⟩
theorem kl{i:Nat}(h:i<4):atI (Str.ofString "xyzw").cps.toList (i:Int)=some ([120,121,122,119].getD i 0):=by
 refine aB ?_
 match i,h with
 |0,_=>decide +kernel
 |1,_=>decide +kernel
 |2,_=>decide +kernel
 |3,_=>decide +kernel
def Du:Sp:=λvs H Q _=>∃(t:Addr) (k:List Int),vs=[.ref t]/\H t=some (.tup (k.map V.int))/\k.length<=4/\(∀e∈k,0<=e/\e<=1000000000000)/\∀H',FX H H'->Q (.str (tx (aT 42 (wds 0 k)))) H'
theorem GG:FZ ["product", "found", "letter", "often"] ["product"] (ah fG):=.i
theorem zB{f:Addr}{fd:FuncData}{tk:Tok}(F:Fun K "show_product" "show_product" fG f fd)(T:Blt mg)(nstr:mg "str" = none)(gLETTERS:mg "LETTERS"=some (.str "xyzw" tk)):F2 P w K mg base CX0 1 f fd ["product"] Du:=by
 refine F.o GG λ_ _ _ _ H _ Q _ hr h=>?_
 ·obtain⟨t,k,rfl,ht,k4,k0,q⟩:=h;refine⟨_,(af (aD (i:=1) GG.nd rfl (Or.inl rfl) (ci ae))
(af (ja PassesOwn.never rfl (xN K rfl rfl T.enum (aa (pv 0) ae)) (iF K (i:=2) (j:=3) rfl rfl GG.nd rfl rfl rfl rfl)
(aj (aW (aA gL (pv 3) ag (ao _))
(aj (eI (bmA K rfl (pv 1) (aa (cA (aA ba (pv 3) ag (ao _)) (aG j9 (bG (v:=.str "xyzw") rfl gLETTERS ⟨_,rfl⟩) (pv 2) (λ_ _=>rfl)) (aH aE (aH aE (aG j9 (bG (v:=.str "xyzw") rfl gLETTERS ⟨_,rfl⟩) (pv 2) (λ_ _=>rfl)) aI) (bK aX (by rfl) nstr bO (aa (pv 3) ae)))) ae))))
aF)))
(aj (au (dQ PySem.F.plainAttrs_str PySem.F.slot_str_join PySem.F.type_str_join bo aI (aa (pv 1) ae)))))),?_⟩
  refine⟨Nat.zero_le _,λd nd=>?_⟩
  generalize e0:upd H d _=H0;obtain⟨s0,hd0⟩:=un e0 nd;clear e0;refine⟨_,rfl,t,rfl,⟨_,SqT.of (s0 _ _ ht)⟩,xR (xs:=k.map V.int) (λi σ H'=>∃x2 x3:Option V,σ=[some (.ref t),some (.ref d),x2,x3]/\FX H H'/\H' d=some (.lst (((wds 0 (k.take i)).map tx).map V.str))) ⟨none,none,rfl,s0,hd0⟩ ?_ ?_ ?_⟩
  ·rintro i σ H' _ ⟨x2,x3,rfl,sm,_⟩;exact SqT.of (sm _ _ ht)
  ·rintro i v σ H1 pp hv ⟨x2,x3,rfl,s1,hd1⟩ npp;obtain⟨e,ee,rfl⟩:=iI hv;have hi:i<k.length:=(List.getElem?_eq_some_iff.mp ee).1;obtain⟨e0,e1⟩:=k0 e (mem_of_getElem? ee);generalize e0:upd H1 pp _=H2;obtain⟨s2,h2⟩:=un e0 npp;clear e0;have hd2:=s2 _ _ hd1;have ws:=rQ 0 (k.take i) e;rw[length_take,Nat.min_eq_left (by omega),Nat.zero_add,<- show k.take (i+1)=k.take i++[e] by rw[take_add_one,ee];rfl] at ws
   have sz:(((wds 0 (k.take i)).map tx).map V.str).length<sizeLine:=by
    have:=jo 0 (k.take i);rw[length_take] at this;rw[length_map,length_map,sizeLine_eq];omega
   refine⟨pp,_,rfl,SqT.of h2,rfl,_,_,rfl,_,_,rfl,rfl,?_⟩;refine⟨_,rfl,_,_,rfl,rfl,_,rfl,bt (λh=>?_) (λh=>?_)⟩
   ·have ep:0<e:=of_decide_eq_true h;rw[if_pos ep] at ws;have fin:∀x:Str,x=tx (shW i e)->∃x2 x3:Option V,[some (V.ref t),some (V.ref d),some (V.int (i:Int)),some (V.int e)]=[some (.ref t),some (.ref d),x2,x3]/\FX H (upd H2 d (.lst (((wds 0 (k.take i)).map tx).map V.str++[V.str x])))/\(upd H2 d (.lst (((wds 0 (k.take i)).map tx).map V.str++[V.str x]))) d=some (.lst (((wds 0 (k.take (i+1))).map tx).map V.str)):=λx ex=>by
     refine⟨_,_,rfl,(s1.trans s2).put nd,?_⟩;rw[FY,ws,ex,map_append,map_append]
     rfl
    refine⟨_,rfl,(.inl ⟨rfl,_,SqL.of hd2⟩),_,rfl,rfl,_,rfl,bt (λh1=>?_) (λh1=>?_)⟩
    ·have e1':e=1:=by have:=of_decide_eq_true h1;injection this
     refine⟨_,rfl,_,_,_,rfl,rfl,zl,kl (by omega),?_⟩
     refine⟨d,_,_,rfl,rfl,hd2,sz,fin _ ?_⟩;unfold shW;rw[if_pos e1']
     rfl
    ·have e1':e≠1:=λz=>h1 (decide_eq_true (congrArg V.int z))
     have l1:(az e.natAbs).length<=40:=bh (by decide) (Nat.lt_of_le_of_lt (show e.natAbs<=1000000000000 by omega) (by decide +kernel))
     refine⟨_,rfl,_,_,_,rfl,rfl,zl,kl (by omega),?_⟩
     refine⟨_,_,rfl,rfl,zl,?_⟩;refine⟨_,rfl,_,rfl,dv (Nat.lt_of_le_of_lt (show e.natAbs<=1000000000000 by omega) (by decide +kernel)),?_⟩
     rw[cR e0];refine⟨_,_,rfl,rfl,?_,?_⟩
     ·rw[aK,sizeLine_eq];show 2+(az e.natAbs).length<=_;omega
     refine⟨d,_,_,rfl,rfl,hd2,sz,fin _ ?_⟩;unfold shW;rw[if_neg e1'];show tx [_]++tx [94]++tx (az e.natAbs)=_;rw[bq,bq]
     rfl
   ·have en:¬0<e:=λz=>h (decide_eq_true z)
    rw[if_neg en,append_nil] at ws;exact⟨_,_,rfl,s1.trans s2,by rw[hd2,ws]⟩
  ·rintro σ H1 ⟨x2,x3,rfl,s1,hd1⟩;rw[length_map,take_length] at hd1;have lw:=jo 0 k;refine⟨rfl,_,rfl,_,d,_,rfl,rfl,hd1,?_,?_⟩
   ·unfold JoinOk;rw[Bool.not_eq_true'];refine StrLaws.joinFits (B:=50) (λy hy=>?_) ?_
    ·obtain⟨w,hw,rfl⟩:=List.mem_map.mp hy;obtain⟨j,e,_,_,he,_,rfl⟩:=eK (B:=0) hw;have l1:(az e.natAbs).length<=40:=bh (by decide) (Nat.lt_of_le_of_lt (show e.natAbs<=1000000000000 by have:=k0 e he;omega) (by decide +kernel))
     rw[aK];unfold shW
     split<;>simp<;>omega
    ·rw[length_map];show(wds 0 k).length*50+(wds 0 k).length*1<=16777216;omega
   ·have e:=fo 42 (wds 0 k);show Q (.str (Txt.join (one 42) ((wds 0 k).map tx))) H1;rw[e];exact q H1 s1
theorem mj{P:Int}(hP:F0 P):OkN P (1,1):=by
 have hB:=hP.b
 by_cases h:P=0
 ·exact .inl ⟨h,by decide,by decide⟩
 ·exact .inr ⟨h,by decide,by show(1:Int)<P;omega,rfl⟩
def fac(P:Int)(k:List Int)(a:Int×Int):List (List Nat):=if k.sum=0 then[shN P a] else if a=(1,1) then wds 0 k else shN P a::wds 0 k
theorem dj(c:Nat){B:Nat}:∀ws:List (List Nat),(∀w∈ws,w.length<=B)->(aT c ws).length<=ws.length*(B+1)
 |[],_=>Nat.zero_le _
 |[w],h=>by
  have:=h w (by simp)
  show w.length<=1*(B+1);omega
 |w::v::ws,h=>by
  have h1:=h w (by simp)
  have ih:=dj c (v::ws) λu hu=>h u (by simp only[mem_cons] at hu ⊢;exact .inr hu)
  show(w++c::aT c (v::ws)).length<=_;rw[length_append,length_cons,length_cons,Nat.succ_mul];omega
theorem iE(c:Nat)(w:List Nat){ws:List (List Nat)}(h:ws≠[]):aT c (w::ws)=w++c::aT c ws:=by
 cases ws with
 |nil=>exact absurd rfl h
 |cons v r=>rfl
theorem i8:∀{j:Nat} {k:List Int},(∀e∈k,0<=e)->k.sum≠0->wds j k≠[]
 |_,[],_,h=>absurd rfl h
 |j,e::r,h0,h=>by
  unfold wds
  split
  ·simp
  ·have e0:e=0:=by have:=h0 e (by simp);omega
   refine i8 (λx hx=>h0 x (by simp[hx])) ?_
   intro z;rw[sum_cons,e0,z] at h;exact h rfl
theorem Dx{k:List Int}(h:∀e∈k,0<=e/\e<=1000000000000):∀w∈wds 0 k,w.length<=50:=λw hw=>by
 obtain⟨j,e,_,_,he,_,rfl⟩:=eK (B:=0) hw;have l1:(az e.natAbs).length<=40:=bh (by decide) (Nat.lt_of_le_of_lt (show e.natAbs<=1000000000000 by have:=h e he;omega) (by decide +kernel))
 unfold shW
 split<;>simp<;>omega
theorem yK{P:Int}{a:Int×Int}(h:Sz 110 a):(shN P a).length<=90:=by
 have l1:(az a.1.natAbs).length<=40:=bh (by decide) (Nat.lt_trans h.1 (by decide +kernel))
 have l2:(az a.2.natAbs).length<=40:=bh (by decide) (Nat.lt_trans h.2 (by decide +kernel))
 unfold shN
 split<;>simp<;>omega
def sD(CF CR:Addr):Sp:=λvs H Q _=>∃(x t:Addr) (P:Int) (k:List Int) (u:V) (a:Int×Int),vs=[.ref x,.ref t,u]/\F0 P/\F7 CF CR H x P/\H t=some (.tup (k.map V.int))/\k.length<=4/\(∀e∈k,0<=e/\e<=1000000000000)/\At P H u a/\OkN P a/\0<=a.1/\Sz 110 a/\∀H',FX H H'->Q (.str (tx (aT 42 (fac P k a)))) H'
theorem qW:FZ ["numbers", "product", "number"] ["numbers", "product", "number"] (ah ik):=.i
theorem sW{f CF CR Hl:Addr}{fd:FuncData}(F:Fun K "show_part" "show_part" ik f fd)(HG:FnB P w K mg base 1 "degree" (tK K))(Jg:FnB P w K mg base 2 "show_number" (Dm CF CR))(IV:FnB P w K mg base 1 "show_product" Du)(HN:fW P w K mg base 2 CF "of" [.int 1] (dZ Hl))(HP:fW P w K mg base 2 CR "of" [.int 1] (fA CR Hl)):F2 P w K mg base CX0 3 f fd ["numbers", "product", "number"] (sD CF CR):=by
 refine F.o qW λ_ _ _ _ H _ Q _ hr h=>?_
 ·obtain⟨x,t,P,k,u,a,rfl,hP,hN,ht,k4,k0,hu,oa,a0,sz,q⟩:=h;have hB:=hP.b;refine⟨_,(af (aW (aA ba (aR HG hr.m (aa (pv 1) ae)) ag (ao _))
(aj (au (aR Jg hr.m (aa (pv 0) (aa (pv 2) ae)))))
aF)
(af (aW (aA (rV K rfl hr.units) (pv 2) (dJ (de HN hr.m cj (pv 0) (aa ag ae)) (de HP hr.m cj (pv 0) (aa ag ae))) (ao _))
(aj (au (aR IV hr.m (aa (pv 1) ae))))
aF)
(aj (au (aH aE (aH aE (aR Jg hr.m (aa (pv 0) (aa (pv 2) ae))) aI) (aR IV hr.m (aa (pv 1) ae))))))),?_⟩
  unfold fac at q;refine⟨_,rfl,t,k,rfl,SqT.of ht,rfl,_,rfl,bt (λh=>?_) (λh=>?_)⟩
  ·have h1:k.sum=0:=by have:=of_decide_eq_true h;injection this
   rw[if_pos h1] at q;exact⟨_,rfl,_,rfl,x,P,u,a,rfl,hN,hu,oa,a0,sz,q H (FX.refl H)⟩
  ·have h1:k.sum≠0:=λz=>h (decide_eq_true (congrArg V.int z))
   rw[if_neg h1] at q;refine⟨_,rfl,pG (a:=1) hP hN rfl (λZ z=>⟨_,rfl,z⟩) (λZ z=>z) λr H2 s2 A2=>?_⟩
   have e1:(if P=0 then((1:Int),(1:Int)) else(1%P,1))=(1,1):=by
    split
    ·rfl
    ·rw[Int.emod_eq_of_lt (by decide) (by omega)]
   rw[e1] at A2;refine⟨dN P a,dN P (1,1),nh (hu.same s2),nh A2,dY _ _,dY _ _,_,rfl,?_⟩;rw[qo oa (mj hP)];refine bt (λh2=>?_) (λh2=>?_)
   ·rw[if_pos (of_decide_eq_true h2)] at q;exact⟨_,rfl,t,k,rfl,s2 _ _ ht,k4,k0,λH' s'=>q H' (s2.trans s')⟩
   ·rw[if_neg λz=>h2 (decide_eq_true z)] at q
    have ln:=yK (P:=P) sz;have lw:=dj 42 (wds 0 k) (Dx k0);have lk:=jo 0 k;have e42:tx (shN P a)++Str.ofString "*" = tx (shN P a++[42]):=bq _ [42];refine⟨_,rfl,_,rfl,x,P,u,a,rfl,hN.mono λo e=>s2 _ _ e,hu.same s2,oa,a0,sz,?_⟩
    refine⟨_,_,rfl,rfl,?_,?_⟩
    ·rw[aK,sizeLine_eq];show(shN P a).length+1<=_;omega
    rw[e42];refine⟨_,rfl,t,k,rfl,s2 _ _ ht,k4,k0,λH' s'=>⟨_,_,rfl,rfl,?_,?_⟩⟩
    ·rw[aK,aK,length_append,sizeLine_eq];have:(wds 0 k).length*(50+1)<=4*51:=Nat.mul_le_mul (by omega) (Nat.le_refl _)
     show(shN P a).length+1+_<=_;omega
    ·have g:=iE 42 (shN P a) (i8 (λe he=>(k0 e he).1) h1 (j:=0))
     rw[bq,append_assoc];show Q (.str (tx (shN P a++42::aT 42 (wds 0 k)))) H';rw[<- g];exact q H' (s2.trans s')
def sgn(P:Int)(a:Int×Int):List Nat:=if P=0/\a.1<0 then[45] else[43]
def prt(P:Int)(p:aw):List Nat:=aT 42 (fac P p.1 (f9 P p.2))
def fnd(P:Int)(ps:List aw):List (List Nat):=ps.flatMap λp=>[sgn P p.2,prt P p]
def shS(P:Int):List aw->List Nat
 |[]=>[48]
 |p::r=>(if P=0/\p.2.1<0 then[45] else[])++aT 32 (prt P p::fnd P r)
def mO(P:Int)(p:aw):Prop:=OkN P p.2/\Sz 110 p.2/\p.1.length<=4/\∀e∈p.1,0<=e/\e<=1000000000000
def yF(CF CR CG:Addr):Sp:=λvs H Q _=>∃(g x l:Addr) (P L:Int) (ts:List V) (ps:List aw),vs=[.ref g,.ref l]/\F0 P/\cF CG H g x L/\F7 CF CR H x P/\H l=some (.lst ts)/\F8 P H ts ps/\ps.length<=60/\(∀p∈ps,mO P p)/\∀H',FX H H'->Q (.str (tx (shS P ps))) H'
theorem qR{P:Int}{a:Int×Int}(h:OkN P a)(z:Sz 110 a):OkN P (f9 P a)/\0<=(f9 P a).1/\Sz 110 (f9 P a):=by
 unfold f9
 split
 ·rename_i c
  rcases h with⟨h0,h1,h2⟩|⟨h0,_⟩
  ·exact⟨.inl ⟨h0,h1,by show Int.gcd (-a.1) a.2=1;unfold Int.gcd at h2 ⊢;rw[Int.natAbs_neg];exact h2⟩,by have:=c.2;show 0 <= -a.1;omega,by show(-a.1).natAbs<_;rw[Int.natAbs_neg];exact z.1,z.2⟩
  ·exact absurd c.1 h0
 ·rename_i c;refine⟨h,?_,z⟩
  rcases h with⟨h0,_⟩|⟨_,h1,_⟩
  ·exact Int.not_lt.mp λw=>c ⟨h0,w⟩
  ·exact h1
theorem zU{P:Int}{p:aw}(h:mO P p):(prt P p).length<=460:=by
 obtain⟨op,zp,k4,k0⟩:=h;obtain⟨_,_,o3⟩:=qR op zp;have lk:=jo 0 p.1;have g:(fac P p.1 (f9 P p.2)).length<=5/\∀w∈fac P p.1 (f9 P p.2),w.length<=90:=by
  have w90:∀w∈wds 0 p.1,w.length<=90:=λw hw=>Nat.le_trans (Dx k0 w hw) (by decide)
  unfold fac
  split
  ·exact⟨by simp,λw hw=>by rw[List.mem_singleton.mp hw];exact yK o3⟩
  ·split
   ·exact⟨by omega,w90⟩
   ·refine⟨by rw[length_cons];omega,λw hw=>?_⟩
    rcases List.mem_cons.mp hw with z|z
    ·rw[z];exact yK o3
    ·exact w90 w z
 have:=dj 42 _ g.2;have h2:(fac P p.1 (f9 P p.2)).length*(90+1)<=5*91:=Nat.mul_le_mul g.1 (Nat.le_refl _);unfold prt;omega
theorem Au{P:Int}:∀{ps:List aw},(∀p∈ps,mO P p)->(fnd P ps).length=2*ps.length/\∀w∈fnd P ps,w.length<=460
 |[],_=>⟨rfl,λw hw=>by simp[fnd] at hw⟩
 |p::r,h=>by
  obtain⟨i1,i2⟩:=Au (ps:=r) λq hq=>h q (by simp[hq])
  have e:fnd P (p::r)=sgn P p.2::prt P p::fnd P r:=rfl;rw[e];refine⟨by rw[length_cons,length_cons,i1,length_cons];omega,λw hw=>?_⟩
  rcases List.mem_cons.mp hw with z|z
  ·rw[z];unfold sgn
   split<;>decide
  ·rcases List.mem_cons.mp z with z|z
   ·rw[z];exact zU (h p (by simp))
   ·exact i2 w z
theorem g6(a:V)(r:List V):jH (a::r) (some 1) none=r:=by
 unfold jH;simp[HT.sIx]
 try omega
theorem Gu:FZ ["ring", "one", "numbers", "found", "product", "number", "below", "text"] ["ring", "one"] (ah iW):=.i
set_option maxHeartbeats 1000000 in
theorem yg{f CF CR CG:Addr}{fd:FuncData}(F:Fun K "show_sum" "show_sum" iW f fd)(T:Blt mg)(Hx:MtB P w K mg base 1 CG "numbers" (iq CG))(Hy:FnB P w K mg base 2 "is_below_nought" (qD CF CR))(J4:FnB P w K mg base 3 "without_sign" (ni CF CR))(Ll:FnB P w K mg base 3 "show_part" (sD CF CR)):F2 P w K mg base CX0 4 f fd ["ring", "one"] (yF CF CR CG):=by
 refine F.o Gu λ_ _ _ _ H _ Q _ hr h=>?_
 ·obtain⟨g,x,l,P,L,ts,ps,rfl,hP,hg,hN,hl,hps,hn,hok,q⟩:=h;have hB:=hP.b;refine⟨_,(af (aW (aA (rV K rfl hr.units) (pv 1) (ci ae) (ao _))
(aj (au aI))
aF)
(af (aD (i:=2) Gu.nd rfl (Or.inl rfl) (bD Hx hr.m (pv 0)))
(af (aD (i:=3) Gu.nd rfl (Or.inl rfl) (ci ae))
(af (ja PassesOwn.never rfl (bI K rfl (pv 1)) (iF K (i:=4) (j:=5) rfl rfl Gu.nd rfl rfl rfl rfl)
(af (aD (i:=6) Gu.nd rfl (Or.inl rfl) (aR Hy hr.m (aa (pv 2) (aa (pv 5) ae))))
(af (eI (bmA K rfl (pv 3) (aa (cA (bH (pv 6)) aI aI) ae)))
(aj (eI (bmA K rfl (pv 3) (aa (by exact(aR Ll hr.m (aa (pv 2) (aa (pv 4) (aa (by exact(aR J4 hr.m (aa (pv 2) (aa (pv 5) ae)))) ae))))) ae)))))))
(af (aD (i:=7) Gu.nd rfl (Or.inl rfl) (dQ PySem.F.plainAttrs_str PySem.F.slot_str_join PySem.F.type_str_join bo aI (aa (cU (bu K rfl) (pv 3) (cE ag) bE) ae)))
(aj (au (cA (aA ba (aG (ay K rfl) (pv 3) ag (λ_ _=>rfl)) aI (ao _)) (aH aE aI (pv 7)) (pv 7))))))))),?_⟩
  have lt:ts.length=ps.length:=Paired.length hps;obtain⟨dxg,hg'⟩:=id hg;refine⟨_,rfl,Nat.zero_le _,λem hem=>?_⟩
  generalize e0:upd H em _=H0;obtain⟨s0,hem'⟩:=un e0 hem;clear e0;refine⟨dS P ps,dS P [],ir (s0 _ _ hl) (hps.mono λt xs e=>s0 _ _ e),ir hem' .nil,cm _ _,cm _ _,_,rfl,?_⟩
  cases ps with
  |nil=>
   refine bC ?_;exact q H0 s0
  |cons p0 pr=>
   refine bS ?_;refine⟨_,rfl,g,dxg,_,rfl,s0 _ _ hg',rfl,g,x,L,rfl,⟨dxg,s0 _ _ hg'⟩,?_⟩;refine⟨Nat.zero_le _,λd nd=>?_⟩
   generalize e0:upd H0 d _=H1;obtain⟨s1,hd1⟩:=un e0 nd;clear e0;have s01:=s0.trans s1;have nd0:H d=none:=s0.free nd;refine⟨_,rfl,l,rfl,⟨_,SqL.of (s01 _ _ hl)⟩,oV (xs:=ts) (λi σ H'=>∃x4 x5 x6:Option V,σ=[some (.ref g),some (.ref l),some (.ref x),some (.ref d),x4,x5,x6,none]/\FX H H'/\H' d=some (.lst (((fnd P ((p0::pr).take i)).map tx).map V.str))) ⟨none,none,none,rfl,s01,hd1⟩ ?_ ?_ ?_⟩
   ·rintro i σ H' _ ⟨x4,x5,x6,rfl,sm,_⟩;exact SqL.of (sm _ _ hl)
   ·rintro i v σ H2 hv ⟨x4,x5,x6,rfl,sm,hd2⟩ N0 C0 hN0;obtain⟨p,ep,t,k,u,rfl,ht,hk,hu⟩:=hps.at_ hv;obtain⟨op,zp,k4,k0⟩:=hok p (mem_of_getElem? ep);have hi:i<(p0::pr).length:=(List.getElem?_eq_some_iff.mp ep).1;have lf:(fnd P ((p0::pr).take i)).length=2*i:=by
     have:∀l:List aw,(fnd P l).length=2*l.length:=λl=>by
      induction l with
      |nil=>rfl
      |cons a r ih=>
       show(sgn P a.2::prt P a::fnd P r).length=_;rw[length_cons,length_cons,ih,length_cons];omega
     rw[this,length_take,Nat.min_eq_left (by omega)]
    refine⟨t,_,rfl,SqT.of (sm _ _ ht),rfl,_,_,rfl,_,_,rfl,rfl,?_⟩;refine⟨_,rfl,_,rfl,x,P,u,p.2,rfl,hN.mono λo e=>sm _ _ e,hu.same sm,?_⟩
    dsimp only;refine qt (t:=yb _) (λσ' H'=>σ'=[some (.ref g),some (.ref l),some (.ref x),some (.ref d),some (.ref k),some u,some (.bl (decide (P=0/\p.2.1<0))),none]/\FX H H'/\H' d=some (.lst (((fnd P ((p0::pr).take i)++[sgn P p.2]).map tx).map V.str))) (λR hR=>?_) ?_
    ·have ap:∀z:Str,z=tx (sgn P p.2)->(upd H2 d (.lst (((fnd P ((p0::pr).take i)).map tx).map V.str++[V.str z]))) d=some (.lst (((fnd P ((p0::pr).take i)++[sgn P p.2]).map tx).map V.str)):=λz ez=>by
      rw[FY,ez,map_append,map_append]
      rfl
     have sl:(((fnd P ((p0::pr).take i)).map tx).map V.str).length<sizeLine:=by rw[length_map,length_map,lf,sizeLine_eq];omega
     refine⟨_,rfl,(.inl ⟨rfl,_,SqL.of hd2⟩),_,rfl,_,rfl,bt (λh=>?_) (λh=>?_)⟩
     ·have h:=of_decide_eq_true h;exact⟨d,_,_,rfl,rfl,hd2,sl,hR _ _ ⟨rfl,sm.put nd0,ap _ (by unfold sgn;rw[if_pos h];rfl)⟩⟩
     ·have h:¬(P=0/\p.2.1<0):=λz=>h (decide_eq_true z)
      exact⟨d,_,_,rfl,rfl,hd2,sl,hR _ _ ⟨rfl,sm.put nd0,ap _ (by unfold sgn;rw[if_neg h];rfl)⟩⟩
    rintro σ' H3 ⟨rfl,s3,hd3⟩;obtain⟨o1,o2,o3⟩:=qR op zp;refine⟨_,rfl,(.inl ⟨rfl,_,SqL.of hd3⟩),_,rfl,_,rfl,_,rfl,_,rfl,x,P,u,p.2,rfl,hN.mono λo e=>s3 _ _ e,hu.same s3,λr4 H4 s4 a4=>?_⟩
    refine⟨x,k,P,p.1,r4,f9 P p.2,rfl,hP,hN.mono λo e=>s4 _ _ (s3 _ _ e),s4 _ _ (s3 _ _ hk),k4,k0,a4,o1,o2,o3,λH5 s5=>?_⟩
    refine⟨d,_,_,rfl,rfl,s5 _ _ (s4 _ _ hd3),by rw[length_map,length_map,length_append,lf,sizeLine_eq,length_singleton];omega,hN0 _ _ ⟨_,_,_,rfl,(s3.trans (s4.trans s5)).put nd0,?_⟩⟩
    rw[FY,take_add_one,ep];unfold fnd;rw[flatMap_append];simp only[Option.toList,flatMap_cons,List.flatMap_nil,append_nil,map_append,append_assoc]
    rfl
   ·rintro σ H2 ⟨x4,x5,x6,rfl,sm,hd2⟩;rw[lt,take_length] at hd2;have ef:((fnd P (p0::pr)).map tx).map V.str=V.str (tx (sgn P p0.2))::((prt P p0::fnd P pr).map tx).map V.str:=rfl;rw[ef] at hd2;refine⟨rfl,_,rfl,_,rfl,d,_,rfl,SqL.of hd2,λsl nsl=>?_⟩
    rw[g6];generalize e0:upd H2 sl _=H3;obtain⟨s3,hsl⟩:=un e0 nsl;clear e0;obtain⟨f1,f2⟩:=Au (P:=P) (ps:=pr) λq hq=>hok q (by simp[hq])
    have wB:∀w∈prt P p0::fnd P pr,w.length<=460:=λw hw=>by
     rcases List.mem_cons.mp hw with z|z
     ·rw[z];exact zU (hok p0 (by simp))
     ·exact f2 w z
    have wl:(prt P p0::fnd P pr).length<=121:=by rw[length_cons,f1];rw[length_cons] at hn;omega
    refine⟨_,sl,_,rfl,rfl,hsl,?_,?_⟩
    ·unfold JoinOk;rw[Bool.not_eq_true'];refine StrLaws.joinFits (B:=460) (λy hy=>?_) ?_
     ·obtain⟨w,hw,rfl⟩:=List.mem_map.mp hy;rw[aK];exact wB w hw
     ·rw[length_map];show(prt P p0::fnd P pr).length*460+(prt P p0::fnd P pr).length*1<=16777216;omega
    have ej:Txt.join (Str.ofString " ") ((prt P p0::fnd P pr).map tx)=tx (aT 32 (prt P p0::fnd P pr)):=fo 32 _;rw[ej];have lj:=dj 32 _ wB;have lj2:(prt P p0::fnd P pr).length*(460+1)<=121*461:=Nat.mul_le_mul wl (Nat.le_refl _);have qf:Q (.str (tx ((if P=0/\p0.2.1<0 then[45] else[])++aT 32 (prt P p0::fnd P pr)))) H3:=q H3 (sm.trans s3)
    refine⟨_,rfl,d,_,_,_,rfl,rfl,SqL.of (s3 _ _ hd2),aB (j:=0) rfl,rfl,_,rfl,bt (λh=>?_) (λh=>?_)⟩
    ·have hs:tx (sgn P p0.2)=tx [45]:=by have:=of_decide_eq_true h;injection this
     have hneg:P=0/\p0.2.1<0:=Decidable.byContradiction λz=>by
      unfold sgn at hs;rw[if_neg z,Gs] at hs;exact absurd hs (by decide)
     refine⟨_,rfl,_,_,rfl,rfl,?_,?_⟩
     ·rw[aK,sizeLine_eq];show 1+_<=_;omega
     ·have e1:Str.ofString "-" ++ tx (aT 32 (prt P p0::fnd P pr))=tx ([45]++aT 32 (prt P p0::fnd P pr)):=bq [45] _;rw[e1];rw[if_pos hneg] at qf;exact qf
    ·have hneg:¬(P=0/\p0.2.1<0):=λz=>h (decide_eq_true (congrArg V.str (by unfold sgn;rw[if_pos z];rfl)))
     rw[if_neg hneg,nil_append] at qf;exact⟨_,rfl,qf⟩
theorem nd_2:(["sign"]:List Str).Nodup:=by decide +kernel
theorem nd_3:(["often"]:List Str).Nodup:=by decide +kernel
theorem nd_4:(["part", "ring"]:List Str).Nodup:=by decide +kernel
theorem nd_5:(["part", "behind"]:List Str).Nodup:=by decide +kernel
def cX(c:Nat):Bool:=decide (48<=c)&&decide (c<=57)
def p7:Sp:=λvs H Q _=>∃l:List Nat,vs=[.str (tx l)]/\(∀c∈l,c<128)/\l.length<=3000/\∀H',FX H H'->Q (.bl (!l.isEmpty&&l.all cX)) H'
theorem Cv(c:Nat):(!(Builtin.Str.occurrences (Str.ofString "0123456789") ⟨#[c]⟩ 0 (Str.ofString "0123456789").length 1).isEmpty)=cX c:=by
 rw[StrLaws.found_one];have e:(Str.ofString "0123456789").cps.toList=[48,49,50,51,52,53,54,55,56,57]:=by decide +kernel
 rw[e];unfold cX;rw[<- Bool.decide_and];refine decide_eq_decide.mpr ?_;simp only[mem_cons,not_mem_nil,or_false];omega
theorem oA:FZ ["text"] ["text"] (ah gD):=.i
theorem xh{f:Addr}{fd:FuncData}{tk:Tok}(F:Fun K "is_figures" "is_figures" gD f fd)(T:Blt mg)(gFIGURES:mg "FIGURES"=some (.str "0123456789" tk)):F2 P w K mg base CX0 1 f fd ["text"] p7:=by
 refine F.o oA λ_ _ _ _ H _ Q _ hr h=>?_
 ·obtain⟨l,rfl,h1,h2,q⟩:=h;refine⟨_,(aj (au (df (bF iz (pv 0) aI (ao _)) (du (fM K T (by exact cD (N:=["sign"]) (src:=[none]) rfl rfl rfl (by exact(DP (pv 0))) (λ_ _ _=>by exact⟨by exact(cv (i:=0) nd_2 rfl rfl),bi,by exact(bF wV (pv 0) (bG (v:=.str "0123456789") rfl gFIGURES ⟨_,rfl⟩) rfl)⟩)) false))))),?_⟩
  have hl:(tx l).cps.all (· < 128)=true:=by
   rw[Array.all_eq_true'];intro y hy;exact decide_eq_true (h1 y (by have:=Array.mem_toList_iff.mpr hy;rwa [iA] at this))
  refine⟨_,rfl,rfl,_,rfl,bt (λh=>?_) (λh=>?_)⟩
  ·refine⟨_,rfl,_,rfl,hl,fe (n:=l.length) (σ0:=[none]) rfl (λacc i zs σ H'=>(∃u,σ=[u])/\FX H H'/\zs=((l.take i).map cX).map V.bl) (by rw[sizeLine_eq];omega) (λacc hacc=>⟨⟨none,rfl⟩,FX.new hacc,rfl⟩) ?_ ?_ ?_ ?_⟩
   ·rintro acc i zs σ H' hacc hi hz ⟨⟨u,rfl⟩,sm,_⟩;show i<(tx l).cps.size;simpa[tx] using hi
   ·rintro acc zs σ H' hacc hz ⟨⟨u,rfl⟩,sm,_⟩;show(tx l).cps.size<=l.length;simp[tx]
   ·rintro acc i zs σ H' x H2 hacc hi hz hzl ⟨⟨u,rfl⟩,sm,rfl⟩ ⟨rfl,c,hc,rfl⟩;have ec:l[i]? = some c:=by simpa[tx] using hc
    refine⟨_,rfl,_,_,rfl,rfl,?_⟩;rw[Cv];refine⟨_,hz,by rw[length_map,length_map,length_take,sizeLine_eq];omega,_,FY,by rw[length_append,length_map,length_map,length_take,length_singleton];omega,⟨_,rfl⟩,sm.put hacc,?_⟩
    rw[take_add_one,ec,map_append,map_append]
    rfl
   ·rintro acc zs σ H' hacc hz hzl ⟨_,sm,rfl⟩;rw[take_length] at hz;refine⟨acc,_,rfl,fc (SqL.of hz),?_⟩;have ne:l.isEmpty=false:=by
     cases l with
     |nil=>exact absurd h (by decide)
     |cons a r=>rfl
    have e:((l.map cX).all id)=(!l.isEmpty&&l.all cX):=by
     rw[ne,all_map]
     rfl
    rw[e];exact q H' sm
  ·have:l=[]:=by
    cases l with
    |nil=>rfl
    |cons a r=>exact absurd (by rw[decide_eq_false (λz=>by injection z with z;exact absurd ((Gs (a:=a::r) (b:=[])).mp z) (by simp))];rfl) h
   subst this;exact q H (FX.refl H)
def eU(j:Nat):Nat:=[120,121,122,119].getD j 0
theorem Be{i j:Nat}(hi:i<4)(hj:j<4)(h:eU i=eU j):i=j:=by
 have:∀i,i<4->∀j,j<4->eU i=eU j->i=j:=by decide
 exact this i hi j hj h
section
open PySem.StrLaws PySem.Builtin.Str
theorem r9(x:Str)(l u:Option Int){a b:Nat}(hab:a<=b)(hb:b<=x.length)(h:strSliceIndices l u 1 x.length=(List.range (b-a)).map (λk=>a+k)):Txt.slice x l u=tx ((x.cps.toList.drop a).take (b-a)):=by
 have hl:x.cps.toList.length=x.length:=by simp[Str.length]
 have e2:=sliced_plain x hab hb;rw[strSliceIndices_plain hab hb] at e2;unfold Txt.slice;rw[h,e2]
 split
 ·rename_i hc;rw[Bool.and_eq_true] at hc;have hc:=hc.2;rw[length_map,length_range] at hc;have hc:b-a=x.length:=by simpa using hc
  have ea:a=0:=by omega
  subst ea;refine mk_of_toList ?_;rw[drop_zero,hc,<- hl,take_length]
 ·rfl
theorem nQ{l:List Nat}{a:Nat}(h:a<=l.length):Txt.slice (tx l) (some (a:Int)) none=tx (l.drop a):=by
 have e:=r9 (tx l) (some (a:Int)) none (a:=a) (b:=l.length) h (by rw[aK];exact Nat.le_refl _) (by
  rw[<- strSliceIndices_plain h (Nat.le_refl _),aK];unfold strSliceIndices;simp only[show((1:Int)>0)=True from by simp,if_true]
  have h2:¬((l.length:Int)<0):=by omega
  rw[if_neg h2];congr 1
  all_goals omega)
 rw[e,iA,take_of_length_le (by rw[length_drop];exact Nat.le_refl _)]
theorem zN{l:List Nat}{b:Nat}(h:b<=l.length):Txt.slice (tx l) none (some (b:Int))=tx (l.take b):=by
 have e:=r9 (tx l) none (some (b:Int)) (a:=0) (b:=b) (Nat.zero_le _) (by rw[aK];exact h) (by
  rw[<- strSliceIndices_plain (Nat.zero_le _) h,aK];unfold strSliceIndices;simp only[show((1:Int)>0)=True from by simp,if_true]
  congr 1
  all_goals omega)
 rw[e,iA,drop_zero,Nat.sub_zero]
theorem nN(l:List Nat)(c:Nat):Txt.startswith (tx l) (one c)=decide (l[0]? = some c):=by
 unfold Txt.startswith;rw[Bool.eq_iff_iff,Bool.and_eq_true,decide_eq_true_eq,decide_eq_true_eq];exact subAt_one (tx l) c 0
end
theorem sZ{xs ys:List V}{f:Nat->Nat}(h:∀k,k<ys.length->xs[f k]? = ys[k]?):∀m,m<=ys.length->((List.range m).map f).filterMap (xs[·]?)=ys.take m
 |0,_=>rfl
 |m+1,hm=>by
  have ih:=sZ h m (by omega)
  have hk:=h m (by omega)
  rw[range_succ,map_append,List.filterMap_append,ih,take_add_one,<- hk];congr 1
theorem va{xs ys:List V}{lo:Nat}(h1:∀k,k<ys.length->xs[lo+2*k]? = ys[k]?)(h2:xs.length=lo+2*ys.length\/xs.length+1=lo+2*ys.length):mB xs (some (lo:Int)) none (some 2)=ys:=by
 have hp:=sZ h1 ys.length (Nat.le_refl _);rw[take_length] at hp;rw[<- hp];unfold mB;congr 1;unfold sliceBounds sliceRange;simp only[Option.getD_some,show((2:Int)>0)=True from by simp,if_true]
 have h3:¬((lo:Int)<0):=by omega
 rw[if_neg h3];have hc:(if max 0 (min (lo:Int) (xs.length:Int))<(xs.length:Int) then((xs.length:Int)-max 0 (min (lo:Int) (xs.length:Int))+2-1)/2 else 0).toNat=ys.length:=by
  split<;>omega
 rw[hc];refine List.map_congr_left λk hk=>?_
 have:=List.mem_range.mp hk;omega
def okc(c:Nat):Prop:=(47<=c/\c<=57)\/c=94\/(119<=c/\c<=122)
theorem Fp{P:Int}{a:Int×Int}:∀c∈shN P a,okc c/\c<=57:=λc hc=>by
 unfold shN at hc
 split at hc
 ·rcases List.mem_append.mp hc with z|z
  ·have:=cJ z;exact⟨.inl ⟨by omega,by omega⟩,by omega⟩
  ·rcases List.mem_cons.mp z with z|z
   ·rw[z];exact⟨.inl ⟨by decide,by decide⟩,by decide⟩
   ·have:=cJ z;exact⟨.inl ⟨by omega,by omega⟩,by omega⟩
 ·have:=cJ hc;exact⟨.inl ⟨by omega,by omega⟩,by omega⟩
theorem ux{j:Nat}(h:j<4):119<=eU j/\eU j<=122:=by
 have:∀j,j<4->119<=eU j/\eU j<=122:=by decide
 exact this j h
theorem Fc{j:Nat}{e:Int}(h:j<4):∀c∈shW j e,okc c:=λc hc=>by
 unfold shW at hc
 rcases List.mem_cons.mp hc with z|z
 ·rw[z];exact .inr (.inr (ux h))
 ·split at z
  ·exact nomatch z
  ·rcases List.mem_cons.mp z with z|z
   ·exact .inr (.inl z)
   ·have:=cJ z;exact .inl ⟨by omega,by omega⟩
theorem Dy{P:Int}{k:List Int}{a:Int×Int}(k4:k.length<=4):∀w∈fac P k a,∀c∈w,okc c:=by
 have hw:∀w∈wds 0 k,∀c∈w,okc c:=λw hw=>by
  obtain⟨j,e,_,h2,_,_,rfl⟩:=eK (B:=0) hw;exact Fc (by omega)
 have hN:∀c∈shN P a,okc c:=λc hc=>(Fp c hc).1
 unfold fac
 split
 ·intro w hw';rw[List.mem_singleton.mp hw'];exact hN
 ·split
  ·exact hw
  ·intro w hw'
   rcases List.mem_cons.mp hw' with z|z
   ·rw[z];exact hN
   ·exact hw w z
theorem ki{d:Nat}:∀{ws:List (List Nat)} {c:Nat},c∈aT d ws->c=d\/∃w∈ws,c∈w
 |[w],c,h=>.inr ⟨w,by simp,h⟩
 |w::v::ws,c,h=>by
  have h:c∈w++d::aT d (v::ws):=h
  rcases List.mem_append.mp h with z|z
  ·exact .inr ⟨w,by simp,z⟩
  ·rcases List.mem_cons.mp z with z|z
   ·exact .inl z
   ·rcases ki z with z|⟨u,hu,z⟩
    ·exact .inl z
    ·exact .inr ⟨u,mem_cons_of_mem _ hu,z⟩
theorem AN{P:Int}{p:aw}(k4:p.1.length<=4):∀c∈prt P p,c=42\/okc c:=λc hc=>by
 rcases ki hc with z|⟨w,hw,z⟩
 ·exact .inl z
 ·exact .inr (Dy k4 w hw c z)
theorem Ed{P:Int}{k:List Int}{a:Int×Int}(k0:∀e∈k,0<=e):fac P k a≠[]:=by
 unfold fac
 split
 ·simp
 ·split
  ·exact i8 k0 ‹_›
  ·simp
theorem EH{l:List Nat}(h:∀c∈l,c<128):(tx l).cps.all (· < 128)=true:=by
 rw[Array.all_eq_true'];intro y hy;exact decide_eq_true (h y (by have:=Array.mem_toList_iff.mpr hy;rwa [iA] at this))
theorem Av{l:List Str}{m:List (List Nat)}(h:l.map (·.cps.toList)=m):l=m.map tx:=by
 subst h;rw[map_map]
 conv=>lhs;rw[<- map_id l]
 rfl
def hd0(P:Int)(p:aw):List Nat:=(if P=0/\p.2.1<0 then[45] else[])++prt P p
theorem ie(P:Int)(p:aw)(r:List aw):shS P (p::r)=aT 32 (hd0 P p::fnd P r):=by
 have e:shS P (p::r)=(if P=0/\p.2.1<0 then[45] else[])++aT 32 (prt P p::fnd P r):=rfl
 rw[e];unfold hd0;cases hf:fnd P r with
 |nil=>rfl
 |cons u t=>
  show _++(prt P p++32::aT 32 (u::t))=(_++prt P p)++32::aT 32 (u::t);rw[append_assoc]
theorem E6{P:Int}{r:List aw}(h:∀p∈r,p.1.length<=4):∀w∈fnd P r,∀c∈w,c=43\/c=45\/c=42\/okc c:=λw hw c hc=>by
 obtain⟨p,hp,hw⟩:=List.mem_flatMap.mp hw
 rcases List.mem_cons.mp hw with z|z
 ·rw[z] at hc;unfold sgn at hc
  split at hc
  ·exact .inr (.inl (List.mem_singleton.mp hc))
  ·exact .inl (List.mem_singleton.mp hc)
 ·rw[List.mem_singleton.mp z] at hc;exact .inr (.inr (AN (h p hp) c hc))
theorem Fs{P:Int}{p:aw}(h:p.1.length<=4):∀c∈hd0 P p,c=45\/c=42\/okc c:=λc hc=>by
 rcases List.mem_append.mp hc with z|z
 ·split at z
  ·exact .inl (List.mem_singleton.mp z)
  ·exact nomatch z
 ·exact .inr (AN h c z)
theorem C7{P:Int}{p:aw}{r:List aw}(h:∀q∈p::r,q.1.length<=4):∀w∈hd0 P p::fnd P r,∀c∈w,c=43\/c=45\/c=42\/okc c:=λw hw c hc=>by
 rcases List.mem_cons.mp hw with z|z
 ·rw[z] at hc;exact .inr (Fs (h p (by simp)) c hc)
 ·exact E6 (λq hq=>h q (by simp[hq])) w z c hc
theorem AX{m n:Nat}(hm:(az m).length<=640)(h:az m=az n):m=n:=by
 have h1:=oQ hm;rw[h,oQ (by rw[<- h];exact hm)] at h1
 injection h1 with h1
 omega
theorem jp(d:Nat):∀{w:List Nat} {ws:List (List Nat)},w≠[]->(aT d (w::ws))[0]? = w[0]?
 |[],_,h=>absurd rfl h
 |c::w,[],_=>rfl
 |c::w,v::ws,_=>rfl
theorem Eb{P:Int}{a:Int×Int}:∃c r,shN P a=c::r/\48<=c/\c<=57:=by
 cases hf:az a.1.natAbs with
 |nil=>exact absurd hf (qP _)
 |cons c r=>
  have hc:=cJ (n:=a.1.natAbs) (c:=c) (by rw[hf];simp)
  unfold shN;rw[hf]
  split
  ·exact⟨c,_,rfl,hc⟩
  ·exact⟨c,r,rfl,hc⟩
theorem Bk{P:Int}{p:aw}{r:List aw}(op:OkN P p.2)(zp:Sz 110 p.2)(k4:p.1.length<=4)(k0:∀e∈p.1,0<=e)(hz:nz p=true):shS P (p::r)≠[48]:=by
 intro h;rw[ie] at h;have hlen:(hd0 P p::fnd P r).length=1\/3<=(hd0 P p::fnd P r).length:=by
  cases r with
  |nil=>exact .inl rfl
  |cons q t=>exact .inr (by show 3<=(sgn P q.2::prt P q::fnd P t).length+1;simp)
 cases r with
 |cons q t=>
  have e:aT 32 (hd0 P p::fnd P (q::t))=hd0 P p++32::aT 32 (fnd P (q::t)):=rfl;rw[e] at h;have:(32:Nat)∈([48]:List Nat):=by rw[<- h];simp
  simp at this
 |nil=>
  have h:hd0 P p=[48]:=h;unfold hd0 at h
  split at h
  ·have:(45:Nat)∈([48]:List Nat):=by rw[<- h];simp
   simp at this
  ·rename_i hc;rw[nil_append] at h;have ea:f9 P p.2=p.2:=by unfold f9;rw[if_neg hc]
   unfold prt at h;rw[ea] at h;unfold fac at h
   split at h
   ·have h:shN P p.2=[48]:=h;have e48:az 0=[48]:=by decide +kernel
    have hf:az p.2.1.natAbs=[48]/\(P=0->p.2.2=1):=by
     unfold shN at h
     split at h
     ·have:(47:Nat)∈([48]:List Nat):=by rw[<- h];simp
      simp at this
     ·rename_i h2;exact⟨h,λz=>Decidable.byContradiction λw=>h2 ⟨z,w⟩⟩
    have l1:(az p.2.1.natAbs).length<=640:=by rw[hf.1];decide
    have n0:=AX l1 (hf.1.trans e48.symm);have e1:p.2.1=0:=by omega
    have e2:p.2.2=1:=by
     rcases op with⟨h0,_⟩|⟨_,_,_,h1⟩
     ·exact hf.2 h0
     ·exact h1
    have hz:¬p.2=(0,1):=by unfold nz at hz;exact of_decide_eq_true hz
    exact hz (Prod.ext e1 e2)
   ·rename_i hs
    split at h
    ·cases hw:wds 0 p.1 with
     |nil=>exact absurd hw (i8 k0 hs)
     |cons w ws=>
      obtain⟨j,e,_,h2,_,_,rfl⟩:=eK (B:=0) (w:=w) (k:=0) (r:=p.1) (by rw[hw];simp)
      have g:=jp 42 (w:=shW j e) (ws:=ws) (by unfold shW;simp)
      rw[hw] at h;rw[h] at g;have g:(48:Nat)=eU j:=by
       have g:some (48:Nat)=some (eU j):=g;injection g
      have:=ux (j:=j) (by omega)
      omega
    ·have g:=iE 42 (shN P p.2) (i8 k0 hs (j:=0));rw[g] at h;have:(42:Nat)∈([48]:List Nat):=by rw[<- h];simp
     simp at this
def prs:Nat->List Int->List (Nat×Int)
 |_,[]=>[]
 |k,e::r=>if 0<e then(k,e)::prs (k+1) r else prs (k+1) r
def mI(v:List Int)(x:Nat×Int):List Int:=v.set x.1 (v.getD x.1 0+x.2)
theorem pO{lo:Int}{n:Nat}{src:List (Option Nat)}{te:TE}{Q:VK}{σ rest:L2.St}{H0:Hp}(hσ:dC src σ=none::rest)(f:Nat->V)(hn:n<=60)
  (turn:∀i H (R:VK),i<n->FX H0 H->(∀H2,FX H H2->R (f i) H2)->te (some (.int (lo+i))::rest) H R)
  (hd:∀acc H,H0 acc=none->FX H0 H->H acc=some (.lst ((List.range n).map f))->Q (.ref acc) H) :
  da (Itr lo n) src (di 0) oh te σ H0 Q:=by
 refine fe (n:=n) (σ0:=none::rest) hσ (λacc i zs σ H=>(∃u,σ=u::rest)/\FX H0 H/\zs=(List.range i).map f) (by rw[sizeLine_eq];omega) (λacc hacc=>⟨⟨none,rfl⟩,FX.new hacc,rfl⟩) ?_ ?_ ?_ ?_
 ·rintro acc i zs σ H hacc hi hz _;exact hi
 ·rintro acc zs σ H hacc hz _;exact Nat.le_refl _
 ·rintro acc i zs σ H x H' hacc hi hz hzl ⟨⟨u,rfl⟩,sm,rfl⟩ ⟨rfl,rfl⟩;refine turn i _ _ hi sm λH2 s2=>?_
  refine⟨_,s2 _ _ hz,by rw[length_map,length_range,sizeLine_eq];omega,_,FY,by rw[length_append,length_map,length_range];exact Nat.le_refl _,⟨_,rfl⟩,(sm.trans s2).put hacc,?_⟩
  rw[range_succ,map_append]
  rfl
 ·rintro acc zs σ H hacc hz hzl ⟨_,sm,rfl⟩;exact hd acc H hacc sm hz
theorem iZ:FZ ["self", "one", "other"] ["self", "one", "other"] (ah bN):=.i
theorem wz{f CF Hl:Addr}{fd:FuncData}(F:Fun K "times" "Fractions.times" bN f fd)(Lj:fW P w K mg base 2 CF "of" [] (dZ Hl)):F2 P w K mg base CX0 3 f fd ["self", "one", "other"] (lX CF λa b=>(a.1*b.1,a.2*b.2)):=by
 refine F.o iZ λ_ _ _ _ H _ Q _ hr h=>?_
 ·obtain⟨x,dx,s,t,a,b,rfl,hx,hs,ht,ha,hb,sa,sb,q⟩:=h;refine⟨_,(aj (au (de Lj hr.m cj (pv 0) (aa (aH ju (aG (aL K rfl) (pv 1) ag (λ_ _=>rfl)) (aG (aL K rfl) (pv 2) ag (λ_ _=>rfl))) (aa (aH ju (aG (aL K rfl) (pv 1) ag (λ_ _=>rfl)) (aG (aL K rfl) (pv 2) ag (λ_ _=>rfl))) ae))))),?_⟩
  refine⟨_,rfl,x,dx,[],rfl,hx,rfl,_,rfl,s,_,_,_,rfl,rfl,SqT.of hs,rfl,_,rfl,t,_,_,_,rfl,rfl,SqT.of ht,rfl,_,_,rfl,rfl,se sa.1 sb.1,?_⟩;refine⟨_,rfl,s,_,_,_,rfl,rfl,SqT.of hs,rfl,_,rfl,t,_,_,_,rfl,rfl,SqT.of ht,rfl,_,_,rfl,rfl,se sa.2 sb.2,_,_,_,rfl,λz=>absurd z (jL ha hb),λ_=>⟨zI sa.2 sb.2,q⟩⟩
theorem mG:FZ ["self", "one", "other"] ["self", "one", "other"] (ah cL):=.i
theorem xf{f CR:Addr}{fd:FuncData}(F:Fun K "times" "Rests.times" cL f fd)(cl:Cls K CR)(nM:Gk K CR "modulus"):F2 P w K mg base CX0 1 f fd ["self", "one", "other"] (mP CR (· * ·)):=by
 refine F.o mG λ_ _ _ _ H _ Q _ hr h=>?_
 ·obtain⟨x,dx,p,a,b,rfl,hx,hp,hp9,a0,a1,b0,b1,q⟩:=h;refine⟨_,(aj (au (aH cP (aH dE (pv 1) (pv 2)) (gJ (pv 0) rfl)))),?_⟩;exact⟨_,rfl,_,rfl,_,_,rfl,rfl,.inl ⟨by omega,by omega⟩,_,rfl,x,CR,dx,_,_,rfl,hx,cl,nM,rfl,_,_,rfl,rfl,hp,q⟩
def Gc(P L:Int)(ps:List aw):Prop:=Canon P L 110 ps/\L<=4/\ps.length<=60/\∀p∈ps,∀e∈p.1,e<=1000000000000
theorem Gc.mono{P L:Int}{ps:List aw}(h:Gc P L ps):∀p∈ps,mO P p:=λp hp=>by
 obtain⟨h1,h2,h3,h4,h5⟩:=h.1.2 p hp;exact⟨h1,h2,by have:=h.2.1;omega,λe he=>⟨h5 e he,h.2.2.2 p hp e he⟩⟩
theorem Dl{P:Int}{ps:List aw}(hn:ps.length<=60)(h:∀p∈ps,mO P p):(shS P ps).length<=60000:=by
 cases ps with
 |nil=>show 1<=60000;decide
 |cons p r=>
  obtain⟨f1,f2⟩:=Au (P:=P) (ps:=r) λq hq=>h q (by simp[hq])
  have wB:∀w∈prt P p::fnd P r,w.length<=460:=λw hw=>by
   rcases List.mem_cons.mp hw with z|z
   ·rw[z];exact zU (h p (by simp))
   ·exact f2 w z
  have wl:(prt P p::fnd P r).length<=121:=by rw[length_cons,f1];rw[length_cons] at hn;omega
  have lj:=dj 32 _ wB;have lj2:(prt P p::fnd P r).length*(460+1)<=121*461:=Nat.mul_le_mul wl (Nat.le_refl _);have e:shS P (p::r)=(if P=0/\p.2.1<0 then[45] else[])++aT 32 (prt P p::fnd P r):=rfl
  rw[e,length_append]
  split
  ·show 1+_<=_;omega
  ·show 0+_<=_;omega
section
open PySem.StrLaws PySem.Builtin.Str
def two(c d:Nat):Str:=⟨#[c,d]⟩
theorem xK(x:Str)(c d i:Nat):(i+(two c d).length<=x.length/\subAt x (two c d) i=true)↔(x.cps.toList[i]? = some c/\x.cps.toList[i+1]? = some d):=by
 have hl:x.cps.toList.length=x.length:=by simp[Str.length]
 rw[subAt_eq];show(i+2<=x.length/\((x.cps.toList.drop i).take 2==[c,d])=true)↔_;rw[beq_iff_eq]
 constructor
 ·rintro⟨h1,h2⟩;have e1:x.cps.toList[i]? = ((x.cps.toList.drop i).take 2)[0]?:=by simp
  have e2:x.cps.toList[i+1]? = ((x.cps.toList.drop i).take 2)[1]?:=by simp
  rw[e1,e2,h2];exact⟨rfl,rfl⟩
 ·rintro⟨h1,h2⟩;obtain⟨l1,e1⟩:=List.getElem?_eq_some_iff.mp h1;obtain⟨l2,e2⟩:=List.getElem?_eq_some_iff.mp h2;refine⟨by omega,?_⟩
  rw[drop_eq_getElem_cons l1,drop_eq_getElem_cons l2,e1,e2]
  rfl
def aN(c d:Nat):List (List Nat)->List Nat
 |[]=>[]
 |[w]=>w
 |w::v::ws=>w++c::d::aN c d (v::ws)
theorem pb{f:Nat->Bool}:∀(m a k:Nat),(∀i,a<=i->i<a+m->f i=false)->m<=k->(List.range' a k).filter f=(List.range' (a+m) (k-m)).filter f
 |0,a,k,_,_=>rfl
 |m+1,a,0,_,h=>absurd h (by omega)
 |m+1,a,k+1,h,hk=>by
  rw[range'_succ,filter_cons,if_neg (by rw[h a (Nat.le_refl _) (by omega)];decide),pb m (a+1) k (λi h1 h2=>h i (by omega) (by omega)) (by omega)]
  congr 2
  ·omega
  ·omega
theorem mE(c d:Nat):∀ws:List (List Nat),Txt.join (two c d) (ws.map tx)=tx (aN c d ws):=λws=>by
 unfold Txt.join;rw[StrLaws.glued_eq_join]
 induction ws with
 |nil=>rfl
 |cons w r ih=>
  cases r with
  |nil=>rfl
  |cons v r=>
   show tx w++two c d++Str.join (two c d) (tx v::r.map tx)=tx (w++c::d::aN c d (v::r));have ih:Str.join (two c d) (tx v::r.map tx)=tx (aN c d (v::r)):=ih;rw[ih,show two c d=tx [c,d] from rfl,bq,bq,append_assoc]
   rfl
end
def jn:Sp:=λvs H Q _=>∃i:Int,vs=[.int i]/\Q (.bl true) H
def qk:Sp:=λvs H Q _=>∃(t:Addr) (a b:V),vs=[.ref t]/\H t=some (.tup [a,b])/\Q (.bl true) H
def vF:Sp:=λvs H Q _=>∃(k:Addr) (es:List Int),vs=[.ref k,.int es.length]/\H k=some (.tup (es.map V.int))/\es.length<=60/\(∀e∈es,0<=e)/\∀H',FX H H'->Q (.bl true) H'
def qG:Sp:=λvs H Q _=>∃(x:V) (t:Addr) (a b:Int),vs=[x,.ref t]/\H t=some (.tup [.int a,.int b])/\0<b/\Int.gcd a b=1/\Q (.bl true) H
def qH(CR:Addr):Sp:=λvs H Q _=>∃(x dx:Addr) (p a:Int),vs=[.ref x,.int a]/\H x=some (.ins CR dx [("modulus",.int p)])/\0<=a/\a<p/\Q (.bl true) H
def vw(CF CR CG:Addr):Sp:=λvs H Q _=>∃(g x:Addr) (P L:Int) (v:V) (p:aw),vs=[.ref g,v]/\F0 P/\cF CG H g x L/\F7 CF CR H x P/\PartR P H v p/\OkN P p.2/\nz p=true/\(p.1.length:Int)=L/\L<=4/\(∀e∈p.1,0<=e)/\∀H',FX H H'->Q (.bl true) H'
def sO(CF CR CG:Addr):Sp:=λvs H Q _=>∃(g x l:Addr) (P L:Int) (ts:List V) (ps:List aw),vs=[.ref g,.ref l]/\F0 P/\cF CG H g x L/\F7 CF CR H x P/\H l=some (.lst ts)/\F8 P H ts ps/\Gc P L ps/\∀H',FX H H'->Q (.bl true) H'
theorem wQ{CF CR x:Addr}{P:Int}{u:V}{a:Int×Int}{H:Hp}{σ:L2.St}{R:VK}{ta:TE}{t:TA}(hN:F7 CF CR H x P)(h1:At P H u a)(o1:OkN P a)(ha:∀Z:VK,Z (.ref x) H->ta σ H Z)(ht:∀Z:List V->Hp->Prop,Z [u] H->t σ H Z)(hR:R (.bl true) H) :
  Cp (ig CF "is_number" qG [] E0 ta t) (ig CR "is_number" (qH CR) [] E0 ta t) σ H R:=by
 rcases hN with⟨h0,dx,e⟩|⟨h0,dx,e⟩
 ·rcases h1 with⟨_,s,rfl,hs⟩|⟨z,_⟩
  ·rcases o1 with⟨_,hd,hg⟩|⟨z,_⟩
   ·exact .inl (ha _ ⟨x,dx,[],rfl,e,rfl,ht _ ⟨.ref x,s,a.1,a.2,rfl,hs,hd,hg,hR⟩⟩)
   ·exact absurd h0 z
  ·exact absurd h0 z
 ·rcases h1 with⟨z,_⟩|⟨_,rfl,_⟩
  ·exact absurd z h0
  ·rcases o1 with⟨z,_⟩|⟨_,x0,x1,_⟩
   ·exact absurd z h0
   ·exact .inr (ha _ ⟨x,dx,_,rfl,e,jT (by decide +kernel) _,ht _ ⟨x,dx,P,a.1,rfl,e,x0,x1,hR⟩⟩)
theorem AJ(ts:List V):jH ts (some 1) none=ts.drop 1:=by
 unfold jH HT.sIx;cases ts with
 |nil=>rfl
 |cons a r=>
  have e1:¬((1:Int)<0):=by decide
  simp[e1]
theorem pL(zs:List V):((zs.map λ_=>true).all id)=true:=by
 rw[all_eq_true];intro b hb;obtain⟨_,_,rfl⟩:=List.mem_map.mp hb
 rfl
theorem iQ:FZ ["thing"] ["thing"] (ah dG):=.i
theorem xP{f:Addr}{fd:FuncData}(F:Fun K "is_whole_number" "is_whole_number" dG f fd)(T:Blt mg):F2 P w K mg base CX0 1 f fd ["thing"] jn:=by
 refine F.o iQ λ_ _ _ _ H _ Q _ hr h=>?_
 ·obtain⟨i,rfl,q⟩:=h;refine⟨_,(aj (au (df (hJ K T (pv 0) T.int fm) (du (DI (hJ K T (pv 0) T.bool uN)))))),?_⟩;exact⟨_,rfl,_,true,.int _,rfl,_,rfl,bC ⟨_,rfl,_,false,.int _,rfl,_,rfl,q⟩⟩
theorem t8:FZ ["thing"] ["thing"] (ah jQ):=.i
theorem AU{f:Addr}{fd:FuncData}(F:Fun K "is_pair" "is_pair" jQ f fd)(T:Blt mg):F2 P w K mg base CX0 1 f fd ["thing"] qk:=by
 refine F.o t8 λ_ _ _ _ H _ Q _ hr h=>?_
 ·obtain⟨t,a,b,rfl,ht,q⟩:=h;refine⟨_,(aj (au (df (hJ K T (pv 0) T.tuple gZ) (du (bF ba (cG K T (pv 0)) ag (ao _)))))),?_⟩;exact⟨_,rfl,_,true,.tup ht,rfl,_,rfl,bC ⟨_,rfl,t,_,rfl,.inr (SqT.of ht),rfl,q⟩⟩
theorem oG:FZ ["thing", "letters"] ["thing", "letters"] (ah gw):=.i
theorem AO{f:Addr}{fd:FuncData}(F:Fun K "is_product" "is_product" gw f fd)(T:Blt mg)(Hr:FnB P w K mg base 1 "is_whole_number" jn):F2 P w K mg base CX0 2 f fd ["thing", "letters"] vF:=by
 refine F.o oG λ_ _ _ _ H _ Q _ hr h=>?_
 ·obtain⟨k,es,rfl,hk,hl,hn,q⟩:=h;refine⟨_,(af (aW (PW.pt (fI (cB (bH (hJ K T (pv 0) T.tuple gZ))) (et (aA iz (cG K T (pv 0)) (pv 1) (ao _)))))
(aj (au fN))
aF)
(aj (au (fM K T (by exact cD (N:=["often"]) (src:=[none]) rfl rfl rfl (by exact(Co K rfl (pv 0))) (λ_ _ _=>by exact⟨by exact(cv (i:=0) nd_3 rfl rfl),bi,by exact(df (aR Hr hr.m (aa (pv 0) ae)) (du (bF Bg (pv 0) ag (ao _))))⟩)) false)))),?_⟩
  refine⟨_,rfl,_,true,.tup hk,rfl,_,rfl,bS ?_⟩;refine⟨_,rfl,k,_,rfl,.inr (SqT.of hk),_,rfl,rfl,_,rfl,?_⟩;refine vp (by rw[length_map]) ?_
  refine⟨_,rfl,k,rfl,⟨_,SqT.of hk⟩,Ag (λ_=>.bl true) rfl (SqT.of hk) (by rw[length_map,sizeLine_eq];omega) (λi x H1 R hx sm hR=>?_) (λacc H1 hacc sm hl1=>?_)⟩
  ·obtain⟨z,hz,rfl⟩:=iI hx;refine⟨_,rfl,z,rfl,_,rfl,bC ⟨_,rfl,_,_,rfl,rfl,?_⟩⟩;have e:decide (0<=z)=true:=decide_eq_true (hn z (mem_of_getElem? hz));show R (V.bl (decide (0<=z))) H1;rw[e];exact hR
  ·rw[show(es.map V.int).map (λ_=>V.bl true)=((es.map V.int).map λ_=>true).map V.bl by simp] at hl1
   refine⟨acc,_,rfl,fc (SqL.of hl1),?_⟩;rw[pL];exact q H1 sm
theorem gA:FZ ["self", "thing"] ["self", "thing"] (ah bc):=.i
theorem BG{f:Addr}{fd:FuncData}(F:Fun K "is_number" "Fractions.is_number" bc f fd)(JF:FnB P w K mg base 1 "is_pair" qk)(Hr:FnB P w K mg base 1 "is_whole_number" jn)(Hv:FnB P w K mg base 1 "greatest_divisor" zA):F2 P w K mg base CX0 2 f fd ["self", "thing"] qG:=by
 refine F.o gA λ_ _ _ _ H _ Q _ hr h=>?_
 ·obtain⟨x,t,a,b,rfl,ht,hb,hg,q⟩:=h;refine⟨_,(af (aW (PW.pt (fI (cB (bH (aR JF hr.m (aa (pv 1) ae)))) (fI (cB (bH (aR Hr hr.m (aa (aG (aL K rfl) (pv 1) ag (λ_ _=>rfl)) ae)))) (et (cB (bH (aR Hr hr.m (aa (aG (aL K rfl) (pv 1) ag (λ_ _=>rfl)) ae))))))))
(aj (au fN))
aF)
(aj (au (df (bF Bg (aG (aL K rfl) (pv 1) ag (λ_ _=>rfl)) ag (ao _)) (du (bF ba (aR Hv hr.m (aa (aG (aL K rfl) (pv 1) ag (λ_ _=>rfl)) (aa (aG (aL K rfl) (pv 1) ag (λ_ _=>rfl)) ae))) ag (ao _))))))),?_⟩
  refine⟨_,rfl,t,_,_,rfl,ht,_,rfl,bS ?_⟩;refine⟨_,rfl,t,_,_,_,rfl,rfl,SqT.of ht,rfl,a,rfl,_,rfl,bS ?_⟩;refine⟨_,rfl,t,_,_,_,rfl,rfl,SqT.of ht,rfl,b,rfl,_,rfl,bS ?_⟩;refine⟨_,rfl,t,_,_,_,rfl,rfl,SqT.of ht,rfl,_,_,rfl,rfl,_,rfl,?_⟩;rw[decide_eq_true (show b ≥ 1 by omega)]
  refine bC ⟨_,rfl,t,_,_,_,rfl,rfl,SqT.of ht,rfl,_,rfl,t,_,_,_,rfl,rfl,SqT.of ht,rfl,a,b,rfl,rfl,?_⟩;rw[hg];exact q
theorem i5:FZ ["self", "thing"] ["self", "thing"] (ah bM):=.i
theorem CA{f CR:Addr}{fd:FuncData}(F:Fun K "is_number" "Rests.is_number" bM f fd)(cl:Cls K CR)(nM:Gk K CR "modulus")(Hr:FnB P w K mg base 1 "is_whole_number" jn):F2 P w K mg base CX0 2 f fd ["self", "thing"] (qH CR):=by
 refine F.o i5 λ_ _ _ _ H _ Q _ hr h=>?_
 ·obtain⟨x,dx,p,a,rfl,hx,h0,h1,q⟩:=h;refine⟨_,(aj (au (df (aR Hr hr.m (aa (pv 1) ae)) (df (bF sj ag (pv 1) (ao _)) (du (bF gO (pv 1) (gJ (pv 0) rfl) (ao _))))))),?_⟩;refine⟨_,rfl,a,rfl,_,rfl,bC ⟨_,rfl,_,_,rfl,rfl,_,rfl,?_⟩⟩;rw[decide_eq_true h0];refine bC ⟨_,rfl,_,rfl,x,CR,dx,_,_,rfl,hx,cl,nM,rfl,_,_,rfl,rfl,?_⟩;show Q (V.bl (decide (a<p))) H;rw[decide_eq_true h1];exact q
theorem um:FZ ["ring", "thing"] ["ring", "thing"] (ah j8):=.i
theorem zH{f CF CR CG Hl:Addr}{fd:FuncData}(F:Fun K "is_part" "is_part" j8 f fd)(JF:FnB P w K mg base 1 "is_pair" qk)(Kx:FnB P w K mg base 2 "is_product" vF)(Hx:MtB P w K mg base 1 CG "numbers" (iq CG))(J5:MtB P w K mg base 1 CG "letters" (jV CG))(MtF:MtB P w K mg base 2 CF "is_number" qG)(MtR:MtB P w K mg base 2 CR "is_number" (qH CR))(HN:fW P w K mg base 2 CF "of" [.int 1] (dZ Hl))(HP:fW P w K mg base 2 CR "of" [.int 1] (fA CR Hl)):F2 P w K mg base CX0 3 f fd ["ring", "thing"] (vw CF CR CG):=by
 refine F.o um λ_ _ _ _ H _ Q _ hr h=>?_
 ·obtain⟨g,x,P,L,v,p,rfl,hP,hG,hN,hv,op,hz,hL,hL4,hn,q⟩:=h;have hB:=hP.b;refine⟨_,(af (aW (PW.pt (fI (cB (bH (aR JF hr.m (aa (pv 1) ae)))) (et (cB (bH (aR Kx hr.m (aa (aG (aL K rfl) (pv 1) ag (λ_ _=>rfl)) (aa (bD J5 hr.m (pv 0)) ae))))))))
(aj (au fN))
aF)
(aj (au (df (dJ (pD MtF hr.m (bD Hx hr.m (pv 0)) (aa (aG (aL K rfl) (pv 1) ag (λ_ _=>rfl)) ae)) (pD MtR hr.m (bD Hx hr.m (pv 0)) (aa (aG (aL K rfl) (pv 1) ag (λ_ _=>rfl)) ae))) (du (bF (B8 K rfl hr.units) (aG (aL K rfl) (pv 1) ag (λ_ _=>rfl)) (dJ (de HN hr.m cj (bD Hx hr.m (pv 0)) (aa ag ae)) (de HP hr.m cj (bD Hx hr.m (pv 0)) (aa ag ae))) (ao _))))))),?_⟩
  obtain⟨dx,hg⟩:=id hG;obtain⟨t,k,u,rfl,ht,hk,hu⟩:=hv;subst hL;refine⟨_,rfl,t,_,_,rfl,ht,_,rfl,bS ?_⟩;refine⟨_,rfl,t,_,_,_,rfl,rfl,SqT.of ht,rfl,_,rfl,g,dx,_,rfl,hg,rfl,g,x,_,rfl,hG,k,p.1,rfl,hk,by omega,hn,λH1 s1=>⟨_,rfl,bS ?_⟩⟩
  have ht1:=s1 _ _ ht;have hg1:=s1 _ _ hg;have hN1:=hN.mono λo e=>s1 _ _ e
  refine wQ hN1 (hu.same s1) op (λZ z=>⟨_,rfl,g,dx,_,rfl,hg1,rfl,g,x,_,rfl,⟨dx,hg1⟩,z⟩) (λZ z=>⟨_,rfl,t,_,_,_,rfl,rfl,SqT.of ht1,rfl,z⟩) ?_
  refine⟨_,rfl,bC ⟨_,rfl,t,_,_,_,rfl,rfl,SqT.of ht1,rfl,?_⟩⟩;refine pG hP hN1 (a:=0) (vs:=[.int 0]) (dvs:=[.int 1]) rfl (λZ z=>⟨_,rfl,g,dx,_,rfl,hg1,rfl,g,x,_,rfl,⟨dx,hg1⟩,z⟩) (λZ z=>z) λr H2 s2 a2=>?_
  rw[uX] at a2;refine⟨dN P p.2,dN P (0,1),nh ((hu.same s1).same s2),nh a2,dY _ _,dY _ _,?_⟩;unfold nz at hz;rw[qo op (mm hB.1 hB.2.2),decide_eq_false (of_decide_eq_true hz)];exact q H2 (s1.trans s2)
theorem wJ:FZ ["ring", "thing"] ["ring", "thing"] (ah mY):=.i
theorem Ck{f CF CR CG:Addr}{fd:FuncData}(F:Fun K "is_sum" "is_sum" mY f fd)(T:Blt mg)(MJ:FnB P w K mg base 3 "is_part" (vw CF CR CG))(Lv:FnB P w K mg base 3 "is_above" (vx K)):F2 P w K mg base CX0 4 f fd ["ring", "thing"] (sO CF CR CG):=by
 refine F.o wJ λ_ _ _ _ H _ Q _ hr h=>?_
 ·obtain⟨g,x,l,P,L,ts,ps,rfl,hP,hG,hN,hl,hps,hw,q⟩:=h;refine⟨_,(af (aW (PW.pt (fI (cB (bH (hJ K T (pv 1) T.list gI))) (et (cB (bH (fM K T (by exact cD (N:=["part", "ring"]) (src:=[none,some 0]) rfl rfl rfl (by exact(bI K rfl (pv 1))) (λ_ _ _=>by exact⟨by exact(cv (i:=0) nd_4 rfl rfl),bi,by exact(aR MJ hr.m (aa (pv 1) (aa (pv 0) ae)))⟩)) false))))))
(aj (au fN))
aF)
(aj (au (fM K T (by exact cD (N:=["part", "behind"]) (src:=[none,none]) rfl rfl rfl (by exact(qe K false false rfl rfl T.zip (aa (pv 1) (aa (cU (bu K rfl) (pv 1) (cE ag) bE) ae)))) (λ_ _ _=>by exact⟨by exact(iF K (i:=0) (j:=1) rfl rfl nd_5 rfl rfl rfl rfl),bi,by exact(aR Lv hr.m (aa (aG (aL K rfl) (pv 0) ag (λ_ _=>rfl)) (aa (aG (aL K rfl) (pv 1) ag (λ_ _=>rfl)) ae)))⟩)) false)))),?_⟩
  obtain⟨dx,hg⟩:=id hG;have lt:ts.length=ps.length:=Paired.length hps;have hn:=hw.2.2.1;refine⟨_,rfl,_,true,.lst hl,rfl,_,rfl,bS ?_⟩;refine⟨_,rfl,l,rfl,⟨_,SqL.of hl⟩,wA (λ_=>.bl true) rfl (SqL.of hl) (by rw[sizeLine_eq];omega) (λi v H1 R hx sm hR=>?_) (λacc H1 hacc sm hl1=>?_)⟩
  ·obtain⟨p,ep,hp⟩:=hps.at_ hx;obtain⟨c1,c2,c3,c4,c5⟩:=hw.1.2 p (mem_of_getElem? ep);exact⟨_,rfl,_,rfl,g,x,P,L,v,p,rfl,hP,⟨dx,sm _ _ hg⟩,hN.mono λo e=>sm _ _ e,hp.mono λt xs e=>sm _ _ e,c1,c3,c4,hw.2.1,c5,λH2 s2=>hR H2 s2⟩
  ·rw[show ts.map (λ_=>V.bl true)=(ts.map λ_=>true).map V.bl by rw[map_map];rfl] at hl1
   refine⟨acc,_,rfl,fc (SqL.of hl1),_,rfl,?_⟩;rw[pL];refine bS ⟨_,rfl,_,rfl,_,rfl,l,ts,rfl,SqL.of (sm _ _ hl),λl2 n2=>?_⟩
   rw[AJ];generalize e0:upd H1 l2 _=H2;obtain⟨s2,hl2⟩:=un e0 n2;clear e0;have s12:=sm.trans s2;refine⟨l,l2,rfl,⟨_,fc (SqL.of (s12 _ _ hl))⟩,⟨_,fc (SqL.of hl2)⟩,wO (λ_ _=>.bl true) rfl (fc (SqL.of (s12 _ _ hl))) (fc (SqL.of hl2)) (by rw[sizeLine_eq];omega) (λi v v' H3 R hx hy s3 hR=>?_) (λacc H3 hacc s3 hl3=>?_)⟩
   ·rw[List.getElem?_drop] at hy;obtain⟨r,er,t,k,u,rfl,h1,h2,_⟩:=hps.at_ hx;obtain⟨r',er',t',k',u',rfl,h1',h2',_⟩:=hps.at_ hy;have s:=s12.trans s3;refine⟨_,rfl,t,_,_,_,rfl,rfl,SqT.of (s _ _ h1),rfl,_,rfl,t',_,_,_,rfl,rfl,SqT.of (s _ _ h1'),rfl,k,k',r.1,r'.1,rfl,SqT.of (s _ _ h2),SqT.of (s _ _ h2'),λH4 s4=>?_⟩
    have hgt1:hgt r.1.sum r.1 r'.1.sum r'.1=true:=by
     rw[BF];obtain⟨i1,e1⟩:=List.getElem?_eq_some_iff.mp er;obtain⟨i2,e2⟩:=List.getElem?_eq_some_iff.mp er';have:=List.pairwise_iff_getElem.mp hw.1.1 i (1+i) i1 i2 (by omega)
     rw[e1,e2] at this;exact this
    rw[hgt1];exact hR H4 s4
   ·rw[show List.zipWith (λ_ _=>V.bl true) ts (ts.drop 1)=(List.zipWith (λ_ _=>true) ts (ts.drop 1)).map V.bl by rw[List.map_zipWith]] at hl3
    refine⟨acc,_,rfl,fc (SqL.of hl3),?_⟩;have ea:(List.zipWith (λ_ _=>true) ts (ts.drop 1)).all id=true:=by
     rw[all_eq_true];intro b hb;obtain⟨i,hi,rfl⟩:=List.mem_iff_getElem.mp hb;rw[List.getElem_zipWith]
     rfl
    rw[ea];exact q H3 (s12.trans s3)
def Rz(CT:Addr)(E:XK)(H:Hp):Prop:=∀H',FX H H'->E (.ref CT) none H'
theorem Rz.go{CT:Addr}{E:XK}{H H':Hp}(h:Rz CT E H)(s:FX H H'):Rz CT E H':=λH2 s2=>h H2 (s.trans s2)
def rF(l:List Nat):Option Nat:=if (!l.isEmpty&&l.all cX)=true then some (PySem.NumText.digitsVal l) else none
def lN(n:Nat)(l:List Nat):Option Nat:=(List.range n).find? λj=>l==[eU j]
def rR(CT:Addr):Sp:=λvs H Q E=>∃l:List Nat,vs=[.str (tx l)]/\(∀c∈l,c<128)/\l.length<=600/\(rF l=none->Rz CT E H)/\∀n,rF l=some n->∀H',FX H H'->Q (.int (n:Nat)) H'
def lC(CT:Addr):Sp:=λvs H Q E=>∃x y:Str,vs=[.str x,.str y]/\(x=y->Q .non H)/\(x≠y->E (.ref CT) none H)
def uh(CT CG:Addr):Sp:=λvs H Q E=>∃(g x:Addr) (L:Int) (l:List Nat),vs=[.ref g,.str (tx l)]/\cF CG H g x L/\0<=L/\L<=4/\(lN L.toNat l=none->E (.ref CT) none H)/\∀j,lN L.toNat l=some j->Q (.int (j:Nat)) H
def cu(c:Nat):List Nat->List Nat×Option (List Nat)
 |[]=>([],none)
 |x::r=>if x=c then([],some r) else(x::(cu c r).1,(cu c r).2)
theorem ko{c:Nat}:∀{l:List Nat},(cu c l).2=none->c∉l/\(cu c l).1=l
 |[],_=>⟨by simp,rfl⟩
 |x::r,h=>by
  unfold cu at h ⊢
  by_cases e:x=c
  ·rw[if_pos e] at h;cases h
  ·rw[if_neg e] at h ⊢;obtain⟨h1,h2⟩:=ko (l:=r) h;refine⟨λz=>?_,by rw[h2]⟩
   rcases List.mem_cons.mp z with z|z
   ·exact e z.symm
   ·exact h1 z
theorem iB{c:Nat}:∀{l b:List Nat},(cu c l).2=some b->c∉(cu c l).1/\l=(cu c l).1++c::b
 |[],_,h=>by cases h
 |x::r,b,h=>by
  unfold cu at h ⊢
  by_cases e:x=c
  ·rw[if_pos e] at h ⊢;have h:some r=some b:=h;cases h;exact⟨by simp,by rw[e];rfl⟩
  ·rw[if_neg e] at h ⊢;obtain⟨h1,h2⟩:=iB (l:=r) h;refine⟨λz=>?_,congrArg (x :: ·) h2⟩
   rcases List.mem_cons.mp z with z|z
   ·exact e z.symm
   ·exact h1 z
def fQ(c:Nat)(o:Option (List Nat)):Str×Str:=match o with
 |none=>(Str.empty,Str.empty)
 |some b=>(one c,tx b)
theorem vL(c:Nat)(l:List Nat):Txt.partition (tx l) (one c)=(tx (cu c l).1,fQ c (cu c l).2):=by
 cases h:(cu c l).2 with
 |none=>
  obtain⟨h1,h2⟩:=ko h;rw[wS h1,h2]
  rfl
 |some b=>
  obtain⟨h1,h2⟩:=iB h;exact wq (x:=tx l) h2 h1
theorem hU{c:Nat}{l b:List Nat}(h:(cu c l).2=some b):(cu c l).1.length+b.length<l.length:=by
 have e:=congrArg List.length (iB h).2;rw[length_append,length_cons] at e;omega
theorem nI{c:Nat}{l:List Nat}:(∀d∈(cu c l).1,d∈l)/\(cu c l).1.length<=l.length/\∀b,(cu c l).2=some b->∀d∈b,d∈l:=by
 cases h:(cu c l).2 with
 |none=>
  rw[(ko h).2];exact⟨λd hd=>hd,Nat.le_refl _,λb hb=>by cases hb⟩
 |some b=>
  have e:=(iB h).2;refine⟨λd hd=>by rw[e];exact mem_append_left _ hd,by have:=hU h;omega,λb' hb d hd=>?_⟩
  cases hb;rw[e];exact mem_append_right _ (mem_cons_of_mem _ hd)
theorem qN:∀(l:List Nat) (a:Nat),(∀c∈l,c<=57)->l.foldl (λacc c=>acc*10+(c-48)) a<(a+1)*10^l.length
 |[],a,_=>by simp
 |c::r,a,h=>by
  have h1:=qN r (a*10+(c-48)) λd hd=>h d (mem_cons_of_mem _ hd)
  have h2:=h c mem_cons_self;have h3:(a*10+(c-48)+1)*10^r.length<=((a+1)*10)*10^r.length:=Nat.mul_le_mul_right _ (by omega)
  rw[List.foldl_cons,length_cons,Nat.pow_succ,Nat.mul_comm (10^r.length) 10,<- Nat.mul_assoc];exact Nat.lt_of_lt_of_le h1 h3
theorem uY{l:List Nat}{n:Nat}(h:rF l=some n):l≠[]/\n<10^l.length:=by
 unfold rF at h
 split at h
 ·rename_i hc;cases h;obtain⟨h1,h2⟩:=Bool.and_eq_true _ _▸hc;refine⟨λz=>by rw[z] at h1;exact absurd h1 (by decide),?_⟩
  have:=qN l 0 λc hc=>by
   have:=List.all_eq_true.mp h2 c hc;unfold cX at this;exact of_decide_eq_true (Bool.and_eq_true _ _▸this).2
  rw[Nat.zero_add,Nat.one_mul] at this;exact this
 ·cases h
def rN(P:Int)(l:List Nat):Option (Int×Int):=match rF (cu 47 l).1 with
 |none=>none
 |some t=>match (cu 47 l).2 with
  |none=>some (if P=0 then((t:Int),1) else((t:Int)%P,1))
  |some b=>match rF b with
   |none=>none
   |some u=>if P≠0\/u=0 then none else some (nrm t u)
def Aj(CT CF CR:Addr):Sp:=λvs H Q E=>∃(x:Addr) (P:Int) (l:List Nat),vs=[.ref x,.str (tx l)]/\F0 P/\F7 CF CR H x P/\(∀c∈l,c<128)/\l.length<=100/\(rN P l=none->Rz CT E H)/\∀a,rN P l=some a->∀r H',FX H H'->At P H' r a->Q r H'
theorem kj:FZ ["text"] ["text"] (ah eR):=.i
theorem xG{f CT:Addr}{fd:FuncData}(F:Fun K "rough_figures" "rough_figures" eR f fd)(T:Blt mg)(ANoText:mg "NoText"=some (.ref CT))(xt:XCl K CT)(HA:FnB P w K mg base 1 "is_figures" p7):F2 P w K mg base (CXE P w) 2 f fd ["text"] (rR CT):=by
 refine F.okX kj (λvs H Q E h=>?_) (λcdv A outer s H vs Q E hr h=>?_)
 ·obtain⟨l,rfl,_⟩:=h
  rfl
 ·obtain⟨l,rfl,h1,hl,hn,q⟩:=h;refine⟨_,(af (aW (cB (bH (aR HA hr.m (aa (pv 0) ae))))
(aj (bT xt.ek ANoText (aa aI ae)))
aF)
(aj (au (bK fS (by rfl) T.int fm (aa (pv 0) ae))))),?_⟩
  refine⟨_,rfl,l,rfl,h1,by omega,λH1 s1=>?_⟩
  unfold rF at hn q;cases hc:(!l.isEmpty&&l.all cX) with
  |false=>
   rw[hc] at hn;exact⟨false,rfl,bC ⟨zl,hn rfl H1 s1⟩⟩
  |true=>
   rw[hc] at q;have hd:PySem.NumText.AllDigits (tx l).cps.toList:=λc hc'=>by
    have:=List.all_eq_true.mp (Bool.and_eq_true _ _▸hc).2 c hc';unfold cX at this;exact⟨of_decide_eq_true (Bool.and_eq_true _ _▸this).1,of_decide_eq_true (Bool.and_eq_true _ _▸this).2⟩
   have hne:(tx l).cps.toList≠[]:=λz=>by
    have z:l=[]:=z;rw[z] at hc;exact absurd hc (by decide)
   refine⟨true,rfl,bS ?_⟩;exact⟨_,rfl,_,_,rfl,PySem.intText_digits hd hne (by rw[aK];omega),by rw[aK];omega,q _ rfl H1 s1⟩
theorem kA:FZ ["written", "text"] ["written", "text"] (ah eW):=.i
theorem yr{f CT:Addr}{fd:FuncData}(F:Fun K "check_written" "check_written" eW f fd)(ANoText:mg "NoText"=some (.ref CT))(xt:XCl K CT):F2 P w K mg base (CXE P w) 1 f fd ["written", "text"] (lC CT):=by
 refine F.okX kA (λvs H Q E h=>?_) (λcdv A outer s H vs Q E hr h=>?_)
 ·obtain⟨x,y,rfl,_⟩:=h
  rfl
 ·obtain⟨x,y,rfl,q1,q2⟩:=h;refine⟨_,(aj (aW (aA iz (pv 0) (pv 1) (ao _))
(aj (bT xt.ek ANoText (aa aI ae)))
aF)),?_⟩
  refine⟨_,rfl,_,rfl,rfl,_,rfl,?_⟩
  by_cases hx:x=y
  ·subst hx;rw[decide_eq_true rfl];exact bS (q1 rfl)
  ·rw[decide_eq_false (show ¬V.str x=V.str y from λz=>hx (by injection z))]
   exact bC ⟨zl,q2 hx⟩
theorem GO:FZ ["ring", "text", "letter"] ["ring", "text"] (ah eV):=.i
theorem yZ{f CG CT:Addr}{fd:FuncData}{tk:Tok}(F:Fun K "letter_number" "letter_number" eV f fd)(T:Blt mg)(gLETTERS:mg "LETTERS"=some (.str "xyzw" tk))(ANoText:mg "NoText"=some (.ref CT))(xt:XCl K CT)(J5:MtB P w K mg base 1 CG "letters" (jV CG)):F2 P w K mg base (CXE P w) 2 f fd ["ring", "text"] (uh CT CG):=by
 refine F.okX GO (λvs H Q E h=>?_) (λcdv A outer s H vs Q E hr h=>?_)
 ·obtain⟨g,x,L,l,rfl,_⟩:=h
  rfl
 ·obtain⟨g,x,L,l,rfl,⟨dx,hg⟩,hL0,hL,hn,q⟩:=h;refine⟨_,(af (ja PassesOwn.leaving rfl (kD rfl T.range (aa (bD J5 hr.m (pv 0)) ae)) (js (i:=2) GO.nd rfl (Or.inl rfl))
(aj (aW (aA ba (pv 1) (aG j9 (bG (v:=.str "xyzw") rfl gLETTERS ⟨_,rfl⟩) (pv 2) (λ_ _=>rfl)) (ao _))
(aj (au (pv 2)))
aF)))
(aj (bT xt.ek ANoText (aa aI ae)))),?_⟩
  refine⟨_,rfl,g,dx,_,rfl,hg,rfl,g,x,L,rfl,⟨dx,hg⟩,L,rfl,by omega,by omega,pI (n:=L.toNat) (λi σ H'=>∃x2:Option V,σ=[some (.ref g),some (.str (tx l)),x2]/\H'=H/\∀j,j<i->(l==[eU j])=false) ⟨none,rfl,rfl,λj hj=>absurd hj (Nat.not_lt_zero _)⟩ ?_ ?_⟩
  ·rintro i σ H' hi ⟨x2,rfl,rfl,hij⟩;have e0:(0:Int)+(i:Int)=(i:Int):=Int.zero_add _;rw[e0];refine⟨_,rfl,_,rfl,_,_,_,rfl,rfl,zl,kl (by omega),rfl,_,rfl,bt (λh=>?_) (λh=>?_)⟩
   ·have h1:tx l=tx [eU i]:=by have:=of_decide_eq_true h;injection this
    refine⟨_,rfl,q i ?_⟩;unfold lN;rw[List.find?_range_eq_some];refine⟨by rw[Gs.mp h1];exact beq_self_eq_true _,List.mem_range.mpr hi,λj hj=>by rw[hij j hj];rfl⟩
   ·refine⟨_,rfl,rfl,λj hj=>?_⟩
    by_cases e:j=i
    ·subst e;exact beq_eq_false_iff_ne.mpr λz=>h (decide_eq_true (by rw[z];rfl))
    ·exact hij j (by omega)
  ·rintro σ H' ⟨x2,rfl,rfl,hij⟩;refine⟨zl,hn ?_⟩;unfold lN;rw[List.find?_eq_none];intro j hj;rw[hij j (List.mem_range.mp hj)];exact Bool.false_ne_true
theorem Gx:FZ ["numbers", "text", "fraction", "top", "bottom"] ["numbers", "text"] (ah fB):=.i
theorem yh{f CT CF CR Hl:Addr}{fd:FuncData}(F:Fun K "rough_number" "rough_number" fB f fd)(ANoText:mg "NoText"=some (.ref CT))(xt:XCl K CT)(Hu:cS P w K mg base 2 "rough_figures" (rR CT))(J1:MtB P w K mg base 1 CF "prime" pR)(J3:MtB P w K mg base 1 CR "prime" (ph CR))
  (HN:fW P w K mg base 2 CF "of" [.int 1] (dZ Hl)) (HP:fW P w K mg base 2 CR "of" [.int 1] (fA CR Hl)) (Lj:fW P w K mg base 2 CF "of" [] (dZ Hl)) (OH:fW P w K mg base 2 CR "of" [] (fA CR Hl)):F2 P w K mg base (CXE P w) 3 f fd ["numbers", "text"] (Aj CT CF CR):=by
 refine F.okX Gx (λvs H Q E h=>?_) (λcdv A outer s H vs Q E hr h=>?_)
 ·obtain⟨x,P,l,rfl,_⟩:=h
  rfl
 ·obtain⟨x,P,l,rfl,hP,hN,hc,hl,hn,q⟩:=h;have hB:=hP.b;refine⟨_,(af (aD (i:=2) Gx.nd rfl (Or.inl rfl) (dQ PySem.F.plainAttrs_str PySem.F.slot_str_partition PySem.F.type_str_partition u5 (pv 1) (aa aI ae)))
(af (aD (i:=3) Gx.nd rfl (Or.inl rfl) (cO Hu hr.m bQ (aa (aG (aL K rfl) (pv 2) ag (λ_ _=>rfl)) ae)))
(af (aW (aA ba (aG (aL K rfl) (pv 2) ag (λ_ _=>rfl)) aI (ao _))
(aj (au (dJ (de HN hr.m cj (pv 0) (aa (pv 3) ae)) (de HP hr.m cj (pv 0) (aa (pv 3) ae)))))
aF)
(af (aD (i:=4) Gx.nd rfl (Or.inl rfl) (cO Hu hr.m bQ (aa (aG (aL K rfl) (pv 2) ag (λ_ _=>rfl)) ae)))
(af (aW (PW.pt (fI (aA iz (dJ (bD J1 hr.m (pv 0)) (bD J3 hr.m (pv 0))) ag (ao _)) (et (aA ba (pv 4) ag (ao _)))))
(aj (bT xt.ek ANoText (aa aI ae)))
aF)
(aj (au (dJ (de Lj hr.m cj (pv 0) (aa (pv 3) (aa (pv 4) ae))) (de OH hr.m cj (pv 0) (aa (pv 3) (aa (pv 4) ae))))))))))),?_⟩
  refine⟨_,rfl,rfl,_,_,rfl,rfl,rfl,by rw[aK,sizeLine_eq];omega,λt nt=>?_⟩
  rw[show Str.ofString "/" = one 47 from rfl,vL]
  obtain⟨c1,c2,c3⟩:=nI (c:=47) (l:=l);unfold rN at hn q;generalize ho:(cu 47 l).2=o at *;generalize hw:(cu 47 l).1=a at *;have s1:=FX.new (o:=.tup [.str (tx a),.str (fQ 47 o).1,.str (fQ 47 o).2]) nt;have h1:(upd H t (.tup [.str (tx a),.str (fQ 47 o).1,.str (fQ 47 o).2])) t=some (.tup [.str (tx a),.str (fQ 47 o).1,.str (fQ 47 o).2]):=FY;dsimp only;generalize upd H t (.tup [.str (tx a),.str (fQ 47 o).1,.str (fQ 47 o).2])=H1 at *;refine⟨_,rfl,t,_,_,_,rfl,rfl,SqT.of h1,aB (j:=0) rfl,a,rfl,λd hd=>hc d (c1 d hd),by omega,λe=>by rw[e] at hn;exact(hn rfl).go s1,λn en H2 s2=>?_⟩
  rw[en] at hn q;dsimp only at hn q;refine⟨_,rfl,t,_,_,_,rfl,rfl,SqT.of (s2 _ _ h1),aB (j:=1) rfl,rfl,_,rfl,?_⟩;cases o with
  |none=>
   rw[decide_eq_true (show V.str (fQ 47 none).1=V.str (Str.ofString "") from rfl)]
   refine bC ?_;have sm:=s1.trans s2;exact pG (a:=n) hP (hN.mono λo e=>sm _ _ e) rfl (λZ z=>⟨_,rfl,z⟩) (λZ z=>⟨_,rfl,z⟩) λr H3 s3 A3=>q _ rfl _ _ (sm.trans s3) A3
  |some b=>
   have lb:=hU ho;rw[decide_eq_false (show ¬V.str (fQ 47 (some b)).1=V.str (Str.ofString "") from λz=>by injection z with z;exact absurd ((Gs (a:=[47]) (b:=[])).mp z) (by decide))]
   refine bS ?_;dsimp only at hn q;refine⟨_,rfl,t,_,_,_,rfl,rfl,SqT.of (s2 _ _ h1),aB (j:=2) rfl,b,rfl,λd hd=>hc d (c3 b rfl d hd),by omega,λe=>by rw[e] at hn;exact(hn rfl).go (s1.trans s2),λu eu H3 s3=>?_⟩
   rw[eu] at hn q;dsimp only at hn q;have sm:=s1.trans (s2.trans s3);have ub:=(uY eu).2;have hu:((u:Nat):Int).natAbs<2^8800:=by
    rw[Int.natAbs_natCast];refine Nat.lt_of_lt_of_le ub (Nat.le_trans (Nat.pow_le_pow_right (by decide) (show b.length<=100 by omega)) (by decide +kernel))
   rcases hN with⟨h0,dx,e⟩|⟨h0,dx,e⟩
   ·refine .inl ⟨_,rfl,x,dx,_,rfl,sm _ _ e,rfl,.ref x,rfl,rfl,_,rfl,bS ⟨_,rfl,rfl,_,rfl,?_⟩⟩
    by_cases u0:u=0
    ·subst u0;rw[decide_eq_true (show V.int ((0:Nat):Int)=V.int 0 from rfl)]
     rw[if_pos (.inr rfl)] at hn;exact bC ⟨zl,hn rfl _ sm⟩
    ·rw[decide_eq_false (show ¬V.int (u:Nat)=V.int 0 from λz=>by injection z with z;omega)]
     rw[if_neg (by rintro(z|z);exact z h0;exact u0 z)] at q
     refine bS ?_;exact .inl ⟨_,rfl,x,dx,[],rfl,sm _ _ e,rfl,_,rfl,_,rfl,.ref x,n,u,rfl,λz=>absurd z (by omega),λ_=>⟨hu,λr nr=>q _ rfl _ _ (sm.trans (FX.new nr)) (.inl ⟨h0,r,rfl,FY⟩)⟩⟩
   ·rw[if_pos (.inl h0)] at hn;refine .inr ⟨_,rfl,x,dx,_,rfl,sm _ _ e,rfl,x,dx,P,rfl,sm _ _ e,?_⟩;refine⟨rfl,_,rfl,?_⟩;rw[decide_eq_false (show ¬V.int P=V.int 0 from λz=>h0 (by injection z))]
    refine bC ?_;exact⟨zl,hn rfl _ sm⟩
theorem nd_6:(["letter"]:List Str).Nodup:=by decide +kernel
def rE1(n:Nat)(v:List Int)(f:List Nat):Option (List Int):=match lN n (cu 94 f).1 with
 |none=>none
 |some j=>match (cu 94 f).2 with
  |none=>some (mI v (j,1))
  |some b=>(rF b).map λe:Nat=>mI v (j,(e:Int))
def rE(n:Nat)(fs:List (List Nat)):Option (List Int):=fs.foldlM (rE1 n) (List.replicate n 0)
def isF(l:List Nat):Bool:=!l.isEmpty&&l.all cX
def rP(P:Int)(n:Nat)(l:List Nat):Option aw:=match spl 42 l with
 |[]=>none
 |w::ws=>if isF (w.take 1)=true then(rN P w).bind λa=>(rE n ws).map λk=>(k,a) else(rE n (w::ws)).map λk=>(k,(1,1))
def yc(CT CF CR CG:Addr):Sp:=λvs H Q E=>∃(g x:Addr) (P L:Int) (l:List Nat),vs=[.ref g,.str (tx l)]/\F0 P/\cF CG H g x L/\F7 CF CR H x P/\0<=L/\L<=4/\(∀c∈l,c<128)/\l.length<=100/\(rP P L.toNat l=none->Rz CT E H)/\∀p,rP P L.toNat l=some p->∀v H',FX H H'->PartR P H' v p->Q v H'
theorem yj(n:Nat):List.replicate n (V.int 0)=(List.replicate n (0:Int)).map V.int:=by rw[map_replicate]
theorem jJ{α β:Type}{f:β->α->Option β}{v0 cur:β}{fs:List α}{i:Nat}{w:α}(h:(fs.take i).foldlM f v0=some cur)(hf:fs[i]? = some w):(fs.take (i+1)).foldlM f v0=f cur w:=by
 rw[take_add_one,hf,foldlM_append,h];show(List.foldlM f cur [w]:Option β)=_;rw[List.foldlM_cons];cases f cur w<;>rfl
theorem lY{α β:Type}{f:β->α->Option β}{v0:β}{fs:List α}(i:Nat)(h:(fs.take i).foldlM f v0=none):fs.foldlM f v0=none:=by
 rw[<- List.take_append_drop i fs,foldlM_append,h]
 rfl
theorem eC(c:Nat):∀(l w:List Nat),w∈spl c l->(∀d∈w,d∈l)/\w.length<=l.length
 |[],w,h=>by
  have h:w∈[([]:List Nat)]:=h;rw[List.mem_singleton.mp h];exact⟨λd hd=>hd,Nat.le_refl _⟩
 |a::l,w,h=>by
  rw[dM] at h
  split at h
  ·rcases List.mem_cons.mp h with z|z
   ·rw[z];exact⟨λd hd=>(not_mem_nil hd).elim,Nat.zero_le _⟩
   ·obtain⟨h1,h2⟩:=eC c l w z;exact⟨λd hd=>mem_cons_of_mem _ (h1 d hd),Nat.le_succ_of_le h2⟩
  ·cases e:spl c l with
   |nil=>exact absurd e (eX c l)
   |cons v vs=>
    rw[e] at h
    rcases List.mem_cons.mp h with z|z
    ·obtain⟨h1,h2⟩:=eC c l v (by rw[e];exact mem_cons_self)
     rw[z];refine⟨λd hd=>?_,Nat.succ_le_succ h2⟩
     rcases List.mem_cons.mp hd with y|y
     ·rw[y];exact mem_cons_self
     ·exact mem_cons_of_mem _ (h1 d y)
    ·obtain⟨h1,h2⟩:=eC c l w (by rw[e];exact mem_cons_of_mem _ z)
     exact⟨λd hd=>mem_cons_of_mem _ (h1 d hd),Nat.le_succ_of_le h2⟩
theorem gm(c:Nat):∀l:List Nat,(spl c l).length<=l.length+1
 |[]=>Nat.le_refl _
 |a::l=>by
  have ih:=gm c l;rw[dM]
  split
  ·rw[length_cons,length_cons];omega
  ·cases e:spl c l with
   |nil=>exact absurd e (eX c l)
   |cons v vs=>
    rw[e] at ih;rw[length_cons] at ih ⊢;rw[length_cons];omega
theorem ip(c:Nat)(l:List Nat)(hl:∀d∈l,d<128)(hc:c<128):Txt.split (tx l) (one c)=(spl c l).map tx:=Av (ya (tx l) c (EH hl) hc)
theorem FC(l:List Nat):Txt.slice (tx l) none (some 1)=tx (l.take 1):=by
 cases l with
 |nil=>rfl
 |cons c r=>exact zN (b:=1) (l:=c::r) (by simp)
theorem vO{n:Nat}{v u:List Int}{f:List Nat}(h:rE1 n v f=some u):u.length=v.length:=by
 unfold rE1 at h
 split at h
 ·cases h
 ·split at h
  ·cases h;unfold mI;rw[length_set]
  ·obtain⟨e,_,h⟩:=Option.map_eq_some_iff.mp h;rw[<- h];unfold mI;rw[length_set]
theorem BW{n j:Nat}{l:List Nat}(h:lN n l=some j):j<n/\l=[eU j]:=by
 unfold lN at h;exact⟨List.mem_range.mp (List.mem_of_find?_eq_some h),beq_iff_eq.mp (List.find?_some (p:=λj=>l==[eU j]) h)⟩
theorem Ge:FZ ["ring", "text", "factors", "number", "oftens", "factor", "power", "letter"] ["ring", "text"] (ah gK):=.i
set_option maxHeartbeats 1000000 in
theorem wt{f CT CF CR CG Hl:Addr}{fd:FuncData}(F:Fun K "rough_part" "rough_part" gK f fd)(T:Blt mg)(Hx:MtB P w K mg base 1 CG "numbers" (iq CG))(J5:MtB P w K mg base 1 CG "letters" (jV CG))(HN:fW P w K mg base 2 CF "of" [.int 1] (dZ Hl))(HP:fW P w K mg base 2 CR "of" [.int 1] (fA CR Hl))(HA:FnB P w K mg base 1 "is_figures" p7)(Hu:cS P w K mg base 2 "rough_figures" (rR CT))(J6:cS P w K mg base 3 "rough_number" (Aj CT CF CR))(JG:cS P w K mg base 2 "letter_number" (uh CT CG)):F2 P w K mg base (CXE P w) 4 f fd ["ring", "text"] (yc CT CF CR CG):=by
 refine F.okX Ge (λvs H Q E h=>?_) (λcdv A outer s H vs Q E hr h=>?_)
 ·obtain⟨g,x,P,L,l,rfl,_⟩:=h
  rfl
 ·obtain⟨g,x,P,L,l,rfl,hP,hg,hN,hL0,hL,ha,hl,hn,q⟩:=h;have hB:=hP.b;obtain⟨dx,hg'⟩:=id hg;refine⟨_,(af (aD (i:=2) Ge.nd rfl (Or.inl rfl) (dQ PySem.F.plainAttrs_str PySem.F.slot_str_split PySem.F.type_str_split fX (pv 1) (aa aI ae)))
(af (aD (i:=3) Ge.nd rfl (Or.inl rfl) (dJ (de HN hr.m cj (bD Hx hr.m (pv 0)) (aa ag ae)) (de HP hr.m cj (bD Hx hr.m (pv 0)) (aa ag ae))))
(af (aW (bH (aR HA hr.m (aa (cU tX (aG (ay K rfl) (pv 2) ag (λ_ _=>rfl)) bE (cE ag)) ae)))
(af (aD (i:=3) Ge.nd rfl (Or.inl rfl) (cO J6 hr.m bQ (aa (by exact(bD Hx hr.m (pv 0))) (aa (aG (ay K rfl) (pv 2) ag (λ_ _=>rfl)) ae))))
(aj (aD (i:=2) Ge.nd rfl (Or.inl rfl) (cU (bu K rfl) (pv 2) (cE ag) bE))))
aF)
(af (pZ (i:=4) Ge.nd rfl (Or.inl rfl) (N:=["letter"]) (src:=[none]) rfl rfl rfl (by exact(kD rfl T.range (aa (by exact(bD J5 hr.m (pv 0))) ae))) (λ_ _ _=>by exact⟨by exact(cv (i:=0) nd_6 rfl rfl),bi,by exact ag⟩))
(af (ja PassesOwn.leaving rfl (bI K rfl (pv 2)) (js (i:=5) Ge.nd rfl (Or.inl rfl))
(af (aD (i:=6) Ge.nd rfl (Or.inl rfl) (dQ PySem.F.plainAttrs_str PySem.F.slot_str_partition PySem.F.type_str_partition u5 (pv 5) (aa aI ae)))
(af (aD (i:=7) Ge.nd rfl (Or.inl rfl) (cO JG hr.m bQ (aa (pv 0) (aa (aG (aL K rfl) (pv 6) ag (λ_ _=>rfl)) ae))))
(aj (lU (aH cN (aG (ay K rfl) (pv 4) (pv 7) (λ_ _=>rfl)) (cA (aA ba (aG (aL K rfl) (pv 6) ag (λ_ _=>rfl)) aI (ao _)) ag (cO Hu hr.m bQ (aa (aG (aL K rfl) (pv 6) ag (λ_ _=>rfl)) ae)))) (mi (pv 4) (pv 7) dH))))))
(aj (au (gH (aa (by exact(wG K T (pv 4))) (aa (pv 3) ae)))))))))),?_⟩
  refine⟨_,rfl,rfl,_,_,rfl,rfl,rfl,by rw[aK,sizeLine_eq];omega,λlf nl=>?_⟩
  rw[show Str.ofString "*" = one 42 from rfl,ip 42 l ha (by decide)]
  have wm:=eC 42 l;have sl:=gm 42 l;unfold rP at hn q;cases hs:spl 42 l with
  |nil=>exact absurd hs (eX 42 l)
  |cons w0 ws=>
   rw[hs] at wm sl hn q;rw[length_cons] at sl;have w0m:=wm w0 mem_cons_self;generalize e0:upd H lf _=H1;obtain⟨s1,hl1⟩:=un e0 nl;clear e0;refine pG (a:=1) hP (hN.mono λo e=>s1 _ _ e) rfl (λZ z=>⟨_,rfl,g,dx,_,rfl,s1 _ _ hg',rfl,g,x,L,rfl,⟨dx,s1 _ _ hg'⟩,z⟩) (λZ z=>z) λr H2 s2 A2=>?_
   have s12:=s1.trans s2;have e1:(if P=0 then((1:Int),(1:Int)) else(1%P,1))=(1,1):=by
    split
    ·rfl
    ·rw[Int.emod_eq_of_lt (by decide) (by omega)]
   rw[e1] at A2;dsimp only at hn q ⊢;refine qt (t:=wY _ _ _) (λσ' H'=>∃(u:V) (l':Addr) (a:Int×Int) (fs:List (List Nat)),σ'=[some (.ref g),some (.str (tx l)),some (.ref l'),some u,none,none,none,none]/\FX H H'/\At P H' u a/\H' l'=some (.lst ((fs.map tx).map V.str))/\(∀w∈fs,w∈w0::ws)/\fs.length<=101/\(rE L.toNat fs=none->Rz CT E H)/\∀k,rE L.toNat fs=some k->∀v H',FX H H'->PartR P H' v (k,a)->Q v H') (λR hR=>?_) ?_
   ·have hl2:=s2 _ _ hl1;have hg2:=s12 _ _ hg';refine⟨_,rfl,lf,_,_,_,rfl,rfl,SqL.of hl2,aB (j:=0) rfl,_,rfl,_,rfl,by rw[aK,sizeLine_eq];omega,w0.take 1,by rw[FC];rfl,λd hd=>ha d (w0m.1 d (mem_of_mem_take hd)),by rw[length_take];omega,λH3 s3=>?_⟩
    cases hf:isF (w0.take 1) with
    |true=>
     rw[hf,if_pos rfl] at hn q;have hf':(!(w0.take 1).isEmpty&&(w0.take 1).all cX)=true:=hf;rw[hf'];refine⟨true,rfl,bC ?_⟩;refine⟨_,rfl,g,dx,_,rfl,s3 _ _ hg2,rfl,g,x,L,rfl,⟨dx,s3 _ _ hg2⟩,_,rfl,lf,_,_,_,rfl,rfl,SqL.of (s3 _ _ hl2),aB (j:=0) rfl,x,P,w0,rfl,hP,hN.mono λo e=>s3 _ _ (s12 _ _ e),λd hd=>ha d (w0m.1 d hd),by omega,λe=>by rw[e] at hn;exact(hn rfl).go (s12.trans s3),λa ea r4 H4 s4 A4=>?_⟩
     rw[ea] at hn q;refine⟨_,rfl,_,rfl,lf,_,rfl,SqL.of (s4 _ _ (s3 _ _ hl2)),λsl' nsl=>?_⟩
     have s5:=FX.new (o:=.lst ((ws.map tx).map V.str)) nsl;rw[map_cons,map_cons,g6];exact hR _ _ ⟨_,_,a,ws,rfl,s12.trans (s3.trans (s4.trans s5)),A4.same s5,FY,λw hw=>mem_cons_of_mem _ hw,by omega,λe=>hn (by rw[Option.bind_some,e];rfl),λk ek=>q (k,a) (by rw[Option.bind_some,ek];rfl)⟩
    |false=>
     rw[hf,if_neg Bool.false_ne_true] at hn q;have hf':(!(w0.take 1).isEmpty&&(w0.take 1).all cX)=false:=hf;rw[hf'];refine⟨false,rfl,bS ?_⟩;exact hR _ _ ⟨_,_,(1,1),w0::ws,rfl,s12.trans s3,A2.same s3,s3 _ _ hl2,λw hw=>hw,by rw[length_cons];omega,λe=>hn (by rw[e];rfl),λk ek=>q (k,(1,1)) (by rw[ek];rfl)⟩
   ·rintro σ' H3 ⟨u,l',a,fs,rfl,s3,hu,hl',hfs,lfs,hn',q'⟩;refine⟨_,rfl,g,dx,_,rfl,s3 _ _ hg',rfl,g,x,L,rfl,⟨dx,s3 _ _ hg'⟩,L,rfl,by omega,by omega,?_⟩
    refine pO (rest:=[]) rfl (λ_=>.int 0) (by omega) (λi H4 R hi s4 hR=>hR H4 (FX.refl _)) λd H4 nd s4 hd=>?_
    have e0:(List.range L.toNat).map (λ_=>V.int 0)=(List.replicate L.toNat (0:Int)).map V.int:=by
     rw[<- yj,map_const',length_range]
    rw[e0] at hd;refine⟨_,rfl,l',rfl,⟨_,SqL.of (s4 _ _ hl')⟩,oV (xs:=(fs.map tx).map V.str) (λi σ H'=>∃(x5 x6 x7:Option V) (cur:List Int),σ=[some (.ref g),some (.str (tx l)),some (.ref l'),some u,some (.ref d),x5,x6,x7]/\FX H3 H'/\(fs.take i).foldlM (rE1 L.toNat) (List.replicate L.toNat 0)=some cur/\cur.length=L.toNat/\H' d=some (.lst (cur.map V.int))) ⟨none,none,none,_,rfl,s4,rfl,length_replicate,hd⟩ ?_ ?_ ?_⟩
    ·rintro i σ H' _ ⟨x5,x6,x7,cur,rfl,sm,_⟩;exact SqL.of (sm _ _ hl')
    ·rintro i v σ H5 hv ⟨x5,x6,x7,cur,rfl,sm,hc,lc,hd5⟩ N0 C0 hN0;rw[getElem?_map,getElem?_map] at hv;cases ep:fs[i]? with
     |none=>rw[ep] at hv;exact nomatch hv
     |some w=>
      rw[ep] at hv;have hv:V.str (tx w)=v:=by injection hv
      subst hv;have ww:=wm w (hfs w (mem_of_getElem? ep));have at1:=jJ hc ep;have sm0:=s3.trans sm;have hg5:=sm0 _ _ hg';have fail:rE1 L.toNat cur w=none->Rz CT E H:=λe=>hn' (lY (i+1) (at1.trans e))
      have kr:∀z,(match lN L.toNat (cu 94 w).1 with
       |none=>none
       |some j=>match (cu 94 w).2 with
        |none=>some (mI cur (j,1))
        |some b=>(rF b).map λe:Nat=>mI cur (j,(e:Int)))=z->rE1 L.toNat cur w=z:=λz h=>h
      refine⟨_,rfl,rfl,_,_,rfl,rfl,rfl,by rw[aK,sizeLine_eq];omega,λt nt=>?_⟩
      rw[show Str.ofString "^" = one 94 from rfl,vL]
      obtain⟨c1,c2,c3⟩:=nI (c:=94) (l:=w);generalize ho:(cu 94 w).2=o at *;generalize hw:(cu 94 w).1=b at *;have s6:=FX.new (o:=.tup [.str (tx b),.str (fQ 94 o).1,.str (fQ 94 o).2]) nt;have h6:(upd H5 t (.tup [.str (tx b),.str (fQ 94 o).1,.str (fQ 94 o).2])) t=some (.tup [.str (tx b),.str (fQ 94 o).1,.str (fQ 94 o).2]):=FY;dsimp only;generalize upd H5 t (.tup [.str (tx b),.str (fQ 94 o).1,.str (fQ 94 o).2])=H6 at *;refine⟨_,rfl,_,rfl,t,_,_,_,rfl,rfl,SqT.of h6,aB (j:=0) rfl,g,x,L,b,rfl,⟨dx,s6 _ _ hg5⟩,hL0,hL,λe=>fail (kr _ (by rw[e])) _ (sm0.trans s6),λj ej=>?_⟩
      rw[ej] at kr;dsimp only at kr;have hj:=(BW ej).1;have hat:(cur.map V.int)[j]? = some (.int (cur.getD j 0)):=by
       rw[getElem?_map,getD_eq_getElem?_getD,getElem?_eq_getElem (by omega)]
       rfl
      have hix:ixN (cur.map V.int).length (j:Int)=some j:=by
       unfold ixN;rw[if_pos (by omega),if_pos (by rw[length_map];omega),Int.toNat_natCast]
      have fin:∀(e:Int) (y5 y6 y7:Option V) (H7:Hp),rE1 L.toNat cur w=some (mI cur (j,e))->FX H5 H7->N0 [some (.ref g),some (.str (tx l)),some (.ref l'),some u,some (.ref d),y5,y6,y7] (upd H7 d (.lst ((cur.map V.int).set j (.int (cur.getD j 0+e))))):=λe y5 y6 y7 H7 he s7=>by
       refine hN0 _ _ ⟨y5,y6,y7,mI cur (j,e),rfl,(sm.trans s7).put nd,at1.trans he,(vO he).trans lc,?_⟩;rw[FY];unfold mI;rw[map_set]
      refine⟨_,rfl,_,rfl,d,_,_,_,rfl,rfl,SqL.of (s6 _ _ hd5),aB hat,_,rfl,t,_,_,_,rfl,rfl,SqT.of h6,aB (j:=1) rfl,rfl,_,rfl,?_⟩;cases o with
      |none=>
       rw[decide_eq_true (show V.str (fQ 94 none).1=V.str (Str.ofString "") from rfl)]
       refine bC ⟨_,_,rfl,rfl,_,rfl,_,rfl,d,_,_,j,rfl,rfl,s6 _ _ hd5,hix,?_⟩;exact fin 1 _ _ _ H6 (kr _ rfl) s6
      |some bb=>
       have lb:=hU ho;rw[decide_eq_false (show ¬V.str (fQ 94 (some bb)).1=V.str (Str.ofString "") from λz=>by injection z with z;exact absurd ((Gs (a:=[94]) (b:=[])).mp z) (by decide))]
       refine bS ⟨_,rfl,t,_,_,_,rfl,rfl,SqT.of h6,aB (j:=2) rfl,bb,rfl,λd hd=>ha d (ww.1 d (c3 bb rfl d hd)),by omega,λe=>(fail (kr _ (by show(rF bb).map _=none;rw[e];rfl))).go (sm0.trans s6),λn en H7 s7=>?_⟩
       exact⟨_,_,rfl,rfl,_,rfl,_,rfl,d,_,_,j,rfl,rfl,s7 _ _ (s6 _ _ hd5),hix,fin n _ _ _ H7 (kr _ (by show(rF bb).map _=_;rw[en];rfl)) (s6.trans s7)⟩
    ·rintro σ H5 ⟨x5,x6,x7,cur,rfl,sm,hc,lc,hd5⟩;rw[length_map,length_map,take_length] at hc;refine⟨_,rfl,d,_,rfl,SqL.of hd5,λkk nk=>?_⟩
     generalize e0:upd H5 kk _=H6;obtain⟨s6,h6⟩:=un e0 nk;clear e0;refine⟨_,rfl,zl,λt nt=>?_⟩
     have s7:=FX.new (o:=.tup [.ref kk,u]) nt;exact q' cur hc _ _ (s3.trans (sm.trans (s6.trans s7))) ⟨t,kk,u,rfl,FY,s7 _ _ h6,hu.same (sm.trans (s6.trans s7))⟩
def EntR(P:Int)(H:Hp)(v:V)(e:List aw):Prop:=∃l ts,v=.ref l/\H l=some (.lst ts)/\F8 P H ts e
def RowR(P:Int)(H:Hp)(v:V)(row:List (List aw)):Prop:=∃r es,v=.ref r/\H r=some (.lst es)/\Paired (EntR P H) es row
theorem bf{α β:Type}{R S:α->β->Prop}(h:∀x y,R x y->S x y):∀{xs:List α} {ys:List β},Paired R xs ys->Paired S xs ys
 |_,_,.nil=>.nil
 |_,_,.cons q r=>.cons (h _ _ q) (bf h r)
theorem dU{α β:Type}{R:α->β->Prop}:∀{xs:List α} {ys:List β} {i:Nat} {x:α},Paired R xs ys->xs[i]? = some x->∃y,ys[i]? = some y/\R x y
 |_,_,0,x,.cons q r,e=>by cases e;exact⟨_,rfl,q⟩
 |_::_,_::_,i+1,x,.cons q r,e=>dU (i:=i) r e
theorem g8{α β:Type}{R:α->β->Prop}{x:α}{y:β}(h:R x y):∀{xs:List α} {ys:List β},Paired R xs ys->Paired R (xs++[x]) (ys++[y])
 |_,_,.nil=>.cons h .nil
 |_,_,.cons q r=>.cons q (g8 h r)
theorem EntR.same{P:Int}{H H':Hp}{v:V}{e:List aw}(s:FX H H')(h:EntR P H v e):EntR P H' v e:=by
 obtain⟨l,ts,rfl,hl,pr⟩:=h;exact⟨l,ts,rfl,s _ _ hl,pr.mono λt xs e=>s _ _ e⟩
theorem RowR.same{P:Int}{H H':Hp}{v:V}{row:List (List aw)}(s:FX H H')(h:RowR P H v row):RowR P H' v row:=by
 obtain⟨r,es,rfl,hr,pr⟩:=h;exact⟨r,es,rfl,s _ _ hr,bf (λ_ _=>EntR.same s) pr⟩
def Gj(av:List Addr)(H H':Hp):Prop:=(∀t xs,H t=some (.tup xs)->H' t=some (.tup xs))/\∀c o,H c=some o->c∉av->H' c=some o
theorem Gj.of{av:List Addr}{H H':Hp}(s:FX H H'):Gj av H H':=⟨λt xs e=>s _ _ e,λc o e _=>s c o e⟩
theorem Gj.trans{av:List Addr}{H H1 H2:Hp}(a:Gj av H H1)(b:Gj av H1 H2):Gj av H H2:=⟨λt xs e=>b.1 t xs (a.1 t xs e),λc o e hc=>b.2 c o (a.2 c o e hc) hc⟩
theorem Gj.bag{av:List Addr}{p:Addr}{H H':Hp}{xs:List V}(hp:H p=some (.lst xs))(k:∀c o,H c=some o->c≠p->H' c=some o)(m:p∈av):Gj av H H':=
 ⟨λt ys e=>k t _ e (iM e hp (by intro z;cases z)),λc o e hc=>k c o e λz=>hc (by rw[z];exact m)⟩
theorem Gj.put{av:List Addr}{r:Addr}{H:Hp}{xs ys:List V}(h:H r=some (.lst xs))(m:r∈av):Gj av H (upd H r (.lst ys)):=Gj.bag h (λc o e hc=>by rw[ar hc];exact e) m
def EntF(H0:Hp)(r:Addr)(P:Int)(H:Hp)(v:V)(e:List aw):Prop:=∃l ts,v=.ref l/\H0 l=none/\l≠r/\H l=some (.lst ts)/\F8 P H ts e
theorem EntF.keepA{H0:Hp}{av:List Addr}{r:Addr}{P:Int}{H H':Hp}{v:V}{e:List aw}(hav:∀a∈av,a=r\/H0 a≠none)(k:Gj av H H')(h:EntF H0 r P H v e):EntF H0 r P H' v e:=by
 obtain⟨l,ts,rfl,l0,lr,hl,pr⟩:=h;refine⟨l,ts,rfl,l0,lr,k.2 _ _ hl (λm=>?_),pr.mono k.1⟩
 rcases hav l m with z|z
 ·exact lr z
 ·exact z l0
theorem EntF.ent{H0:Hp}{r:Addr}{P:Int}{H:Hp}{v:V}{e:List aw}(h:EntF H0 r P H v e):EntR P H v e:=by
 obtain⟨l,ts,rfl,_,_,hl,pr⟩:=h;exact⟨l,ts,rfl,hl,pr⟩
theorem Canon.mono{P L:Int}{y z:Nat}{ps:List aw}(h:Canon P L y ps)(hz:y<=z):Canon P L z ps:=⟨h.1,λp hp=>⟨(h.2 p hp).1,(h.2 p hp).2.1.mono hz,(h.2 p hp).2.2⟩⟩
def b5:List Int->List (List aw)->Option Int
 |c::cs,e::row=>match e with
  |q::_=>some (c+q.1.sum)
  |[]=>b5 cs row
 |_,_=>none
def qM(cs:List Int)(row:List (List aw)):V:=match b5 cs row with
 |some h=>.int h
 |none=>.non
theorem tL{cs:List Int}:∀{row:List (List aw)},row.length=cs.length->(b5 cs row=none↔∀e∈row,e=[]):=by
 induction cs with
 |nil=>intro row h;cases row with
  |nil=>simp[b5]
  |cons e r=>simp at h
 |cons c cs ih=>
  intro row h;cases row with
  |nil=>simp at h
  |cons e r=>
   have h':r.length=cs.length:=by simpa using h
   cases e with
   |nil=>
    rw[show b5 (c::cs) ([]::r)=b5 cs r from rfl,ih h']
    simp
   |cons q t=>
    rw[show b5 (c::cs) ((q::t)::r)=some (c+q.1.sum) from rfl]
    simp
theorem qY{P:Int}(hP:F0 P){S:Nat}(hS:14<=S){ps:List aw}(h:∀p∈ps,OkN P p.2/\Sz S p.2):∀i,i<=ps.length->∀p∈acc P (ps.take i),Sz ((S+1)*i) p.2
 |0,_,p,hp=>by simp[acc] at hp
 |i+1,hi,p,hp=>by
  have hB:=hP.b;obtain⟨q,eq⟩:∃q,ps[i]? = some q:=⟨_,getElem?_eq_getElem (by omega)⟩
  have ih:=qY hP hS h i (by omega)
  have okm:∀q∈acc P (ps.take i),OkN P q.2:=pY hB.1 hB.2.2 λq hq=>(h q (mem_of_mem_take hq)).1
  obtain⟨oq,zq⟩:=h q (mem_of_getElem? eq);have e3:(S+1)*(i+1)=(S+1)*i+(S+1):=Nat.mul_succ _ _;rw[lS eq] at hp
  rcases mK hp with z|z
  ·rw[z];show Sz ((S+1)*(i+1)) (ji P ((fU (acc P (ps.take i)) q.1).getD (0,1)) q.2);cases e:fU (acc P (ps.take i)) q.1 with
   |none=>
    show Sz _ (ji P (0,1) q.2);rw[i7 oq];exact zq.mono (by omega)
   |some y=>
    have my:=g9 e;have sy:Sz ((S+1)*i) y:=ih _ my;have pos:1<=i:=by
     cases i with
     |zero=>simp[acc] at my
     |succ j=>omega
    have e4:S+1<=(S+1)*i:=Nat.le_mul_of_pos_right _ pos;exact(Cn hB.1 hB.2.1 (okm _ my) oq sy zq (by omega)).1.mono (by omega)
  ·exact(ih p z).mono (by omega)
theorem vg{P:Int}(hP:F0 P){S n:Nat}(hS:14<=S){ps:List aw}(h:∀p∈ps,OkN P p.2/\Sz S p.2)(hn:ps.length<=n)(i:Nat):∀p∈acc P (ps.take i),Sz ((S+1)*n) p.2:=λp hp=>by
 by_cases hi:i<=ps.length
 ·exact(qY hP hS h i hi p hp).mono (Nat.mul_le_mul_left _ (by omega))
 ·rw[take_of_length_le (by omega)] at hp
  exact(qY hP hS h ps.length (Nat.le_refl _) p (by rw[take_length];exact hp)).mono (Nat.mul_le_mul_left _ hn)
theorem CI{P:Int}(hP:F0 P){S n:Nat}(hS:14<=S){ps:List aw}(h:∀p∈ps,OkN P p.2/\Sz S p.2)(hn:ps.length<=n)(h1:S<=4300)(h2:(S+1)*n<=4300):C1 P ps:=⟨λp hp=>⟨(h p hp).1,(h p hp).2.mono h1⟩,λi p hp=>(vg hP hS h hn i p hp).mono h2⟩
theorem Ce{P L:Int}(hP:F0 P){S n:Nat}(hS:14<=S){ps out:List aw}(h:∀p∈ps,OkN P p.2/\Sz S p.2/\(p.1.length:Int)=L/\∀e∈p.1,0<=e)(hn:ps.length<=n)(hs:IsSum P ps out):Canon P L ((S+1)*n) out/\out.length<=n/\∀q∈out,∃r∈ps,r.1=q.1:=by
 have hB:=hP.b;have h':∀p∈ps,OkN P p.2/\Sz S p.2:=λp hp=>⟨(h p hp).1,(h p hp).2.1⟩
 have fr:∀q∈out,∃r∈ps,r.1=q.1:=λq hq=>yu q (hs.mem q hq)
 refine⟨⟨hs.2,λq hq=>⟨pY hB.1 hB.2.2 (λp hp=>(h p hp).1) q (hs.mem q hq),vg hP hS h' hn ps.length q (by rw[take_length];exact hs.mem q hq),hs.nz q hq,?_⟩⟩,?_,fr⟩
 ·obtain⟨r,hr,e⟩:=fr q hq;rw[<- e];exact(h r hr).2.2
 ·have e1:=hs.1.length_eq;have e2:=List.length_filter_le nz (acc P ps);have e3:=q5 P ps;omega
def ev{α:Type}:List α->List α
 |[]=>[]
 |[a]=>[a]
 |a::_::r=>a::ev r
theorem qh{α:Type}:∀(l:List α) (k:Nat),l[2*k]? = (ev l)[k]?
 |[],k=>by simp[ev]
 |[a],k=>by
  cases k with
  |zero=>rfl
  |succ k=>
   show[a][2*(k+1)]? = [a][k+1]?;rw[getElem?_eq_none (by simp;omega),getElem?_eq_none (by simp)]
 |a::b::r,k=>by
  cases k with
  |zero=>rfl
  |succ k=>
   show(a::b::r)[2*k+2]? = (ev r)[k]?;rw[<- qh r k]
   rfl
theorem nw{α:Type}:∀l:List α,l.length=2*(ev l).length\/l.length+1=2*(ev l).length
 |[]=>.inl rfl
 |[a]=>.inr rfl
 |a::b::r=>by
  have:=nw r;show r.length+1+1=2*((ev r).length+1)\/r.length+1+1+1=2*((ev r).length+1);omega
theorem DJ{α:Type}{l:List α}{x:α}(h:x∈ev l):x∈l:=by
 obtain⟨k,hk⟩:=List.getElem?_of_mem h;rw[<- qh] at hk;exact mem_of_getElem? hk
theorem rX(a:V)(xs:List V):mB (a::xs) (some 1) none (some 2)=ev xs:=by
 refine va (lo:=1) (λk hk=>?_) ?_
 ·rw[Nat.add_comm];exact qh xs k
 ·have:=nw xs;rw[length_cons];omega
theorem rC(a:V)(xs:List V):mB (a::xs) (some 2) none (some 2)=ev xs.tail:=by
 refine va (lo:=2) (λk hk=>?_) ?_
 ·cases xs with
  |nil=>exact absurd hk (Nat.not_lt_zero _)
  |cons b r=>
   rw[Nat.add_comm];exact qh r k
 ·cases xs with
  |nil=>exact .inr rfl
  |cons b r=>
   have:=nw r;show r.length+1+1=2+2*(ev r).length\/r.length+1+1+1=2+2*(ev r).length;omega
theorem gq{α β:Type}(f:α->β):∀l:List α,ev (l.map f)=(ev l).map f
 |[]=>rfl
 |[a]=>rfl
 |a::b::r=>congrArg (f a :: ·) (gq f r)
def sg1(P:Int)(s:List Nat):Int×Int:=if P=0 then((if s=[45] then(-1:Int) else 1),1) else((if s=[45] then(-1:Int) else 1)%P,1)
def rS1(P:Int)(n:Nat)(acc:List aw)(x:List Nat×List Nat):Option (List aw):=(rP P n x.2).map λp:aw=>acc++[(p.1,iL P p.2 (sg1 P x.1))]
def sgs(w:List Nat)(ws:List (List Nat)):List (List Nat):=(if w[0]? = some 45 then[45] else[43])::ev ws
def bds(w:List Nat)(ws:List (List Nat)):List (List Nat):=(if w[0]? = some 45 then w.drop 1 else w)::ev ws.tail
def rS(P:Int)(n:Nat)(l:List Nat):Option (List aw):=if l=[48] then some [] else match spl 32 l with
 |[]=>none
 |w::ws=>if (sgs w ws).length=(bds w ws).length then((sgs w ws).zip (bds w ws)).foldlM (rS1 P n) [] else none
theorem yW{P:Int}(hP:F0 P)(s:List Nat){k:Nat}(hk:14<=k):OkN P (sg1 P s)/\Sz k (sg1 P s):=by
 have hB:=hP.b;have p14:(2:Nat)^14<=2^k:=Nat.pow_le_pow_right (by decide) hk
 unfold sg1
 by_cases h0:P=0
 ·rw[if_pos h0];refine⟨.inl ⟨h0,by show(0:Int)<1;decide,Int.gcd_one_right ..⟩,?_,?_⟩
  ·show(if s=[45] then(-1:Int) else 1).natAbs<_
   split<;>omega
  ·show(1:Int).natAbs<_;omega
 ·rw[if_neg h0];exact⟨kZ hB.1 h0,kB hB.1 h0 hB.2.1 hk⟩
theorem Bm{P:Int}(hP:F0 P){a:Int×Int}{k:Nat}(hk:14<=k)(s:List Nat)(o:OkN P a)(z:Sz k a):OkN P (iL P a (sg1 P s))/\Sz k (iL P a (sg1 P s)):=by
 have hB:=hP.b;refine⟨Cw hB.1 o (yW hP s (Nat.le_refl 14)).1,?_⟩;unfold iL sg1
 by_cases h0:P=0
 ·rw[if_pos h0,if_pos h0];have d:=o.den;refine lW (by show a.2*1≠0;omega) ?_ (by show(a.2*1).natAbs<_;rw[Int.mul_one];exact z.2)
  show(a.1*(if s=[45] then(-1:Int) else 1)).natAbs<_
  split
  ·rw[Int.mul_neg,Int.mul_one,Int.natAbs_neg];exact z.1
  ·rw[Int.mul_one];exact z.1
 ·rw[if_neg h0];exact kB hB.1 h0 hB.2.1 hk
theorem AK{n k:Nat}(h:n<10^k)(hk:k<=7):n<2^24:=Nat.lt_of_lt_of_le h (Nat.le_trans (Nat.pow_le_pow_right (by decide) hk) (by decide))
theorem FQ{P:Int}(hP:F0 P){l:List Nat}{a:Int×Int}(hl:l.length<=7)(h:rN P l=some a):OkN P a/\Sz 24 a:=by
 have hB:=hP.b;obtain⟨_,c2,_⟩:=nI (c:=47) (l:=l);unfold rN at h;cases e1:rF (cu 47 l).1 with
 |none=>rw[e1] at h;cases h
 |some t=>
  rw[e1] at h;have t1:t<2^24:=AK (uY e1).2 (by omega)
  cases e2:(cu 47 l).2 with
  |none=>
   rw[e2] at h;have h:some (if P=0 then((t:Int),(1:Int)) else((t:Int)%P,1))=some a:=h
   injection h with h
   rw[<- h]
   by_cases h0:P=0
   ·rw[if_pos h0];exact⟨.inl ⟨h0,by show(0:Int)<1;decide,Int.gcd_one_right ..⟩,by show((t:Int)).natAbs<_;rw[Int.natAbs_natCast];exact t1,by show(1:Int).natAbs<_;decide⟩
   ·rw[if_neg h0];exact⟨kZ hB.1 h0,kB hB.1 h0 hB.2.1 (by decide)⟩
  |some b=>
   rw[e2] at h;dsimp only at h;have lb:=hU e2;cases e3:rF b with
   |none=>rw[e3] at h;cases h
   |some u=>
    rw[e3] at h;have u1:u<2^24:=AK (uY e3).2 (by omega)
    have h:(if P≠0\/u=0 then none else some (nrm t u))=some a:=h
    by_cases hc:P≠0\/u=0
    ·rw[if_pos hc] at h;cases h
    ·rw[if_neg hc] at h;injection h with h
     have h0:P=0:=Decidable.byContradiction λz=>hc (.inl z)
     have hu:((u:Nat):Int)≠0:=λz=>hc (.inr (by omega))
     rw[<- h];subst h0;exact⟨qv hu,lW hu (by rw[Int.natAbs_natCast];exact t1) (by rw[Int.natAbs_natCast];exact u1)⟩
theorem Ex{n:Nat}{v u:List Int}{f:List Nat}{B:Int}(hf:f.length<=7)(hv:∀e∈v,0<=e/\e<=B)(hB:0<=B)(h:rE1 n v f=some u):∀e∈u,0<=e/\e<=B+100000000:=by
 have put:∀(j:Nat) (e:Int),0<=e->e<=100000000->∀y∈mI v (j,e),0<=y/\y<=B+100000000:=λj e h0 h1 y hy=>by
  unfold mI at hy
  rcases List.mem_or_eq_of_mem_set hy with z|z
  ·have:=hv y z;omega
  ·have:0<=v.getD j 0/\v.getD j 0<=B:=by
    rw[getD_eq_getElem?_getD];cases e:v[j]? with
    |none=>exact⟨Int.le_refl _,hB⟩
    |some x=>exact hv x (mem_of_getElem? e)
   rw[z];dsimp only;omega
 unfold rE1 at h
 split at h
 ·cases h
 ·rename_i j _
  split at h
  ·cases h;exact put j 1 (by decide) (by decide)
  ·rename_i b hb;have lb:=hU hb;obtain⟨e,he,h⟩:=Option.map_eq_some_iff.mp h;rw[<- h];have:=(uY he).2;have h2:e<10^8:=Nat.lt_of_lt_of_le this (Nat.pow_le_pow_right (by decide) (by omega))
   exact put j e (by omega) (by omega)
theorem Db{n:Nat}{fs:List (List Nat)}{k:List Int}(hf:∀f∈fs,f.length<=7)(hn:fs.length<=8)(h:rE n fs=some k):k.length=n/\∀e∈k,0<=e/\e<=1000000000000:=by
 have go:∀(i:Nat) (cur:List Int),i<=fs.length->(fs.take i).foldlM (rE1 n) (List.replicate n 0)=some cur->cur.length=n/\∀e∈cur,0<=e/\e<=i*100000000:=by
  intro i
  induction i with
  |zero=>
   intro cur _ h;have h:some (List.replicate n (0:Int))=some cur:=h;injection h with h
   rw[<- h];refine⟨length_replicate,λe he=>?_⟩
   rw[eq_of_mem_replicate he]
   decide
  |succ i ih=>
   intro cur hi h;cases hc:(fs.take i).foldlM (rE1 n) (List.replicate n 0) with
   |none=>
    rw[take_add_one,foldlM_append,hc] at h;cases h
   |some c0=>
    obtain⟨l0,b0⟩:=ih c0 (by omega) hc
    have ew:fs[i]? = some fs[i]:=getElem?_eq_getElem (by omega)
    rw[jJ hc ew] at h;refine⟨(vO h).trans l0,λe he=>?_⟩
    have:=Ex (hf _ (mem_of_getElem? ew)) b0 (by omega) h e he
    omega
 obtain⟨h1,h2⟩:=go fs.length k (Nat.le_refl _) (by rw[take_length];exact h)
 exact⟨h1,λe he=>by have:=h2 e he;omega⟩
theorem Dd{P:Int}(hP:F0 P){n:Nat}{l:List Nat}{p:aw}(hl:l.length<=7)(h:rP P n l=some p):OkN P p.2/\Sz 24 p.2/\p.1.length=n/\∀e∈p.1,0<=e/\e<=1000000000000:=by
 have wm:=eC 42 l;have sl:=gm 42 l;unfold rP at h;cases hs:spl 42 l with
 |nil=>exact absurd hs (eX 42 l)
 |cons w ws=>
  rw[hs] at h wm sl;rw[length_cons] at sl;dsimp only at h
  split at h
  ·obtain⟨a,ea,h⟩:=Option.bind_eq_some_iff.mp h;obtain⟨k,ek,h⟩:=Option.map_eq_some_iff.mp h;have o:=FQ hP (by have:=(wm w mem_cons_self).2;omega) ea
   have r:=Db (λf hf=>by have:=(wm f (mem_cons_of_mem _ hf)).2;omega) (by omega) ek
   rw[<- h];exact⟨o.1,o.2,r.1,r.2⟩
  ·obtain⟨k,ek,h⟩:=Option.map_eq_some_iff.mp h;have r:=Db (λf hf=>by have:=(wm f hf).2;omega) (by rw[length_cons];omega) ek
   rw[<- h];exact⟨mj hP,⟨by show(1:Int).natAbs<_;decide,by show(1:Int).natAbs<_;decide⟩,r.1,r.2⟩
theorem tQ{α β:Type}{f:β->α->Option β}{v0 out:β}{fs:List α}(h:fs.foldlM f v0=some out)(Pv:Nat->β->Prop)(h0:Pv 0 v0)(hs:∀i c c' w,fs[i]? = some w->Pv i c->f c w=some c'->Pv (i+1) c'):Pv fs.length out:=by
 have go:∀(i:Nat) (cur:β),i<=fs.length->(fs.take i).foldlM f v0=some cur->Pv i cur:=by
  intro i
  induction i with
  |zero=>
   intro cur _ h;have h:some v0=some cur:=h;injection h with h
   rw[<- h];exact h0
  |succ i ih=>
   intro cur hi h;cases hc:(fs.take i).foldlM f v0 with
   |none=>
    rw[take_add_one,foldlM_append,hc] at h;cases h
   |some c0=>
    have ew:fs[i]? = some fs[i]:=getElem?_eq_getElem (by omega)
    rw[jJ hc ew] at h;exact hs i c0 cur _ ew (ih c0 (by omega) hc) h
 exact go fs.length out (Nat.le_refl _) (by rw[take_length];exact h)
theorem Bf{l w:List Nat}{ws:List (List Nat)}(hs:spl 32 l=w::ws):(∀b∈bds w ws,(∀d∈b,d∈l)/\b.length<=l.length)/\(bds w ws).length<=l.length/2+1:=by
 have wm:=eC 32 l;have sl:=gm 32 l;rw[hs] at wm sl;rw[length_cons] at sl;refine⟨λb hb=>?_,?_⟩
 ·unfold bds at hb
  rcases List.mem_cons.mp hb with z|z
  ·obtain⟨h1,h2⟩:=wm w mem_cons_self;rw[z]
   split
   ·exact⟨λd hd=>h1 d (mem_of_mem_drop hd),by rw[length_drop];omega⟩
   ·exact⟨h1,h2⟩
  ·exact wm b (mem_cons_of_mem _ (List.mem_of_mem_tail (DJ z)))
 ·have:=nw ws.tail;rw[List.length_tail] at this;unfold bds;rw[length_cons];omega
theorem C9{P:Int}(hP:F0 P){n:Nat}{l:List Nat}{qs:List aw}(hl:l.length<=7)(h:rS P n l=some qs):qs.length<=4/\∀q∈qs,OkN P q.2/\Sz 24 q.2/\q.1.length=n/\∀e∈q.1,0<=e/\e<=1000000000000:=by
 unfold rS at h
 split at h
 ·injection h with h
  rw[<- h];exact⟨Nat.zero_le _,λq hq=>(not_mem_nil hq).elim⟩
 ·cases hs:spl 32 l with
  |nil=>exact absurd hs (eX 32 l)
  |cons w ws=>
   rw[hs] at h;dsimp only at h;obtain⟨b1,b2⟩:=Bf hs
   split at h
   ·have:=tQ h (λi acc=>acc.length=i/\∀q∈acc,OkN P q.2/\Sz 24 q.2/\q.1.length=n/\∀e∈q.1,0<=e/\e<=1000000000000) ⟨rfl,λq hq=>(not_mem_nil hq).elim⟩ λi c c' x hx ⟨l1,o1⟩ hc=>by
     obtain⟨p,ep,hc⟩:=Option.map_eq_some_iff.mp hc;have hb:=b1 x.2 (of_mem_zip (mem_of_getElem? (show _=some (x.1,x.2) from hx))).2
     obtain⟨r1,r2,r3,r4⟩:=Dd hP (by omega) ep
     obtain⟨m1,m2⟩:=Bm hP (by decide) x.1 r1 r2
     rw[<- hc];refine⟨by rw[length_append,l1];rfl,λq hq=>?_⟩
     rcases List.mem_append.mp hq with z|z
     ·exact o1 q z
     ·rw[List.mem_singleton.mp z];exact⟨m1,m2,r3,r4⟩
    refine⟨?_,this.2⟩;have l2:=this.1;rw[List.length_zip] at l2;omega
   ·cases h
def Aq(CT CF CR CG:Addr):Sp:=λvs H Q E=>∃(g x:Addr) (P L:Int) (l:List Nat),vs=[.ref g,.str (tx l)]/\F0 P/\cF CG H g x L/\F7 CF CR H x P/\0<=L/\L<=4/\(∀c∈l,c<128)/\l.length<=7/\(rS P L.toNat l=none->Rz CT E H)/\
 ∀qs,rS P L.toNat l=some qs->∀(d:Addr) (rs:List V) (out:List aw) (H':Hp),H d=none->FX H H'->H' d=some (.lst rs)->F8 P H' rs out->IsSum P qs out->Q (.ref d) H'
theorem Gg:FZ ["ring", "text", "words", "below", "signs", "bodies", "found", "sign", "body", "part", "factor"] ["ring", "text"] (ah im):=.i
set_option maxHeartbeats 1000000 in
theorem AV{f CT CF CR CG Hl:Addr}{fd:FuncData}(F:Fun K "rough_sum" "rough_sum" im f fd)(T:Blt mg)(ANoText:mg "NoText"=some (.ref CT))(xt:XCl K CT)(Hx:MtB P w K mg base 1 CG "numbers" (iq CG))(HN:fW P w K mg base 2 CF "of" [.int 1] (dZ Hl))(HP:fW P w K mg base 2 CR "of" [.int 1] (fA CR Hl))(OI:MtB P w K mg base 3 CF "times" (lX CF λa b=>(a.1*b.1,a.2*b.2)))(OJ:MtB P w K mg base 3 CR "times" (mP CR (· * ·)))(Ky:cS P w K mg base 4 "rough_part" (yc CT CF CR CG))(NA:FnB P w K mg base 5 "sum_of" (CY CF CR CG)):F2 P w K mg base (CXE P w) 6 f fd ["ring", "text"] (Aq CT CF CR CG):=by
 refine F.okX Gg (λvs H Q E h=>?_) (λcdv A outer s H vs Q E hr h=>?_)
 ·obtain⟨g,x,P,L,l,rfl,_⟩:=h
  rfl
 ·obtain⟨g,x,P,L,l,rfl,hP,hg,hN,hL0,hL,ha,hl,hn,q⟩:=h;have hB:=hP.b;obtain⟨dx,hg'⟩:=id hg;refine⟨_,(af (aW (aA ba (pv 1) aI (ao _))
(aj (au (ci ae)))
aF)
(af (aD (i:=2) Gg.nd rfl (Or.inl rfl) (dQ PySem.F.plainAttrs_str PySem.F.slot_str_split PySem.F.type_str_split fX (pv 1) (aa aI ae)))
(af (aD (i:=3) Gg.nd rfl (Or.inl rfl) (dQ PySem.F.plainAttrs_str PySem.F.slot_str_startswith PySem.F.type_str_startswith pK (aG (ay K rfl) (pv 2) ag (λ_ _=>rfl)) (aa aI ae)))
(af (aD (i:=4) Gg.nd rfl (Or.inl rfl) (aH bj (ci (aa (cA (bH (pv 3)) aI aI) ae)) (vD (K:=K) rfl (pv 2) (cE ag) (cE ag))))
(af (aD (i:=5) Gg.nd rfl (Or.inl rfl) (aH bj (ci (aa (cA (bH (pv 3)) (cU tX (aG (ay K rfl) (pv 2) ag (λ_ _=>rfl)) (cE ag) bE) (aG (ay K rfl) (pv 2) ag (λ_ _=>rfl))) ae)) (vD (K:=K) rfl (pv 2) (cE ag) (cE ag))))
(af (aW (aA iz (cG K T (pv 4)) (cG K T (pv 5)) (ao _))
(aj (bT xt.ek ANoText (aa aI ae)))
aF)
(af (aD (i:=6) Gg.nd rfl (Or.inl rfl) (ci ae))
(af (ja PassesOwn.leaving rfl (qe K false false rfl rfl T.zip (aa (pv 4) (aa (pv 5) ae))) (iF K (i:=7) (j:=8) rfl rfl Gg.nd rfl rfl rfl rfl)
(af (aD (i:=9) Gg.nd rfl (Or.inl rfl) (cO Ky hr.m bQ (aa (pv 0) (aa (pv 8) ae))))
(af (aD (i:=10) Gg.nd rfl (Or.inl rfl) (dJ (de HN hr.m cj (bD Hx hr.m (pv 0)) (aa (cA (aA ba (pv 7) aI (ao _)) (kF g0 ag) ag) ae)) (de HP hr.m cj (bD Hx hr.m (pv 0)) (aa (cA (aA ba (pv 7) aI (ao _)) (kF g0 ag) ag) ae))))
(aj (eI (bmA K rfl (pv 6) (aa (by exact(gH (aa (aG (aL K rfl) (pv 9) ag (λ_ _=>rfl)) (aa (by exact(dJ (pD OI hr.m (bD Hx hr.m (pv 0)) (aa (aG (aL K rfl) (pv 9) ag (λ_ _=>rfl)) (aa (pv 10) ae))) (pD OJ hr.m (bD Hx hr.m (pv 0)) (aa (aG (aL K rfl) (pv 9) ag (λ_ _=>rfl)) (aa (pv 10) ae))))) ae)))) ae)))))))
(aj (au (aR NA hr.m (aa (pv 0) (aa (pv 6) ae))))))))))))),?_⟩
  refine⟨_,rfl,rfl,_,rfl,?_⟩
  by_cases h48:l=[48]
  ·rw[decide_eq_true (show V.str (tx l)=V.str (Str.ofString "0") from by rw[h48];rfl)]
   refine bC ⟨Nat.zero_le _,λd nd=>?_⟩
   refine q [] (by unfold rS;rw[if_pos h48]) d [] [] _ nd (FX.new nd) FY .nil ⟨?_,.nil⟩
   exact .refl _
  rw[decide_eq_false (show ¬V.str (tx l)=V.str (Str.ofString "0") from λz=>by
   injection z with z
   exact h48 ((Gs (b:=[48])).mp z))]
  have ok:=λqs=>C9 (qs:=qs) (n:=L.toNat) hP hl
  unfold rS at hn q ok;rw[if_neg h48] at hn q ok;refine bS ?_;refine⟨_,rfl,rfl,_,_,rfl,rfl,rfl,by rw[aK,sizeLine_eq];omega,λlw nl=>?_⟩
  rw[show Str.ofString " " = one 32 from rfl,ip 32 l ha (by decide)]
  cases hs:spl 32 l with
  |nil=>exact absurd hs (eX 32 l)
  |cons w0 ws=>
   obtain⟨b1,b2⟩:=Bf hs;have w0m:=eC 32 l w0 (by rw[hs];exact mem_cons_self)
   rw[hs] at hn q ok;dsimp only at hn q ok;generalize e0:upd H lw _=H1;obtain⟨s1,hl1⟩:=un e0 nl;clear e0;refine⟨_,rfl,lw,_,_,_,rfl,rfl,SqL.of hl1,aB (j:=0) rfl,rfl,_,_,rfl,rfl,?_⟩;rw[show Str.ofString "-" = one 45 from rfl,nN]
   dsimp only;have lsg:(sgs w0 ws).length<=8:=by
    have:=nw ws;have:=gm 32 l;rw[hs,length_cons] at this;unfold sgs;rw[length_cons];omega
   refine zK (t:=uz _ _) (s:=uz _ _) (λσ' H'=>∃(sa sb:Addr) (bv:V),σ'=[some (.ref g),some (.str (tx l)),some (.ref lw),some bv,some (.ref sa),some (.ref sb),none,none,none,none,none]/\FX H1 H'/\H' sa=some (.lst (((sgs w0 ws).map tx).map V.str))/\H' sb=some (.lst (((bds w0 ws).map tx).map V.str))) (λR hR=>?_) ?_
   ·have e1:(sgs w0 ws).length=1+(ev ws).length:=by unfold sgs;rw[length_cons,Nat.add_comm]
    have e2:(bds w0 ws).length=1+(ev ws.tail).length:=by unfold bds;rw[length_cons,Nat.add_comm]
    by_cases hc:w0[0]? = some 45
    ·rw[decide_eq_true hc];refine⟨_,rfl,_,rfl,bC ?_⟩;refine⟨zl,λa1 n1=>?_⟩
     generalize e0:upd H1 a1 _=H2;obtain⟨s2,ha1⟩:=un e0 n1;clear e0;refine⟨_,rfl,_,rfl,_,rfl,by decide,lw,_,rfl,SqL.of (s2 _ _ hl1),λa2 n2=>?_⟩
     rw[map_cons,map_cons,rX,gq,gq];generalize e0:upd H2 a2 _=H3;obtain⟨s3,ha2⟩:=un e0 n2;clear e0;refine⟨a1,a2,_,_,rfl,rfl,s3 _ _ ha1,ha2,by rw[length_map,length_map,length_singleton,sizeLine_eq];omega,λa3 n3=>?_⟩
     have s4:=FX.new (o:=.lst (((sgs w0 ws).map tx).map V.str)) n3;have ha3:(upd H3 a3 (.lst (((sgs w0 ws).map tx).map V.str))) a3=some (.lst (((sgs w0 ws).map tx).map V.str)):=FY;rw[show[V.str (one 45)]++((ev ws).map tx).map V.str=((sgs w0 ws).map tx).map V.str from by unfold sgs;rw[if_pos hc];rfl]
     generalize upd H3 a3 (.lst (((sgs w0 ws).map tx).map V.str))=H4 at *;have hl4:=s4 _ _ (s3 _ _ (s2 _ _ hl1));have ehd:Txt.slice (tx w0) (some 1) none=tx (w0.drop 1):=nQ (a:=1) (l:=w0) (by
      have:=(List.getElem?_eq_some_iff.mp hc).1;omega)
     refine⟨_,rfl,_,rfl,bC ⟨_,rfl,lw,_,_,_,rfl,rfl,SqL.of hl4,aB (j:=0) rfl,_,rfl,_,rfl,by rw[aK,sizeLine_eq];omega,?_⟩⟩
     refine⟨zl,λc1 m1=>?_⟩
     rw[ehd];generalize e0:upd H4 c1 _=H5;obtain⟨t2,hb1⟩:=un e0 m1;clear e0;refine⟨_,rfl,_,rfl,_,rfl,by decide,lw,_,rfl,SqL.of (t2 _ _ hl4),λc2 m2=>?_⟩
     rw[map_cons,map_cons,rC,<- map_tail,<- map_tail,gq,gq];generalize e0:upd H5 c2 _=H6;obtain⟨t3,hb2⟩:=un e0 m2;clear e0;refine⟨c1,c2,_,_,rfl,rfl,t3 _ _ hb1,hb2,by rw[length_map,length_map,length_singleton,sizeLine_eq];omega,λc3 m3=>?_⟩
     have t4:=FX.new (o:=.lst (((bds w0 ws).map tx).map V.str)) m3;rw[show[V.str (tx (w0.drop 1))]++((ev ws.tail).map tx).map V.str=((bds w0 ws).map tx).map V.str from by unfold bds;rw[if_pos hc];rfl]
     exact hR _ _ ⟨a3,c3,_,rfl,(s2.trans (s3.trans s4)).trans (t2.trans (t3.trans t4)),t4 _ _ (t3 _ _ (t2 _ _ ha3)),FY⟩
    ·rw[decide_eq_false hc];refine⟨_,rfl,_,rfl,bS ?_⟩;refine⟨zl,λa1 n1=>?_⟩
     generalize e0:upd H1 a1 _=H2;obtain⟨s2,ha1⟩:=un e0 n1;clear e0;refine⟨_,rfl,_,rfl,_,rfl,by decide,lw,_,rfl,SqL.of (s2 _ _ hl1),λa2 n2=>?_⟩
     rw[map_cons,map_cons,rX,gq,gq];generalize e0:upd H2 a2 _=H3;obtain⟨s3,ha2⟩:=un e0 n2;clear e0;refine⟨a1,a2,_,_,rfl,rfl,s3 _ _ ha1,ha2,by rw[length_map,length_map,length_singleton,sizeLine_eq];omega,λa3 n3=>?_⟩
     have s4:=FX.new (o:=.lst (((sgs w0 ws).map tx).map V.str)) n3;have ha3:(upd H3 a3 (.lst (((sgs w0 ws).map tx).map V.str))) a3=some (.lst (((sgs w0 ws).map tx).map V.str)):=FY;rw[show[V.str (Str.ofString "+")]++((ev ws).map tx).map V.str=((sgs w0 ws).map tx).map V.str from by unfold sgs;rw[if_neg hc];rfl]
     generalize upd H3 a3 (.lst (((sgs w0 ws).map tx).map V.str))=H4 at *;have hl4:=s4 _ _ (s3 _ _ (s2 _ _ hl1));refine⟨_,rfl,_,rfl,bS ⟨_,rfl,lw,_,_,_,rfl,rfl,SqL.of hl4,aB (j:=0) rfl,?_⟩⟩;refine⟨zl,λc1 m1=>?_⟩
     generalize e0:upd H4 c1 _=H5;obtain⟨t2,hb1⟩:=un e0 m1;clear e0;refine⟨_,rfl,_,rfl,_,rfl,by decide,lw,_,rfl,SqL.of (t2 _ _ hl4),λc2 m2=>?_⟩
     rw[map_cons,map_cons,rC,<- map_tail,<- map_tail,gq,gq];generalize e0:upd H5 c2 _=H6;obtain⟨t3,hb2⟩:=un e0 m2;clear e0;refine⟨c1,c2,_,_,rfl,rfl,t3 _ _ hb1,hb2,by rw[length_map,length_map,length_singleton,sizeLine_eq];omega,λc3 m3=>?_⟩
     have t4:=FX.new (o:=.lst (((bds w0 ws).map tx).map V.str)) m3;rw[show[V.str (tx w0)]++((ev ws.tail).map tx).map V.str=((bds w0 ws).map tx).map V.str from by unfold bds;rw[if_neg hc];rfl]
     exact hR _ _ ⟨a3,c3,_,rfl,(s2.trans (s3.trans s4)).trans (t2.trans (t3.trans t4)),t4 _ _ (t3 _ _ (t2 _ _ ha3)),FY⟩
   rintro σ' H2 ⟨sa,sb,bv,rfl,s2,hsa,hsb⟩;have sm2:=s1.trans s2;generalize hsg:sgs w0 ws=sg at *;generalize hbd:bds w0 ws=bd at *;refine⟨_,rfl,sa,_,rfl,.inl (SqL.of hsa),_,rfl,sb,_,rfl,.inl (SqL.of hsb),rfl,_,rfl,?_⟩;rw[length_map,length_map,length_map,length_map]
   by_cases hlen:sg.length=bd.length
   ·rw[decide_eq_true (by rw[hlen])]
    rw[if_pos hlen] at hn q ok;refine bS ⟨Nat.zero_le _,λd nd=>?_⟩
    generalize e0:upd H2 d _=H3;obtain⟨s3,hd3⟩:=un e0 nd;clear e0;have lm1:((sg.map tx).map V.str).length=sg.length:=by rw[length_map,length_map]
    have lm2:((bd.map tx).map V.str).length=bd.length:=by rw[length_map,length_map]
    refine⟨_,rfl,_,rfl,sa,sb,rfl,⟨_,fc (SqL.of (s3 _ _ hsa))⟩,⟨_,fc (SqL.of (s3 _ _ hsb))⟩,A6 (xs:=(sg.map tx).map V.str) (ys:=(bd.map tx).map V.str) (λi σ H'=>∃(x7 x8 x9 x10:Option V) (ts:List V) (acc:List aw),σ=[some (.ref g),some (.str (tx l)),some (.ref lw),some bv,some (.ref sa),some (.ref sb),some (.ref d),x7,x8,x9,x10]/\FX H2 H'/\H' d=some (.lst ts)/\F8 P H' ts acc/\acc.length=i/\((sg.zip bd).take i).foldlM (rS1 P L.toNat) []=some acc) ⟨none,none,none,none,[],[],rfl,s3,hd3,.nil,rfl,rfl⟩ ?_ ?_ ?_⟩
    ·rintro i σ H' _ ⟨x7,x8,x9,x10,ts,acc,rfl,sm,_⟩;exact⟨fc (SqL.of (sm _ _ hsa)),fc (SqL.of (sm _ _ hsb))⟩
    ·rintro i v y σ H4 t hv hy ⟨x7,x8,x9,x10,ts,acc,rfl,sm,hd4,pr4,li,hc⟩ nt N0 B0 hN0;rw[getElem?_map,getElem?_map] at hv hy;obtain⟨sy,es',hv⟩:=Option.map_eq_some_iff.mp hv;obtain⟨sx,es,hv'⟩:=Option.map_eq_some_iff.mp es';obtain⟨by',eb',hy⟩:=Option.map_eq_some_iff.mp hy
     obtain⟨bx,eb,hy'⟩:=Option.map_eq_some_iff.mp eb';clear es' eb';subst hv' hy' hv hy;have ez:(sg.zip bd)[i]? = some (sx,bx):=List.getElem?_zip_eq_some.mpr ⟨es,eb⟩;have at1:=jJ hc ez;obtain⟨bm1,bm2⟩:=b1 bx (mem_of_getElem? eb);have hi:i<bd.length:=(List.getElem?_eq_some_iff.mp eb).1;have fail:rP P L.toNat bx=none->Rz CT E H:=λe=>hn (lY (i+1) (at1.trans (by show(rP P L.toNat bx).map _=none;rw[e];rfl)))
     have s4:=FX.new (o:=.tup [.str (tx sx),.str (tx bx)]) nt;have h4:(upd H4 t (.tup [.str (tx sx),.str (tx bx)])) t=some (.tup [.str (tx sx),.str (tx bx)]):=FY;have pr5:=pr4.mono λt xs e=>s4 _ _ e
     generalize upd H4 t (.tup [.str (tx sx),.str (tx bx)])=H5 at *;have sm5:=sm2.trans (sm.trans s4);refine⟨t,_,rfl,SqT.of h4,rfl,_,_,rfl,_,_,rfl,rfl,?_⟩;refine⟨_,rfl,_,rfl,g,x,P,L,bx,rfl,hP,⟨dx,sm5 _ _ hg'⟩,hN.mono λo e=>sm5 _ _ e,hL0,hL,λc hc=>ha c (bm1 c hc),by omega,λe=>(fail e).go sm5,λp ep v6 H6 s6 hv6=>?_⟩
     have sm6:=sm5.trans s6;obtain⟨o1,o2,o3,o4⟩:=Dd hP (by omega) ep
     have at2:((sg.zip bd).take (i+1)).foldlM (rS1 P L.toNat) []=some (acc++[(p.1,iL P p.2 (sg1 P sx))]):=at1.trans (by show(rP P L.toNat bx).map _=_;rw[ep];rfl)
     obtain⟨t6,k6,u6,rfl,ht6,hk6,hu6⟩:=hv6;refine pG (a:=if sx=[45] then(-1:Int) else 1) (vs:=[.int (if sx=[45] then(-1:Int) else 1)]) hP (hN.mono λo e=>sm6 _ _ e) rfl (λZ z=>⟨_,rfl,g,dx,_,rfl,sm6 _ _ hg',rfl,g,x,L,rfl,⟨dx,sm6 _ _ hg'⟩,z⟩) (λZ z=>?_) λr7 H7 s7 A7=>?_
     ·refine⟨_,rfl,rfl,_,rfl,?_⟩
      by_cases hc:sx=[45]
      ·rw[decide_eq_true (show V.str (tx sx)=V.str (one 45) from congrArg V.str (by rw[hc];rfl))]
       rw[if_pos hc] at z;exact bC ⟨_,rfl,z⟩
      ·rw[decide_eq_false (show ¬V.str (tx sx)=V.str (one 45) from λw=>by
        injection w with w
        exact hc ((Gs (b:=[45])).mp w))]
       rw[if_neg hc] at z;exact bS z
     ·have A7:At P H7 r7 (sg1 P sx):=A7;have sm7:=sm6.trans s7;have hd7:=s7 _ _ (s6 _ _ (s4 _ _ hd4));have pr7:=pr5.mono λt xs e=>s7 _ _ (s6 _ _ e)
      have of1:=yW hP sx (k:=4300) (by decide)
      refine⟨_,rfl,.inl ⟨rfl,_,SqL.of hd7⟩,_,rfl,t6,_,_,_,rfl,rfl,SqT.of (s7 _ _ ht6),aB (j:=0) rfl,Dk _ _ (iL P p.2 (sg1 P sx)) (by unfold iL;rfl) (by decide +kernel) hP (hN.mono λo e=>sm7 _ _ e) (hu6.same s7) A7 o1 of1.1 (o2.mono (by decide)) of1.2 (λZ z=>⟨_,rfl,g,dx,_,rfl,sm7 _ _ hg',rfl,g,x,L,rfl,⟨dx,sm7 _ _ hg'⟩,z⟩) (λZ z=>⟨_,rfl,t6,_,_,_,rfl,rfl,SqT.of (s7 _ _ ht6),aB (j:=1) rfl,_,rfl,z⟩) λr8 H8 s8 A8=>?_⟩
      refine⟨zl,λt9 n9=>?_⟩
      generalize e0:upd H8 t9 _=H9;obtain⟨s9,h9⟩:=un e0 n9;clear e0;have s89:=s8.trans s9;have lts:ts.length=acc.length:=Paired.length pr4;have hd9:=s89 _ _ hd7;have keep:∀c xs,H9 c=some (.tup xs)->(upd H9 d (.lst (ts++[.ref t9]))) c=some (.tup xs):=λc xs e=>by rw[ar (iM e hd9 (by intro z;cases z))];exact e
      refine⟨d,_,_,rfl,rfl,hd9,by rw[sizeLine_eq];omega,hN0 _ _ ⟨_,_,_,_,_,_,rfl,(sm.trans (s4.trans (s6.trans (s7.trans s89)))).put nd,FY,?_,by rw[length_append,li];rfl,at2⟩⟩
      exact(F8.snoc (p:=(p.1,iL P p.2 (sg1 P sx))) ⟨t9,k6,r8,rfl,h9,s89 _ _ (s7 _ _ hk6),A8.same s9⟩ (pr7.mono λt xs e=>s89 _ _ e)).mono keep
    ·rintro σ H4 ⟨x7,x8,x9,x10,ts,acc,rfl,sm,hd4,pr4,li,hc⟩;rw[lm1,lm2,<- List.length_zip,take_length] at hc;have sm4:=sm2.trans sm;obtain⟨k1,k2⟩:=ok acc hc;refine⟨_,rfl,_,rfl,g,x,d,P,L,ts,acc,rfl,hP,⟨dx,sm4 _ _ hg'⟩,hN.mono λo e=>sm4 _ _ e,hd4,pr4,by omega,CI hP (S:=24) (n:=4) (by decide) (λp hp=>⟨(k2 p hp).1,(k2 p hp).2.1⟩) k1 (by decide) (by decide),λd5 rs out H5 n5 s5 h5 p5 is5=>?_⟩
     exact q acc hc d5 rs out H5 (sm4.free n5) (sm4.trans s5) h5 p5 is5
   ·rw[decide_eq_false (λz=>hlen (by injection z with z;omega))]
    rw[if_neg hlen] at hn;exact bC ⟨zl,hn rfl _ sm2⟩
def jW(K:Frag)(H:Hp)(v:V):Prop:=∃t,TyOf K H v t/\kitOne K t (.type "str")=some false
def jj(K:Frag)(CT:Addr):Sp:=λvs H Q E=>∃v,vs=[v]/\((∃x:Str,v=.str x/\Q .non H)\/(jW K H v/\E (.ref CT) none H))
def BX(P:Int)(n:Nat)(l:List Nat):Prop:=rS P n l=none\/∃qs out,rS P n l=some qs/\IsSum P qs out/\shS P out≠l
def rp(K:Frag)(CT CF CR CG:Addr):Sp:=λvs H Q E=>∃(g x:Addr) (P L:Int) (v:V),vs=[.ref g,v]/\((jW K H v/\E (.ref CT) none H) \/
 ∃l:List Nat,v=.str (tx l)/\F0 P/\cF CG H g x L/\F7 CF CR H x P/\0<=L/\L<=4/\(∀c∈l,c<128)/\l.length<=7/\(BX P L.toNat l->Rz CT E H)/\
 ∀ps,Gc P L ps->shS P ps=l->∀(d:Addr) (rs:List V) (H':Hp),H d=none->FX H H'->H' d=some (.lst rs)->F8 P H' rs ps->Q (.ref d) H')
theorem ow:FZ ["thing"] ["thing"] (ah gh):=.i
theorem zR{f CT:Addr}{fd:FuncData}(F:Fun K "check_text" "check_text" gh f fd)(T:Blt mg)(nstr:mg "str" = none)(ANoText:mg "NoText"=some (.ref CT))(xt:XCl K CT):F2 P w K mg base (CXE P w) 1 f fd ["thing"] (jj K CT):=by
 refine F.okX ow (λvs H Q E h=>?_) (λcdv A outer s H vs Q E hr h=>?_)
 ·obtain⟨x,rfl,_⟩:=h
  rfl
 ·obtain⟨v,rfl,q⟩:=h;refine⟨_,(aj (aW (cB (bH (hJ K T (pv 0) nstr bO)))
(aj (bT xt.ek ANoText (aa aI ae)))
aF)),?_⟩
  rcases q with⟨x,rfl,q⟩|⟨⟨t,ty,hk⟩,e⟩
  ·exact⟨_,rfl,_,true,.str _,rfl,_,rfl,bS q⟩
  ·exact⟨_,rfl,t,false,ty,hk,_,rfl,bC ⟨zl,e⟩⟩
theorem sc_read_sum:FZ ["ring", "text", "one"] ["ring", "text"] (ah i4):=.i
theorem xk{f CT CF CR CG:Addr}{fd:FuncData}(F:Fun K "read_sum" "read_sum" i4 f fd)(HB:cS P w K mg base 1 "check_text" (jj K CT))(HH:cS P w K mg base 1 "check_written" (lC CT))(Lm:cS P w K mg base 6 "rough_sum" (Aq CT CF CR CG))(Jf:FnB P w K mg base 4 "show_sum" (yF CF CR CG)):F2 P w K mg base (CXE P w) 7 f fd ["ring", "text"] (rp K CT CF CR CG):=by
 refine F.okX sc_read_sum (λvs H Q E h=>?_) (λcdv A outer s H vs Q E hr h=>?_)
 ·obtain⟨g,x,P,L,v,rfl,_⟩:=h
  rfl
 ·obtain⟨g,x,P,L,v,rfl,h⟩:=h;refine⟨_,(af (eI (cO HB hr.m bQ (aa (pv 1) ae)))
(af (aD (i:=2) sc_read_sum.nd rfl (Or.inl rfl) (cO Lm hr.m bQ (aa (pv 0) (aa (pv 1) ae))))
(af (eI (cO HH hr.m bQ (aa (aR Jf hr.m (aa (pv 0) (aa (pv 2) ae))) (aa (pv 1) ae))))
(aj (au (pv 2)))))),?_⟩
  rcases h with⟨hv,e⟩|⟨l,rfl,hP,hg,hN,hL0,hL,ha,hl,hb,q⟩
  ·exact⟨_,rfl,v,rfl,.inr ⟨hv,e⟩⟩
  ·obtain⟨dx,hg'⟩:=id hg;refine⟨_,rfl,_,rfl,.inl ⟨_,rfl,?_⟩⟩;refine⟨_,rfl,_,rfl,g,x,P,L,l,rfl,hP,hg,hN,hL0,hL,ha,hl,λe=>hb (.inl e),λqs hq d rs out H1 nd s1 hd pr is=>?_⟩
   obtain⟨k1,k2⟩:=C9 hP hl hq;obtain⟨c1,c2,c3⟩:=Ce (L:=L) hP (S:=24) (n:=4) (by decide) (λp hp=>⟨(k2 p hp).1,(k2 p hp).2.1,by rw[(k2 p hp).2.2.1];omega,λe he=>((k2 p hp).2.2.2 e he).1⟩) k1 is
   have hw:Gc P L out:=⟨c1.mono (by decide),hL,by omega,λp hp e he=>by
    obtain⟨r,hr,er⟩:=c3 p hp;rw[<- er] at he;exact((k2 r hr).2.2.2 e he).2⟩
   refine⟨_,rfl,_,rfl,g,x,d,P,L,rs,out,rfl,hP,⟨dx,s1 _ _ hg'⟩,hN.mono λo e=>s1 _ _ e,hd,pr,hw.2.2.1,hw.mono,λH2 s2=>?_⟩
   refine⟨_,rfl,_,_,rfl,λe=>?_,λe=>?_⟩
   ·exact⟨_,rfl,q out hw (Gs.mp e) d rs H2 nd (s1.trans s2) (s2 _ _ hd) (pr.mono λt xs e=>s2 _ _ e)⟩
   ·exact hb (.inr ⟨qs,out,hq,is,λz=>e (by rw[z])⟩) _ (s1.trans s2)
theorem nd_7:(["own", "entry"]:List Str).Nodup:=by decide +kernel
section
open PySem.StrLaws PySem.Builtin.Str
def Two(l:List Nat)(c d i:Nat):Prop:=l[i]? = some c/\l[i+1]? = some d
instance (l:List Nat) (c d i:Nat):Decidable (Two l c d i):=by unfold Two;infer_instance
theorem pX(x:Str)(c d limit:Nat)(hcd:c≠d):∀(n lo:Nat) (st:Array Nat×Nat),(st.snd<=lo\/(st.snd=lo+1/\¬Two x.cps.toList c d lo))->st.fst.size+n<=limit->
  (forIn (List.range' lo n) st (occBody x (two c d) x.length limit)).run.fst.toList=st.fst.toList++(List.range' lo n).filter λi=>decide (Two x.cps.toList c d i)
 |0,lo,st,_,_=>by simp
 |n+1,lo,st,h1,h2=>by
  rw[range'_succ,forIn_cons,filter_cons];unfold occBody;have key:=xK x c d lo
  by_cases hc:Two x.cps.toList c d lo
  ·have k:=key.mpr hc;have h1:st.snd<=lo:=by
    rcases h1 with z|⟨_,z⟩
    ·exact z
    ·exact absurd hc z
   rw[if_pos ⟨⟨⟨by omega,h1⟩,k.1⟩,k.2⟩,if_pos (decide_eq_true hc)]
   have ih:=pX x c d limit hcd n (lo+1) (st.fst.push lo,lo+(two c d).length) (.inr ⟨rfl,λz=>by have:=z.1;rw[hc.2] at this;injection this with this;exact hcd this.symm⟩) (by rw[Array.size_push];omega)
   show(forIn (List.range' (lo+1) n) (st.fst.push lo,lo+(two c d).length) (occBody x (two c d) x.length limit)).run.fst.toList=_;rw[ih,Array.toList_push,append_assoc]
   rfl
  ·rw[if_neg λh=>hc (key.mp ⟨h.1.2,h.2⟩),if_neg (by rw[decide_eq_false hc];decide)]
   have ih:=pX x c d limit hcd n (lo+1) (st.fst,st.snd) (.inl (by rcases h1 with z|⟨z,_⟩<;>show st.snd<=lo+1<;>omega)) (by show st.fst.size+n<=limit;omega)
   exact ih
def Nad(c d:Nat)(w:List Nat):Prop:=∀i,¬Two w c d i
theorem ES{pre w r:List Nat}{c d:Nat}(hcd:c≠d)(hw:Nad c d w){i:Nat}(h1:pre.length<=i)(h2:i<pre.length+w.length)(h:Two (pre++(w++c::d::r)) c d i):False:=by
 obtain⟨a,b⟩:=h;rw[getElem?_append_right h1,getElem?_append_left (by omega)] at a
 rw[getElem?_append_right (by omega)] at b
 by_cases e:i+1-pre.length<w.length
 ·rw[getElem?_append_left e] at b;exact hw (i-pre.length) ⟨a,by rw[show i-pre.length+1=i+1-pre.length by omega];exact b⟩
 ·rw[getElem?_append_right (by omega),show i+1-pre.length-w.length=0 by omega] at b
  have b:some c=some d:=b;injection b with b
  exact hcd b
theorem vP(x:Str)(c d:Nat)(hcd:c≠d):∀(ws:List (List Nat)) (pre:List Nat),ws≠[]->(∀w∈ws,Nad c d w)->x.cps.toList=pre++aN c d ws->
  (partsFrom x 2 pre.length ((List.range' pre.length (x.length+1-pre.length)).filter λi=>decide (Two x.cps.toList c d i))).map (·.cps.toList)=ws
 |[],_,h,_,_=>absurd rfl h
 |[w],pre,_,hw,hx=>by
  have hl:x.cps.toList.length=x.length:=by simp[Str.length]
  have hn:∀i∈List.range' pre.length (x.length+1-pre.length),¬(λi=>decide (Two x.cps.toList c d i)) i=true:=λi hi z=>by
   obtain⟨a,b⟩:=of_decide_eq_true z;have h1:=(List.mem_range'_1.mp hi).1;rw[hx,getElem?_append_right h1] at a;rw[hx,getElem?_append_right (by omega)] at b
   exact hw w (by simp) (i-pre.length) ⟨a,by rw[show i-pre.length+1=i+1-pre.length by omega];exact b⟩
  rw[List.filter_eq_nil_iff.mpr hn];show[(strSub x pre.length x.length).cps.toList]=[w];rw[strSub_toList,hx,drop_left,<- hl,hx,length_append];show[List.take (pre.length+w.length-pre.length) w]=[w];rw[take_of_length_le (by omega)]
 |w::v::ws,pre,_,hw,hx=>by
  have hl:x.cps.toList.length=x.length:=by simp[Str.length]
  have hx':x.cps.toList=pre++(w++c::d::aN c d (v::ws)):=hx;have hlen:x.length=pre.length+(w.length+(2+(aN c d (v::ws)).length)):=by rw[<- hl,hx'];simp;omega
  have at1:x.cps.toList[pre.length+w.length]? = some c:=by rw[hx',getElem?_append_right (by omega),getElem?_append_right (by omega)];simp
  have at2:x.cps.toList[pre.length+w.length+1]? = some d:=by rw[hx',getElem?_append_right (by omega),getElem?_append_right (by omega),show pre.length+w.length+1-pre.length-w.length=1 by omega];rfl
  rw[pb w.length pre.length _ (λi h1 h2=>decide_eq_false λz=>by
   rw[hx'] at z;exact ES hcd (hw w (by simp)) h1 h2 z) (by omega)]
  rw[show x.length+1-pre.length-w.length=(x.length+1-(pre.length+w.length+2))+1+1 by omega,range'_succ,filter_cons,if_pos (decide_eq_true ⟨at1,at2⟩),range'_succ,filter_cons,if_neg (by rw[decide_eq_false (λz=>by have:=z.1;rw[at2] at this;injection this with this;exact hcd this.symm)];decide)]
  have ih:=vP x c d hcd (v::ws) (pre++w++[c,d]) (by simp) (λu hu=>hw u (mem_cons_of_mem _ hu)) (by rw[hx'];simp)
  have lp:(pre++w++[c,d]).length=pre.length+w.length+2:=by simp;omega
  rw[lp] at ih;show(strSub x pre.length (pre.length+w.length)).cps.toList::(partsFrom x 2 (pre.length+w.length+2) _).map _=w::v::ws;rw[strSub_toList,hx',drop_left,show pre.length+w.length-pre.length=w.length by omega,List.take_left,<- hx']
  congr 1
theorem uj(c d:Nat)(hcd:c≠d)(hc:c<128)(hd:d<128){ws:List (List Nat)}(hn:ws≠[])(hw:∀w∈ws,Nad c d w)(ha:∀e∈aN c d ws,e<128):Txt.split (tx (aN c d ws)) (two c d)=ws.map tx:=by
 have hocc:occurrences (tx (aN c d ws)) (two c d) 0 (tx (aN c d ws)).length ((tx (aN c d ws)).length+1)=(List.range' 0 ((tx (aN c d ws)).length+1)).filter λi=>decide (Two (tx (aN c d ws)).cps.toList c d i):=by
  rw[occ_eq,Nat.sub_zero,pX _ c d _ hcd _ 0 _ (.inl (Nat.le_refl _)) (by simp)]
  simp
 have full:=vP (tx (aN c d ws)) c d hcd ws [] hn hw rfl;refine Av ?_;have one_of:(∀i:Nat,¬Two (aN c d ws) c d i)->[aN c d ws]=ws:=λh=>by
  cases ws with
  |nil=>exact absurd rfl hn
  |cons w r=>
   cases r with
   |nil=>rfl
   |cons v r=>exact absurd (show Two (w++c::d::aN c d (v::r)) c d w.length from⟨by simp,by rw[getElem?_append_right (by omega),show w.length+1-w.length=1 by omega];rfl⟩) (h w.length)
 unfold Txt.split
 split
 ·rename_i h;have k1:Builtin.Str.strKind (tx (aN c d ws))=1:=by
   unfold Builtin.Str.strKind;rw[if_pos];rw[Array.all_eq_true'];intro y hy;exact decide_eq_true (by have:=ha y (by have:=Array.mem_toList_iff.mpr hy;rwa [iA] at this);omega)
  have k2:Builtin.Str.strKind (two c d)=1:=by
   unfold Builtin.Str.strKind two;rw[if_pos];simp;omega
  rw[k1,k2,Bool.or_eq_true] at h
  rcases h with h|h
  ·have h:=of_decide_eq_true h;have hlt:(aN c d ws).length<2:=by rw[aK] at h;exact h
   exact one_of λi z=>by
    have:=(List.getElem?_eq_some_iff.mp z.2).1;omega
  ·exact absurd (of_decide_eq_true h) (by decide)
 ·split
  ·rename_i h;rw[hocc,List.isEmpty_iff] at h;exact one_of λi z=>by
    have hi:=(List.getElem?_eq_some_iff.mp z.1).1;have:i∈(List.range' 0 ((tx (aN c d ws)).length+1)).filter λi=>decide (Two (tx (aN c d ws)).cps.toList c d i):=List.mem_filter.mpr ⟨by rw[List.mem_range'_1,aK];omega,decide_eq_true z⟩
    rw[h] at this;cases this
  ·rw[partsBetween_eq,hocc];exact full
def hdc(a:Nat):List (List Nat)->List (List Nat)
 |[]=>[[a]]
 |w::ws=>(a::w)::ws
def bZ(c d:Nat):List Nat->List (List Nat)
 |[]=>[[]]
 |[a]=>[[a]]
 |a::b::r=>if a=c/\b=d then[]::bZ c d r else hdc a (bZ c d (b::r))
theorem wL(c d a:Nat):∀ws:List (List Nat),aN c d (hdc a ws)=a::aN c d ws
 |[]=>rfl
 |[w]=>rfl
 |w::v::ws=>rfl
theorem lK(c d:Nat):∀l:List Nat,bZ c d l≠[]
 |[]=>by simp[bZ]
 |[a]=>by simp[bZ]
 |a::b::r=>by
  unfold bZ
  split
  ·simp
  ·cases bZ c d (b::r)<;>simp[hdc]
theorem jl(c d:Nat):∀l:List Nat,aN c d (bZ c d l)=l/\(∀w∈bZ c d l,Nad c d w)/\∀w ws,bZ c d l=w::ws->w[0]? = none\/w[0]? = l[0]?
 |[]=>by
  refine⟨rfl,λw hw i h=>?_,λw ws h=>?_⟩
  ·rw[List.mem_singleton.mp hw] at h;cases h.1
  ·injection h with h _
   rw[<- h];exact .inl rfl
 |[a]=>by
  refine⟨rfl,λw hw i h=>?_,λw ws h=>?_⟩
  ·rw[List.mem_singleton.mp hw] at h;have:=(List.getElem?_eq_some_iff.mp h.2).1;simp at this
  ·injection h with h _
   rw[<- h];exact .inr rfl
 |a::b::r=>by
  unfold bZ
  split
  ·rename_i h;obtain⟨h1,h2,_⟩:=jl c d r;refine⟨?_,λw hw=>?_,λw ws e=>?_⟩
   ·cases hs:bZ c d r with
    |nil=>exact absurd hs (lK c d r)
    |cons w ws=>
     show[]++c::d::aN c d (w::ws)=_;rw[<- hs,h1,h.1,h.2]
     rfl
   ·rcases List.mem_cons.mp hw with z|z
    ·rw[z];exact λi h=>by cases h.1
    ·exact h2 w z
   ·injection e with e _
    rw[<- e];exact .inl rfl
  ·rename_i h;obtain⟨h1,h2,h3⟩:=jl c d (b::r);refine⟨by rw[wL,h1],λw hw=>?_,λw ws e=>?_⟩
   ·cases hs:bZ c d (b::r) with
    |nil=>exact absurd hs (lK c d _)
    |cons v vs=>
     rw[hs] at hw h2
     rcases List.mem_cons.mp hw with z|z
     ·rw[z];intro i hi;cases i with
      | zero=>
       obtain⟨p,q⟩:=hi;have p:some a=some c:=p;have q:v[0]? = some d:=q;injection p with p
       rcases h3 v vs hs with y|y
       ·rw[y] at q;cases q
       ·rw[y] at q;have q:some b=some d:=q;injection q with q
        exact h ⟨p,q⟩
      | succ i=>exact h2 v mem_cons_self i hi
     ·exact h2 w (mem_cons_of_mem _ z)
   ·cases hs:bZ c d (b::r) with
    |nil=>exact absurd hs (lK c d _)
    |cons v vs=>
     rw[hs] at e;injection e with e _
     rw[<- e];exact .inr rfl
theorem xT(c d:Nat)(hcd:c≠d)(hc:c<128)(hd:d<128)(l:List Nat)(hl:∀e∈l,e<128):Txt.split (tx l) (two c d)=(bZ c d l).map tx:=by
 obtain⟨h1,h2,_⟩:=jl c d l;have:=uj c d hcd hc hd (lK c d l) h2 (by rw[h1];exact hl)
 rw[h1] at this;exact this
end
theorem B6(x:V)(xs:List V):atI (x::xs) 0=some x:=aB (xs:=x::xs) (j:=0) rfl
theorem lM(P:Int)(out:List aw):PyData.eqv (dS P out) (dS P [])=decide (out=[]):=by
 cases out with
 |nil=>exact SeqAt.eqv_refl _ (SeqAt.canLay_of_shaped (cm P []))
 |cons p r=>
  rw[decide_eq_false (by simp)]
  simp[dS,PyData.eqv,PyData.eqvAll]
def lvl(ps:List aw):Bool:=match ps with
 |[]=>true
 |p::r=>decide (p.1.sum=((p::r).getLast (by simp)).1.sum)
def o0:Sp:=λvs H Q _=>∃(l:Addr) (P:Int) (ts:List V) (ps:List aw),vs=[.ref l]/\H l=some (.lst ts)/\F8 P H ts ps/\∀H',FX H H'->Q (.bl (lvl ps)) H'
def vq:Sp:=λvs H Q _=>∃(l:Addr) (P:Int) (ts:List V) (ps:List aw),vs=[.ref l]/\H l=some (.lst ts)/\F8 P H ts ps/\∀H',FX H H'->Q (match ps with|[]=>.non|p::_=>.int p.1.sum) H'
theorem nZ{xs:List V}{x:V}(h:xs.getLast? = some x):atI xs (-1)=some x:=by
 have hn:0<xs.length:=by
  cases xs with
  |nil=>cases h
  |cons y r=>simp
 have e0:ixN xs.length (-1)=some (xs.length-1):=by
  unfold ixN;rw[if_neg (by decide)]
  first
  |(rw[if_pos (by omega)];congr 1;omega)
  |(simp;omega)
  |(split<;>simp_all<;>omega)
 have e:atI xs (-1)=xs[xs.length-1]?:=by
  unfold atI;rw[e0]
  rfl
 rw[e,<- h,List.getLast?_eq_getElem?]
theorem sv:FZ ["one"] ["one"] (ah iY):=.i
theorem uf{f:Addr}{fd:FuncData}(F:Fun K "is_level" "is_level" iY f fd)(HG:FnB P w K mg base 1 "degree" (tK K)):F2 P w K mg base CX0 2 f fd ["one"] o0:=by
 refine F.o sv λ_ _ _ _ H _ Q _ hr h=>?_
 ·obtain⟨l,P,ts,ps,rfl,hl,hps,q⟩:=h;refine⟨_,(aj (au (Fl (bF (rV K rfl hr.units) (pv 0) (ci ae) (ao _)) (du (bF ba (aR HG hr.m (aa (aG (aL K rfl) (aG (ay K rfl) (pv 0) ag (λ_ _=>rfl)) ag (λ_ _=>rfl)) ae)) (aR HG hr.m (aa (aG (aL K rfl) (aG (ay K rfl) (pv 0) (kF g0 ag) (λ_ _=>rfl)) ag (λ_ _=>rfl)) ae)) (ao _)))))),?_⟩
  refine⟨_,rfl,Nat.zero_le _,λe ne=>?_⟩
  have s1:=FX.new (o:=.lst []) ne;have hl1:=s1 _ _ hl;have pr1:=hps.mono λt xs e=>s1 _ _ e
  refine⟨dS P ps,dS P [],ir hl1 pr1,ir FY .nil,cm _ _,cm _ _,?_⟩;rw[lM];cases ps with
  |nil=>exact⟨_,rfl,bC (q _ s1)⟩
  |cons p r=>
   rw[decide_eq_false (by simp)]
   refine⟨_,rfl,bS ?_⟩;have lt:ts.length=(p::r).length:=Paired.length hps;obtain⟨p0,e0,t0,k0,u0,ev0,h01,h02,_⟩:=pr1.at_ (i:=0) (getElem?_eq_getElem (show 0<ts.length by rw[lt];simp))
   obtain⟨p9,e9,t9,k9,u9,ev9,h91,h92,_⟩:=pr1.at_ (i:=ts.length-1) (getElem?_eq_getElem (show ts.length-1<ts.length by rw[lt];simp))
   have ep0:p=p0:=Option.some.inj e0;have ep9:(p::r).getLast (by simp)=p9:=by
    rw[lt] at e9;rw[List.getLast_eq_getElem];rw[getElem?_eq_getElem (by simp)] at e9
    exact Option.some.inj e9
   refine⟨_,rfl,l,_,_,_,rfl,rfl,SqL.of hl1,(aB (j:=0) (by rw[getElem?_eq_getElem (show 0<ts.length by rw[lt];simp),ev0])),t0,_,_,_,rfl,rfl,SqT.of h01,rfl,k0,p0.1,rfl,SqT.of h02,?_⟩
   refine⟨_,rfl,_,rfl,l,_,_,_,rfl,rfl,SqL.of hl1,(nZ (by rw[List.getLast?_eq_getElem?,getElem?_eq_getElem (show ts.length-1<ts.length by rw[lt];simp),ev9])),t9,_,_,_,rfl,rfl,SqT.of h91,rfl,k9,p9.1,rfl,SqT.of h92,rfl,?_⟩
   have z:Q (.bl (decide (p.1.sum=((p::r).getLast (by simp)).1.sum))) _:=q _ s1
   rw[ep9,ep0] at z;have e:decide (V.int p0.1.sum=V.int p9.1.sum)=decide (p0.1.sum=p9.1.sum):=decide_eq_decide.mpr ⟨λz=>by injection z,λz=>by rw[z]⟩
   rw[e];exact z
theorem y8:FZ ["one"] ["one"] (ah qT):=.i
theorem AH{f:Addr}{fd:FuncData}(F:Fun K "level" "level" qT f fd)(HG:FnB P w K mg base 1 "degree" (tK K)):F2 P w K mg base CX0 2 f fd ["one"] vq:=by
 refine F.o y8 λ_ _ _ _ H _ Q _ hr h=>?_
 ·obtain⟨l,P,ts,ps,rfl,hl,hps,q⟩:=h;refine⟨_,(af (aW (aA (rV K rfl hr.units) (pv 0) (ci ae) (ao _))
(aj (au qB))
aF)
(aj (au (aR HG hr.m (aa (aG (aL K rfl) (aG (ay K rfl) (pv 0) ag (λ_ _=>rfl)) ag (λ_ _=>rfl)) ae))))),?_⟩
  refine⟨_,rfl,Nat.zero_le _,λe ne=>?_⟩
  have s1:=FX.new (o:=.lst []) ne;have hl1:=s1 _ _ hl;have pr1:=hps.mono λt xs e=>s1 _ _ e
  refine⟨dS P ps,dS P [],ir hl1 pr1,ir FY .nil,cm _ _,cm _ _,?_⟩;rw[lM];cases ps with
  |nil=>exact⟨_,rfl,bC (q _ s1)⟩
  |cons p r=>
   rw[decide_eq_false (by simp)]
   refine⟨_,rfl,bS ?_⟩;have lt:ts.length=(p::r).length:=Paired.length hps;obtain⟨p0,e0,t0,k0,u0,ev0,h01,h02,_⟩:=pr1.at_ (i:=0) (getElem?_eq_getElem (show 0<ts.length by rw[lt];simp))
   have ep0:p=p0:=Option.some.inj e0;subst ep0;exact⟨_,rfl,l,_,_,_,rfl,rfl,SqL.of hl1,(aB (j:=0) (by rw[getElem?_eq_getElem (show 0<ts.length by rw[lt];simp),ev0])),t0,_,_,_,rfl,rfl,SqT.of h01,rfl,k0,p.1,rfl,SqT.of h02,q _ s1⟩
def lv1(c:Int):List aw->List Int
 |q::_=>[c+q.1.sum]
 |[]=>[]
def aM:List Int->List (List aw)->List Int
 |c::cs,e::r=>lv1 c e++aM cs r
 |_,_=>[]
theorem jE{c:Int}{e:List aw}:∀{cs:List Int} {r:List (List aw)},cs.length=r.length->aM (cs++[c]) (r++[e])=aM cs r++lv1 c e
 |[],[],_=>by
  show lv1 c e++[]=_;rw[append_nil]
  rfl
 |[],_::_,h=>by simp at h
 |_::_,[],h=>by simp at h
 |d::cs,f::r,h=>by
  show lv1 d f++aM (cs++[c]) (r++[e])=lv1 d f++aM cs r++_;rw[jE (by simpa using h),append_assoc]
theorem gY:∀(cs:List Int) (r:List (List aw)),(aM cs r).length<=r.length
 |[],_=>by simp[aM]
 |_::_,[]=>by simp[aM]
 |d::cs,f::r=>by
  have z:=gY cs r;show(lv1 d f++aM cs r).length<=_;rw[length_append,length_cons];cases f<;>simp[lv1]<;>omega
theorem kM:∀(cs:List Int) (r:List (List aw)),b5 cs r=(aM cs r).head?
 |[],_=>by simp[aM,b5]
 |_::_,[]=>by simp[aM,b5]
 |d::cs,f::r=>by
  cases f with
  |nil=>
   show b5 cs r=(aM cs r).head?;exact kM cs r
  |cons q t=>rfl
def dL(ns:List Int):PyData:=.list (ns.map .int)
theorem o7{K:Frag}{H:Hp}{l:Addr}{ns:List Int}(h:H l=some (.lst (ns.map V.int))):DR K H (dL ns) (.ref l):=.lst (SqL.of h) (md ns)
theorem fq(ns:List Int):SeqAt.shaped (dL ns)=true:=by
 simp[dL,SeqAt.shaped,PyData.canLay0,PyData.depth,PySem.W.ke_canLayAll0,PySem.W.ke_depthAll]
theorem ul(ns ms:List Int):PyData.eqv (dL ns) (dL ms)=decide (ns=ms):=by
 simp only[dL,PyData.eqv];exact g7 ns ms
def ui:Sp:=λvs H Q _=>∃(c r:Addr) (P:Int) (cs:List Int) (es:List V) (row:List (List aw)),vs=[.ref c,.ref r]/\H c=some (.lst (cs.map V.int))/\H r=some (.lst es)/\Paired (EntR P H) es row/\row.length=cs.length/\row.length<=60/\∀l H',H l=none->FX H H'->H' l=some (.lst ((aM cs row).map V.int))->Q (.ref l) H'
theorem kR:FZ ["columns", "row"] ["columns", "row"] (ah fH):=.i
theorem B9{f:Addr}{fd:FuncData}(F:Fun K "entry_levels" "entry_levels" fH f fd)(T:Blt mg)(Ot:FnB P w K mg base 2 "level" vq):F2 P w K mg base CX0 3 f fd ["columns", "row"] ui:=by
 refine F.o kR λ_ _ _ _ H _ Q _ hr h=>?_
 ·obtain⟨c,r,P,cs,es,row,rfl,hc,hr',pr,lrc,hn,q⟩:=h;have le:es.length=row.length:=Paired.length pr;refine⟨_,(aj (au (by exact cD (N:=["own", "entry"]) (src:=[none,none]) rfl rfl rfl (by exact(qe K false false rfl rfl T.zip (aa (pv 0) (aa (pv 1) ae)))) (λ_ _ _=>by exact⟨by exact(iF K (i:=0) (j:=1) rfl rfl nd_7 rfl rfl rfl rfl),(qL (aA (B8 K rfl hr.units) (pv 1) (ci ae) (ao _))),by exact(aH cN (pv 0) (aR Ot hr.m (aa (pv 1) ae)))⟩)))),?_⟩
  refine⟨_,rfl,_,rfl,c,r,rfl,⟨_,fc (SqL.of hc)⟩,⟨_,fc (SqL.of hr')⟩,fe (n:=es.length) (σ0:=[none,none]) rfl (λacc i ws σ H'=>∃u v:Option V,σ=[u,v]/\FX H H'/\ws=(aM (cs.take i) (row.take i)).map V.int) (by rw[sizeLine_eq];omega) (λacc hacc=>⟨none,none,rfl,FX.new hacc,rfl⟩) ?_ ?_ ?_ ?_⟩
  ·rintro acc i ws σ H' hacc hi hz ⟨u,v,rfl,sm,_⟩;exact⟨cs.map V.int,es,(cs.map V.int)[i]'(by rw[length_map];omega),es[i],fc (SqL.of (sm _ _ hc)),fc (SqL.of (sm _ _ hr')),getElem?_eq_getElem _,by simp[hi]⟩
  ·rintro acc ws σ H' hacc hz ⟨u,v,rfl,sm,_⟩;exact⟨cs.map V.int,es,fc (SqL.of (sm _ _ hc)),fc (SqL.of (sm _ _ hr')),.inr (Nat.le_refl _)⟩
  ·rintro acc i ws σ H1 x H' hacc hi hz hzl ⟨u,v,rfl,sm,rfl⟩ ⟨p,x1,y1,rfl,np,rfl,gx,gy⟩;have hx:=gx _ (fc (SqL.of (sm _ _ hc)));have hy:=gy _ (fc (SqL.of (sm _ _ hr')));obtain⟨z,ez,rfl⟩:=iI hx;obtain⟨e,ee,l,ts,rfl,hl,pe⟩:=dU pr hy;generalize e0:upd H1 p _=H2;obtain⟨s2,h2⟩:=un e0 np;clear e0;have ic:i<cs.length:=(List.getElem?_eq_some_iff.mp ez).1;have lt:(cs.take i).length=(row.take i).length:=by rw[length_take,length_take,lrc]
   have e1:aM (cs.take (i+1)) (row.take (i+1))=aM (cs.take i) (row.take i)++lv1 z e:=by
    rw[take_add_one,take_add_one,ez,ee];exact jE lt
   have ll:=gY (cs.take i) (row.take i);rw[length_take] at ll;refine⟨p,_,rfl,SqT.of h2,rfl,_,_,rfl,_,_,rfl,rfl,?_⟩;refine⟨_,rfl,Nat.zero_le _,λl4 n4=>?_⟩
   generalize e0:upd H2 l4 _=H4;obtain⟨s4,h4⟩:=un e0 n4;clear e0;have sm4:=(sm.trans s2).trans s4;refine⟨dS P e,dS P [],ir (sm4 _ _ hl) (pe.mono λt xs e=>sm4 _ _ e),ir h4 .nil,cm _ _,cm _ _,_,rfl,?_⟩
   rw[lM];have hz4:=s4 _ _ (s2 _ _ hz);cases e with
   |nil=>
    refine bS ⟨_,hz4,by rw[length_map];omega,_,_,rfl,sm4,?_⟩
    rw[e1,show lv1 z []=[] from rfl,append_nil]
   |cons q0 t0=>
    refine bC ⟨_,rfl,_,rfl,l,P,ts,q0::t0,rfl,sm4 _ _ hl,pe.mono (λt xs e=>sm4 _ _ e),λH5 s5=>⟨_,_,rfl,rfl,?_⟩⟩
    refine⟨_,s5 _ _ hz4,by rw[length_map,sizeLine_eq];omega,_,FY,by rw[length_append,length_map,length_singleton];omega,_,_,rfl,(sm4.trans s5).put hacc,?_⟩
    rw[e1,map_append]
    rfl
  ·rintro acc ws σ H1 hacc hz hzl ⟨u,v,rfl,sm,rfl⟩;refine q acc H1 hacc sm ?_;rw[hz,take_of_length_le (by omega),take_of_length_le (by omega)]
theorem sc_row_level:FZ ["columns", "row", "levels"] ["columns", "row"] (ah hV):=.i
theorem BB{f:Addr}{fd:FuncData}(F:Fun K "row_level" "row_level" hV f fd)(T:Blt mg)(HQ:FnB P w K mg base 3 "entry_levels" ui):F2 P w K mg base CX0 4 f fd ["columns", "row"] (λvs H Q E=>∃(c r:Addr) (P:Int) (cs:List Int) (es:List V) (row:List (List aw)),vs=[.ref c,.ref r]/\H c=some (.lst (cs.map V.int))/\H r=some (.lst es)/\Paired (EntR P H) es row/\row.length=cs.length/\row.length<=60/\∀H',FX H H'->Q (qM cs row) H'):=by
 refine F.o sc_row_level λ_ _ _ _ H _ Q _ hr h=>?_
 ·obtain⟨c,r,P,cs,es,row,rfl,hc,hr',pr,lrc,hn,q⟩:=h;refine⟨_,(af (aD (i:=2) sc_row_level.nd rfl (Or.inl rfl) (aR HQ hr.m (aa (pv 0) (aa (pv 1) ae))))
(af (aW (aA (rV K rfl hr.units) (pv 2) (ci ae) (ao _))
(aj (au qB))
aF)
(aj (au (aG (ay K rfl) (pv 2) ag (λ_ _=>rfl)))))),?_⟩
  refine⟨_,rfl,_,rfl,c,r,P,cs,es,row,rfl,hc,hr',pr,lrc,hn,λl H1 nl s1 hl=>?_⟩
  refine⟨_,rfl,Nat.zero_le _,λl2 n2=>?_⟩
  generalize e0:upd H1 l2 _=H2;obtain⟨s2,h2⟩:=un e0 n2;clear e0;refine⟨dL (aM cs row),dL [],o7 (s2 _ _ hl),o7 h2,fq _,fq _,_,rfl,?_⟩;rw[ul];have z:=q H2 (s1.trans s2);unfold qM at z;rw[kM] at z;have hl2:=s2 _ _ hl;cases e:aM cs row with
  |nil=>
   rw[e] at z;exact bC z
  |cons x xs=>
   rw[e] at z hl2;exact bS ⟨_,rfl,l,_,_,_,rfl,rfl,SqL.of hl2,B6 _ _,z⟩
theorem El:(["entry", "ring"]:List Str).Nodup:=by decide +kernel
theorem nd_9:(["own"]:List Str).Nodup:=by decide +kernel
theorem E4:(["row", "ring"]:List Str).Nodup:=by decide +kernel
theorem bU{K:Frag}{a:Addr}{xs:List V}{src:List (Option Nat)}{te:TE}{Q:VK}{σ rest:L2.St}{H0:Hp}(hσ:dC src σ=none::rest)(f:Nat->V)(hx:H0 a=some (.lst xs))(hn:xs.length<=60)
  (turn:∀i v H (R:VK),xs[i]? = some v->FX H0 H->(∀H2,FX H H2->R (f i) H2)->te (some v::rest) H R)
  (hd:∀acc H,H0 acc=none->FX H0 H->H acc=some (.lst ((List.range xs.length).map f))->Q (.ref acc) H) :
  da (Itl K a) src (di 0) oh te σ H0 Q:=by
 refine fe (n:=xs.length) (σ0:=none::rest) hσ (λacc i zs σ H=>(∃u,σ=u::rest)/\FX H0 H/\zs=(List.range i).map f) (by rw[sizeLine_eq];omega) (λacc hacc=>⟨⟨none,rfl⟩,FX.new hacc,rfl⟩) ?_ ?_ ?_ ?_
 ·rintro acc i zs σ H hacc hi hz ⟨⟨u,rfl⟩,sm,_⟩;exact⟨xs,xs[i],SqL.of (sm _ _ hx),by simp[hi]⟩
 ·rintro acc zs σ H hacc hz ⟨⟨u,rfl⟩,sm,_⟩;exact⟨xs,SqL.of (sm _ _ hx),Nat.le_refl _⟩
 ·rintro acc i zs σ H x H' hacc hi hz hzl ⟨⟨u,rfl⟩,sm,rfl⟩ ⟨rfl,gx⟩;refine turn i x _ _ (gx xs (SqL.of (sm _ _ hx))) sm λH2 s2=>?_
  refine⟨_,s2 _ _ hz,by rw[length_map,length_range,sizeLine_eq];omega,_,FY,by rw[length_append,length_map,length_range];exact Nat.le_refl _,⟨_,rfl⟩,(sm.trans s2).put hacc,?_⟩
  rw[range_succ,map_append]
  rfl
 ·rintro acc zs σ H hacc hz hzl ⟨_,sm,rfl⟩;exact hd acc H hacc sm hz
theorem ff{α β:Type}(xs:List α)(d:α)(g:α->β):(List.range xs.length).map (λi=>g (xs.getD i d))=xs.map g:=by
 refine ext_getElem (by simp) λi h1 h2=>?_
 rw[getElem_map,getElem_map,getElem_range,getD_eq_getElem?_getD,getElem?_eq_getElem (by simpa using h1)]
 rfl
theorem fg{α:Type}{xs:List α}{i:Nat}{x d:α}(h:xs[i]? = some x):xs.getD i d=x:=by rw[getD_eq_getElem?_getD,h];rfl
def cI(c:Int):List Nat:=if c<0 then 45::az c.natAbs else az c.natAbs
theorem nG(c:Int):Str.ofString (toString c)=tx (cI c):=by
 by_cases h:c<0
 ·unfold cI;rw[if_pos h];obtain⟨n,rfl⟩:=Int.eq_negSucc_of_lt_zero h;have e:toString (Int.negSucc n)="-" ++ toString (((n+1:Nat):Int)):=rfl;have e2:=tD (n+1);refine StrLaws.mk_of_toList ?_;have e3:=congrArg (λx:Str=>x.cps.toList) e2
  have e3:(Str.ofString (toString ((n+1:Nat):Int))).cps.toList=az (n+1):=e3;rw[signs_ofString] at e3;rw[e,signs_ofString,String.toList_append,map_append,e3]
  rfl
 ·unfold cI;rw[if_neg h];exact cR (by omega)
theorem DU{c:Int}:∀x∈cI c,x=45\/(48<=x/\x<=57):=λx hx=>by
 unfold cI at hx
 split at hx
 ·rcases List.mem_cons.mp hx with z|z
  ·exact .inl z
  ·exact .inr (cJ z)
 ·exact .inr (cJ hx)
theorem yd{c:Int}(h:c.natAbs<10^10):(cI c).length<=11:=by
 have:=bh (k:=10) (by decide) h
 unfold cI
 split
 ·rw[length_cons];omega
 ·omega
def shR(P:Int)(row:List (List aw)):List Nat:=aN 44 32 (row.map (shS P))
def hdR(P L:Int):List Nat:=if P=0 then[102,114,97,99,116,105,111,110,115,32]++az L.natAbs else[114,101,115,116,115,32]++az P.natAbs++32::az L.natAbs
def aZ(cs:List Int):List Nat:=aT 32 ([99,111,108,117,109,110,115]::cs.map cI)
def shT(P L:Int)(cs:List Int)(rows:List (List (List aw))):List Nat:=aT 10 (hdR P L::aZ cs::rows.map (shR P))
def fY(cs:List Int):Prop:=1<=cs.length/\cs.length<=3/\∀c∈cs,c.natAbs<100
theorem fj(c d:Nat){B:Nat}:∀ws:List (List Nat),(∀w∈ws,w.length<=B)->(aN c d ws).length<=ws.length*(B+2)
 |[],_=>Nat.zero_le _
 |[w],h=>by
  have:=h w (by simp)
  show w.length<=1*(B+2);omega
 |w::v::ws,h=>by
  have h1:=h w (by simp)
  have ih:=fj c d (v::ws) λu hu=>h u (by simp only[mem_cons] at hu ⊢;exact .inr hu)
  show(w++c::d::aN c d (v::ws)).length<=_;rw[length_append,length_cons,length_cons,length_cons,Nat.succ_mul];omega
theorem Fq{P L:Int}{row:List (List aw)}(hn:row.length<=3)(hw:∀e∈row,Gc P L e):(shR P row).length<=181000:=by
 have:=fj 44 32 (B:=60000) (row.map (shS P)) λw hw'=>by
  obtain⟨e,he,rfl⟩:=List.mem_map.mp hw';exact Dl (hw e he).2.2.1 (hw e he).mono
 rw[length_map] at this;have h2:row.length*(60000+2)<=3*60002:=Nat.mul_le_mul_right _ hn;unfold shR;omega
theorem FI{P L:Int}(hP:F0 P)(hL:L<=4)(h0:0<=L):(hdR P L).length<=60:=by
 have hB:=hP.b;have l1:(az L.natAbs).length<=20:=bh (by decide) (Nat.lt_of_le_of_lt (show L.natAbs<=4 by omega) (by decide +kernel))
 have l2:(az P.natAbs).length<=20:=bh (by decide) (Nat.lt_of_le_of_lt (show P.natAbs<=9973 by omega) (by decide +kernel))
 unfold hdR
 split<;>simp<;>omega
theorem DG{cs:List Int}(h:fY cs):(aZ cs).length<=60:=by
 have hw:∀w∈([99,111,108,117,109,110,115]:List Nat)::cs.map cI,w.length<=11:=λw hw=>by
  rcases List.mem_cons.mp hw with z|z
  ·rw[z]
   decide
  ·obtain⟨c,hc,rfl⟩:=List.mem_map.mp z;exact yd (Nat.lt_trans (h.2.2 c hc) (by decide +kernel))
 have:=dj 32 _ hw;have h3:=h.2.1;rw[length_cons,length_map] at this;unfold aZ;omega
theorem ye{P L:Int}{cs:List Int}{rows:List (List (List aw))}(hP:F0 P)(hL0:0<=L)(hL4:L<=4)(hcs:fY cs)(h5:rows.length<=5)(hw:∀row∈rows,row.length<=3/\∀e∈row,Gc P L e):JoinOk (Str.ofString "\n") ((hdR P L::aZ cs::rows.map (shR P)).map tx)=true:=by
 unfold JoinOk;rw[Bool.not_eq_true'];refine StrLaws.joinFits (B:=181000) (λy hy=>?_) ?_
 ·obtain⟨w,hw',rfl⟩:=List.mem_map.mp hy;rw[aK]
  rcases List.mem_cons.mp hw' with z|z
  ·rw[z];have:=FI hP hL4 hL0;omega
  ·rcases List.mem_cons.mp z with z|z
   ·rw[z];have:=DG hcs;omega
   ·obtain⟨r,hr',rfl⟩:=List.mem_map.mp z;exact Fq (hw r hr').1 (hw r hr').2
 ·rw[length_map,length_cons,length_cons,length_map];show(rows.length+1+1)*181000+(rows.length+1+1)*1<=16777216;omega
def C5(CF CR CG:Addr):Sp:=λvs H Q _=>∃(g x:Addr) (P L:Int) (v:V) (row:List (List aw)),vs=[.ref g,v]/\F0 P/\cF CG H g x L/\F7 CF CR H x P/\RowR P H v row/\row.length<=3/\(∀e∈row,Gc P L e)/\∀H',FX H H'->Q (.str (tx (shR P row))) H'
def Dj(CF CR CG:Addr):Sp:=λvs H Q _=>∃(g x:Addr) (P L:Int),vs=[.ref g]/\F0 P/\cF CG H g x L/\F7 CF CR H x P/\0<=L/\L<=4/\Q (.str (tx (hdR P L))) H
def Da(CF CR CG:Addr):Sp:=λvs H Q _=>∃(g x c t:Addr) (P L:Int) (cs:List Int) (ws:List V) (rows:List (List (List aw))),vs=[.ref g,.ref c,.ref t]/\F0 P/\cF CG H g x L/\F7 CF CR H x P/\0<=L/\L<=4/\H c=some (.lst (cs.map V.int))/\fY cs/\H t=some (.lst ws)/\Paired (RowR P H) ws rows/\rows.length<=5/\(∀row∈rows,row.length<=3/\∀e∈row,Gc P L e)/\∀H',FX H H'->Q (.str (tx (shT P L cs rows))) H'
theorem tM:FZ ["ring", "row"] ["ring", "row"] (ah i0):=.i
theorem A5{f CF CR CG:Addr}{fd:FuncData}(F:Fun K "show_row" "show_row" i0 f fd)(Jf:FnB P w K mg base 4 "show_sum" (yF CF CR CG)):F2 P w K mg base CX0 5 f fd ["ring", "row"] (C5 CF CR CG):=by
 refine F.o tM λ_ _ _ _ H _ Q _ hr h=>?_
 ·obtain⟨g,x,P,L,v,row,rfl,hP,hG,hN,⟨r,es,rfl,hr',pe⟩,h3,hw,q⟩:=h;obtain⟨dx,hg⟩:=id hG;have le:es.length=row.length:=Paired.length pe;refine⟨_,(aj (au (dQ PySem.F.plainAttrs_str PySem.F.slot_str_join PySem.F.type_str_join bo aI (aa (by exact cD (N:=["entry", "ring"]) (src:=[none,some 0]) rfl rfl rfl (by exact(bI K rfl (pv 1))) (λ_ _ _=>by exact⟨by exact(cv (i:=0) El rfl rfl),bi,by exact(aR Jf hr.m (aa (pv 1) (aa (pv 0) ae)))⟩)) ae)))),?_⟩
  refine⟨rfl,_,rfl,r,rfl,⟨_,SqL.of hr'⟩,bU (rest:=[some (.ref g)]) rfl (λi=>.str (tx (shS P (row.getD i [])))) hr' (by omega) (λi v H1 R hv s1 hR=>?_) λacc H1 nacc s1 hacc=>?_⟩
  ·obtain⟨e,ee,l,ts,rfl,hl,pr⟩:=dU pe hv;have we:=hw e (mem_of_getElem? ee);rw[fg ee] at hR;exact⟨_,rfl,_,rfl,g,x,l,P,L,ts,e,rfl,hP,⟨dx,s1 _ _ hg⟩,hN.mono λo e=>s1 _ _ e,s1 _ _ hl,pr.mono λt xs e=>s1 _ _ e,we.2.2.1,we.mono,λH2 s2=>hR H2 s2⟩
  ·have em:(List.range es.length).map (λi=>V.str (tx (shS P (row.getD i []))))=((row.map (shS P)).map tx).map V.str:=by
    rw[le,ff row [] λe=>V.str (tx (shS P e)),map_map,map_map]
    rfl
   rw[em] at hacc;refine⟨_,acc,_,rfl,rfl,hacc,?_,?_⟩
   ·unfold JoinOk;rw[Bool.not_eq_true'];refine StrLaws.joinFits (B:=60000) (λy hy=>?_) ?_
    ·obtain⟨w,hw',rfl⟩:=List.mem_map.mp hy;obtain⟨e,he,rfl⟩:=List.mem_map.mp hw';rw[aK];exact Dl (hw e he).2.2.1 (hw e he).mono
    ·rw[length_map,length_map];show row.length*60000+row.length*2<=16777216;omega
   ·have e:=mE 44 32 (row.map (shS P));show Q (.str (Txt.join (two 44 32) ((row.map (shS P)).map tx))) H1;rw[e];exact q H1 s1
theorem GR:FZ ["ring", "prime", "letters"] ["ring"] (ah ib):=.i
theorem zz{f CF CR CG:Addr}{fd:FuncData}(F:Fun K "show_ring" "show_ring" ib f fd)(Hx:MtB P w K mg base 1 CG "numbers" (iq CG))(J5:MtB P w K mg base 1 CG "letters" (jV CG))(J1:MtB P w K mg base 1 CF "prime" pR)(J3:MtB P w K mg base 1 CR "prime" (ph CR)):F2 P w K mg base CX0 2 f fd ["ring"] (Dj CF CR CG):=by
 refine F.o GR λ_ _ _ _ H _ Q _ hr h=>?_
 ·obtain⟨g,x,P,L,rfl,hP,hG,hN,hL0,hL4,q⟩:=h;have hB:=hP.b;obtain⟨dx,hg⟩:=id hG;refine⟨_,(af (aD (i:=1) GR.nd rfl (Or.inl rfl) (dJ (bD J1 hr.m (bD Hx hr.m (pv 0))) (bD J3 hr.m (bD Hx hr.m (pv 0)))))
(af (aD (i:=2) GR.nd rfl (Or.inl rfl) (bD J5 hr.m (pv 0)))
(aj (au (cA (aA ba (pv 1) ag (ao _)) (vv (PJ.cons aI (PJ.cons (pV (pv 2)) PJ.nil))) (vv (PJ.cons aI (PJ.cons (pV (pv 1)) (PJ.cons aI (PJ.cons (pV (pv 2)) PJ.nil)))))))))),?_⟩
  have lgL:L.natAbs.log2<1920:=dv (Nat.lt_of_le_of_lt (show L.natAbs<=4 by omega) (by decide +kernel))
  have lgP:P.natAbs.log2<1920:=dv (Nat.lt_of_le_of_lt (show P.natAbs<=9973 by omega) (by decide +kernel))
  have l1:(az L.natAbs).length<=20:=bh (by decide) (Nat.lt_of_le_of_lt (show L.natAbs<=4 by omega) (by decide +kernel))
  have l2:(az P.natAbs).length<=20:=bh (by decide) (Nat.lt_of_le_of_lt (show P.natAbs<=9973 by omega) (by decide +kernel))
  unfold hdR at q
  rcases hN with⟨h0,dx2,e⟩|⟨h0,dx2,e⟩
  ·refine .inl ⟨_,rfl,g,dx,_,rfl,hg,rfl,g,x,L,rfl,hG,x,dx2,_,rfl,e,rfl,.ref x,rfl,?_⟩;refine⟨_,rfl,g,dx,_,rfl,hg,rfl,g,x,L,rfl,hG,?_⟩;refine⟨_,rfl,rfl,_,rfl,bC ?_⟩;rw[if_pos h0] at q;refine⟨_,rfl,(by decide),_,rfl,_,rfl,lgL,?_⟩
   rw[cR hL0];have e1:Str.empty++Str.ofString "fractions " = tx [102,114,97,99,116,105,111,110,115,32]:=by decide +kernel
   rw[e1];refine⟨_,rfl,?_,?_⟩
   ·rw[bq,aK,length_append,sizeLine_eq];show 10+_<=_;omega
   ·rw[bq];exact q
  ·refine .inr ⟨_,rfl,g,dx,_,rfl,hg,rfl,g,x,L,rfl,hG,x,dx2,_,rfl,e,jT (by decide +kernel) _,x,dx2,P,rfl,e,?_⟩
   refine⟨_,rfl,g,dx,_,rfl,hg,rfl,g,x,L,rfl,hG,?_⟩;refine⟨_,rfl,rfl,_,rfl,?_⟩;rw[decide_eq_false (show ¬V.int P=V.int 0 from λz=>h0 (by injection z))]
   refine bS ?_;rw[if_neg h0] at q;refine⟨_,rfl,(by decide),_,rfl,_,rfl,lgP,?_⟩
   have e1:Str.empty++Str.ofString "rests " = tx [114,101,115,116,115,32]:=by decide +kernel
   rw[cR (show 0<=P by omega),e1]
   refine⟨_,rfl,?_,?_⟩
   ·rw[bq,aK,length_append,sizeLine_eq];show 6+_<=_;omega
   rw[bq];have e2:tx ([114,101,115,116,115,32]++az P.natAbs)++Str.ofString " " = tx ([114,101,115,116,115,32]++az P.natAbs++[32]):=bq _ [32];refine⟨_,rfl,?_,_,rfl,_,rfl,lgL,?_⟩
   ·rw[e2,aK,length_append,length_append,sizeLine_eq];show 6+_+1<=_;omega
   rw[cR hL0,e2];refine⟨_,rfl,?_,?_⟩
   ·rw[bq,aK,length_append,length_append,length_append,sizeLine_eq];show 6+_+1+_<=_;omega
   ·rw[bq,append_assoc];exact q
theorem sc_show_table:FZ ["ring", "columns", "table", "lines"] ["ring", "columns", "table"] (ah gr):=.i
set_option maxHeartbeats 1000000 in
theorem yC{f CF CR CG:Addr}{fd:FuncData}(F:Fun K "show_table" "show_table" gr f fd)(nstr:mg "str" = none)(Ln:FnB P w K mg base 2 "show_ring" (Dj CF CR CG))(Lw:FnB P w K mg base 5 "show_row" (C5 CF CR CG)):F2 P w K mg base CX0 6 f fd ["ring", "columns", "table"] (Da CF CR CG):=by
 refine F.o sc_show_table λ_ _ _ _ H _ Q _ hr h=>?_
 ·obtain⟨g,x,c,t,P,L,cs,ws,rows,rfl,hP,hG,hN,hL0,hL4,hc,hcs,ht,pw,h5,hw,q⟩:=h;obtain⟨dx,hg⟩:=id hG;have lw:ws.length=rows.length:=Paired.length pw;have lc:=hcs.2.1;refine⟨_,(af (aD (i:=3) sc_show_table.nd rfl (Or.inl rfl) (ci (aa (by exact(aR Ln hr.m (aa (pv 0) ae))) (aa (by exact(dQ PySem.F.plainAttrs_str PySem.F.slot_str_join PySem.F.type_str_join bo aI (aa (by exact(aH bj (ci (aa aI ae)) (by exact cD (N:=["own"]) (src:=[none]) rfl rfl rfl (by exact(bI K rfl (pv 1))) (λ_ _ _=>by exact⟨by exact(cv (i:=0) nd_9 rfl rfl),bi,by exact(bK aX (by rfl) nstr bO (aa (pv 0) ae))⟩)))) ae))) ae))))
(aj (au (dQ PySem.F.plainAttrs_str PySem.F.slot_str_join PySem.F.type_str_join bo aI (aa (by exact(aH bj (pv 3) (by exact cD (N:=["row", "ring"]) (src:=[none,some 0]) rfl rfl rfl (by exact(bI K rfl (pv 2))) (λ_ _ _=>by exact⟨by exact(cv (i:=0) E4 rfl rfl),bi,by exact(aR Lw hr.m (aa (pv 1) (aa (pv 0) ae)))⟩)))) ae))))),?_⟩
  refine⟨_,rfl,g,x,P,L,rfl,hP,hG,hN,hL0,hL4,?_⟩;refine⟨rfl,zl,λl1 n1=>?_⟩
  generalize e0:upd H l1 _=H1;obtain⟨s1,h1⟩:=un e0 n1;clear e0;refine⟨_,rfl,c,rfl,⟨_,SqL.of (s1 _ _ hc)⟩,bU (rest:=[]) rfl (λi=>.str (tx (cI (cs.getD i 0)))) (s1 _ _ hc) (by rw[length_map];omega) (λi v H2 R hv s2 hR=>?_) λacc H2 nacc s2 hacc=>?_⟩
  ·obtain⟨z,ez,rfl⟩:=iI hv;rw[fg ez] at hR;refine⟨_,rfl,_,rfl,dv (Nat.lt_trans (hcs.2.2 z (mem_of_getElem? ez)) (by decide +kernel)),?_⟩
   rw[nG];exact hR H2 (FX.refl _)
  rw[length_map,ff cs 0 λc=>V.str (tx (cI c))] at hacc
  refine⟨l1,acc,_,_,rfl,rfl,s2 _ _ h1,hacc,by rw[length_map,length_singleton,sizeLine_eq];omega,λl3 n3=>?_⟩
  have ec:[V.str (Str.ofString "columns")]++cs.map (λc=>V.str (tx (cI c)))=((([99,111,108,117,109,110,115]::cs.map cI).map tx).map V.str):=by
   rw[map_cons,map_cons,map_map,map_map]
   rfl
  rw[ec];generalize e0:upd H2 l3 _=H3;obtain⟨s3,h3⟩:=un e0 n3;clear e0;have s13:=s1.trans (s2.trans s3);refine⟨_,l3,_,rfl,rfl,h3,?_,?_⟩
  ·unfold JoinOk;rw[Bool.not_eq_true'];refine StrLaws.joinFits (B:=20) (λy hy=>?_) ?_
   ·obtain⟨w,hw',rfl⟩:=List.mem_map.mp hy;rw[aK]
    rcases List.mem_cons.mp hw' with z|z
    ·rw[z]
     decide
    ·obtain⟨c,hc',rfl⟩:=List.mem_map.mp z;have:=yd (c:=c) (Nat.lt_trans (hcs.2.2 c hc') (by decide +kernel))
     omega
   ·rw[length_map,length_cons,length_map];show(cs.length+1)*20+(cs.length+1)*1<=16777216;omega
  have ej:Txt.join (Str.ofString " ") (([99,111,108,117,109,110,115]::cs.map cI).map tx)=tx (aZ cs):=fo 32 _;rw[ej];refine⟨zl,λl4 n4=>?_⟩
  generalize e0:upd H3 l4 _=H4;obtain⟨s4,h4⟩:=un e0 n4;clear e0;have s14:=s13.trans s4;refine⟨rfl,_,rfl,_,rfl,t,rfl,⟨_,SqL.of (s14 _ _ ht)⟩,bU (rest:=[some (.ref g)]) rfl (λi=>.str (tx (shR P (rows.getD i [])))) (s14 _ _ ht) (by omega) (λi v H5 R hv s5 hR=>?_) λacc5 H5 nacc5 s5 hacc5=>?_⟩
  ·obtain⟨row,er,rr⟩:=dU pw hv;obtain⟨w3,we⟩:=hw row (mem_of_getElem? er);rw[fg er] at hR;have s:=s14.trans s5;exact⟨_,rfl,_,rfl,g,x,P,L,v,row,rfl,hP,⟨dx,s _ _ hg⟩,hN.mono λo e=>s _ _ e,rr.same s,w3,we,λH6 s6=>hR H6 s6⟩
  rw[lw,ff rows [] λr=>V.str (tx (shR P r))] at hacc5
  refine⟨l4,acc5,_,_,rfl,rfl,s5 _ _ h4,hacc5,by rw[length_map,sizeLine_eq];show 2+_<=_;omega,λl6 n6=>?_⟩
  have er:[V.str (tx (hdR P L)),V.str (tx (aZ cs))]++rows.map (λr=>V.str (tx (shR P r)))=(((hdR P L::aZ cs::rows.map (shR P)).map tx).map V.str):=by
   rw[map_cons,map_cons,map_cons,map_cons,map_map,map_map]
   rfl
  rw[er];generalize e0:upd H5 l6 _=H6;obtain⟨s6,h6⟩:=un e0 n6;clear e0;refine⟨_,l6,_,rfl,rfl,h6,?_,?_⟩
  ·exact ye hP hL0 hL4 hcs h5 hw
  have ej2:Txt.join (Str.ofString "\n") ((hdR P L::aZ cs::rows.map (shR P)).map tx)=tx (shT P L cs rows):=fo 10 _;rw[ej2];exact q H6 (s14.trans (s5.trans s6))
def jI(cs:List Int)(row:List (List aw)):Bool:=decide (row.length=cs.length)&&(row.all lvl&&decide (ddn (aM cs row)<=1))
def uG(CF CR CG:Addr):Sp:=λvs H Q _=>∃(g x c:Addr) (P L:Int) (cs:List Int) (v:V) (row:List (List aw)),vs=[.ref g,.ref c,v]/\F0 P/\cF CG H g x L/\F7 CF CR H x P/\H c=some (.lst (cs.map V.int))/\RowR P H v row/\row.length<=60/\(∀e∈row,Gc P L e)/\∀H',FX H H'->Q (.bl (jI cs row)) H'
theorem xA:FZ ["ring", "columns", "thing"] ["ring", "columns", "thing"] (ah mR):=.i
theorem Ci{f CF CR CG:Addr}{fd:FuncData}(F:Fun K "is_row" "is_row" mR f fd)(T:Blt mg)(nset:mg "set" = none)(NB:FnB P w K mg base 4 "is_sum" (sO CF CR CG))(Lx:FnB P w K mg base 2 "is_level" o0)(HQ:FnB P w K mg base 3 "entry_levels" ui):F2 P w K mg base CX0 5 f fd ["ring", "columns", "thing"] (uG CF CR CG):=by
 refine F.o xA λ_ _ _ _ H _ Q _ hr h=>?_
 ·obtain⟨g,x,c,P,L,cs,v,row,rfl,hP,hG,hN,hc,⟨r,es,rfl,hr',pe⟩,h6,hw,q⟩:=h;refine⟨_,(af (aW (PW.pt (fI (cB (bH (hJ K T (pv 2) T.list gI))) (et (aA iz (cG K T (pv 2)) (cG K T (pv 1)) (ao _)))))
(aj (au fN))
aF)
(af (aW (cB (bH (fM K T (by exact cD (N:=["entry", "ring"]) (src:=[none,some 0]) rfl rfl rfl (by exact(bI K rfl (pv 2))) (λ_ _ _=>by exact⟨by exact(cv (i:=0) El rfl rfl),bi,by exact(df (aR NB hr.m (aa (pv 1) (aa (pv 0) ae))) (du (aR Lx hr.m (aa (pv 0) ae))))⟩)) false)))
(aj (au fN))
aF)
(aj (au (bF sj (Ao T (BK nset (aR HQ hr.m (aa (pv 1) (aa (pv 2) ae))))) ag (ao _)))))),?_⟩
  obtain⟨dx,hg⟩:=id hG;have le:es.length=row.length:=Paired.length pe;refine⟨_,rfl,_,true,.lst hr',rfl,_,rfl,bS ?_⟩;refine⟨_,rfl,r,_,rfl,.inl (SqL.of hr'),_,rfl,c,_,rfl,.inl (SqL.of hc),rfl,_,rfl,?_⟩;rw[length_map];unfold jI at q
  by_cases hl:row.length=cs.length
  ·rw[decide_eq_true hl,Bool.true_and] at q;refine vp (congrArg V.int (by omega)) ?_
   refine⟨_,rfl,r,rfl,⟨_,SqL.of hr'⟩,bU (rest:=[some (.ref g)]) rfl (λi=>.bl (lvl (row.getD i []))) hr' (by omega) (λi v H1 R hx sm hR=>?_) (λacc H1 hacc sm hl1=>?_)⟩
   ·obtain⟨e,ee,l,ts,rfl,hl',pr⟩:=dU pe hx;have we:=hw e (mem_of_getElem? ee);refine⟨_,rfl,_,rfl,g,x,l,P,L,ts,e,rfl,hP,⟨dx,sm _ _ hg⟩,hN.mono λo e=>sm _ _ e,sm _ _ hl',pr.mono λt xs e=>sm _ _ e,we,λH2 s2=>⟨_,rfl,bC ?_⟩⟩
    have s12:=sm.trans s2;refine⟨_,rfl,l,P,ts,e,rfl,s12 _ _ hl',pr.mono λt xs e=>s12 _ _ e,λH3 s3=>?_⟩
    have z:=hR H3 (s2.trans s3);rw[fg ee] at z;exact z
   ·rw[le,ff row [] (λe=>V.bl (lvl e)),show row.map (λe=>V.bl (lvl e))=(row.map lvl).map V.bl by rw[map_map];rfl] at hl1
    refine⟨acc,_,rfl,fc (SqL.of hl1),_,rfl,?_⟩;have ea:(row.map lvl).all id=row.all lvl:=by rw[all_map];rfl
    rw[ea];cases hb:row.all lvl with
    |false=>
     rw[hb,Bool.false_and] at q;exact bC (q H1 sm)
    |true=>
     rw[hb,Bool.true_and] at q;refine bS ?_;refine⟨_,rfl,_,rfl,c,r,P,cs,es,row,rfl,sm _ _ hc,sm _ _ hr',bf (λ_ _ y=>y.same sm) pe,hl,by omega,λl2 H2 n2 s2 h2=>?_⟩
     have lll:=gY cs row;refine⟨l2,aM cs row,rfl,SqL.of h2,by omega,λsa S nsa=>?_⟩
     have s3:=FX.new (o:=.set S (ddn (aM cs row))) nsa;refine⟨sa,S,_,rfl,FY,_,_,rfl,rfl,?_⟩;have e3:decide ((ddn (aM cs row):Int)<=1)=decide (ddn (aM cs row)<=1):=decide_eq_decide.mpr (by omega)
     show Q (.bl (decide ((ddn (aM cs row):Int)<=1))) _;rw[e3];exact q _ ((sm.trans s2).trans s3)
  ·rw[decide_eq_false hl,Bool.false_and] at q;rw[decide_eq_false (λz=>hl (by injection z with z;omega))]
   exact bC (q H (FX.refl H))
theorem zv{J:It}{n:Nat}{src:List (Option Nat)}{g:TG}{te:TE}{Q:VK}{σ σ0:L2.St}{H0:Hp}{P:Int}(hσ:dC src σ=σ0)(Sh:L2.St->Prop)(Rel:Nat->List aw->Prop)(hn:n<=60)(h0:Sh σ0)
  (hgo:∀i H,i<n->FX H0 H->J.go i H) (hst:∀H,FX H0 H->J.stop n H)
  (turn:∀i σ H x H' (R:L2.St->VK),i<n->Sh σ->FX H0 H->J.yld i H x H'->(∀σ2 l ts e H2,Sh σ2->FX H H2->H l=none->H2 l=some (.lst ts)->F8 P H2 ts e->Rel i e->R σ2 (.ref l) H2)->g x σ H' λσ2 H2=>te σ2 H2 (R σ2))
  (hd:∀acc es row H,H0 acc=none->FX H0 H->H acc=some (.lst es)->Paired (EntF H0 acc P H) es row->row.length=n->(∀i e,row[i]? = some e->Rel i e)->Q (.ref acc) H) :
  da J src g oh te σ H0 Q:=by
 refine fe (n:=n) (σ0:=σ0) hσ (λacc i zs σ H=>Sh σ/\FX H0 H/\∃row,Paired (EntF H0 acc P H) zs row/\row.length=i/\∀j e,row[j]? = some e->Rel j e) (by rw[sizeLine_eq];omega) (λacc hacc=>⟨h0,FX.new hacc,[],.nil,rfl,λj e z=>by simp at z⟩) ?_ ?_ ?_ ?_
 ·rintro acc i zs σ H hacc hi hz ⟨_,sm,_⟩;exact hgo i H hi sm
 ·rintro acc zs σ H hacc hz ⟨_,sm,_⟩;exact hst H sm
 ·rintro acc i zs σ H x H' hacc hi hz hzl ⟨sh,sm,row,pr,lr,rel⟩ hy;refine turn i σ H x H' (λσ2 y H4=>∃ys,H4 acc=some (.lst ys)/\ys.length<sizeLine/\∃zs,(upd H4 acc (.lst (ys++[y]))) acc=some (.lst zs)/\zs.length<=i+1/\Sh σ2/\FX H0 (upd H4 acc (.lst (ys++[y])))/\∃row,Paired (EntF H0 acc P (upd H4 acc (.lst (ys++[y])))) zs row/\row.length=i+1/\∀j e,row[j]? = some e->Rel j e) hi sh sm hy λσ2 l ts e H2 sh2 s2 nl hl pe re=>?_
  have hz2:=s2 _ _ hz;have kp:Gj [acc] H (upd H2 acc (.lst (zs++[.ref l]))):=(Gj.of s2).trans (Gj.put hz2 (by simp))
  have la:l≠acc:=(al hz nl).symm;refine⟨zs,hz2,by rw[sizeLine_eq];omega,_,FY,by rw[length_append,length_singleton];omega,sh2,λc o e=>?_,row++[e],g8 ⟨l,ts,rfl,sm.free nl,la,by rw[ar la];exact hl,pe.mono (Gj.put (av:=[acc]) hz2 (by simp)).1⟩ (bf (λ_ _ z=>EntF.keepA (λa h=>.inl (List.mem_singleton.mp h)) kp z) pr),by rw[length_append,lr];rfl,λj e' ej=>?_⟩
  ·rw[ar (al e hacc)];exact s2 _ _ (sm c o e)
  ·by_cases hj:j<row.length
   ·rw[getElem?_append_left hj] at ej;exact rel j e' ej
   ·rw[getElem?_append_right (by omega)] at ej
    have h0:j-row.length=0:=by
     rcases Nat.eq_zero_or_pos (j-row.length) with z|z
     ·exact z
     ·rw[getElem?_eq_none (by rw[length_singleton];omega)] at ej
      cases ej
    rw[h0] at ej;cases ej;rw[show j=i by omega]
    exact re
 ·rintro acc zs σ H hacc hz hzl ⟨_,sm,row,pr,lr,rel⟩;exact hd acc zs row H hacc sm hz pr lr rel
theorem oZ{K:Frag}{r:Addr}{es:List V}{src:List (Option Nat)}{te:TE}{Q:VK}{σ rest:L2.St}{H0:Hp}{P:Int}(hσ:dC src σ=none::rest)(Rel:Nat->List aw->Prop)(hr:H0 r=some (.lst es))(hn:es.length<=60)
  (turn:∀i v H (R:VK),es[i]? = some v->FX H0 H->(∀l ts e H2,FX H H2->H l=none->H2 l=some (.lst ts)->F8 P H2 ts e->Rel i e->R (.ref l) H2)->te (some v::rest) H R)
  (hd:∀acc es' row H,H0 acc=none->FX H0 H->H acc=some (.lst es')->Paired (EntF H0 acc P H) es' row->row.length=es.length->(∀i e,row[i]? = some e->Rel i e)->Q (.ref acc) H) :
  da (Itl K r) src (di 0) oh te σ H0 Q:=
 zv hσ (λσ=>∃u,σ=u::rest) Rel hn ⟨none,rfl⟩ (λi H hi sm=>⟨es,_,SqL.of (sm _ _ hr),getElem?_eq_getElem hi⟩) (λH sm=>⟨es,SqL.of (sm _ _ hr),Nat.le_refl _⟩)
  (λi σ H x H' R hi ⟨u,e⟩ sm ⟨e',hx⟩ k=>by
   subst e e';exact turn i x H' (R (some x::rest)) (hx es (SqL.of (sm _ _ hr))) sm λl ts e H2=>k _ l ts e H2 ⟨_,rfl⟩) hd
def BP(P L:Int)(cs:List Int)(l:List Nat):Prop:=(∃w∈bZ 44 32 l,BX P L.toNat w)\/∃row,(∀e∈row,Gc P L e)/\row.map (shS P)=bZ 44 32 l/\jI cs row=false
def sQ(K:Frag)(CT CF CR CG:Addr):Sp:=λvs H Q E=>∃(g x c:Addr) (P L:Int) (cs:List Int) (v:V),vs=[.ref g,.ref c,v]/\((jW K H v/\E (.ref CT) none H) \/
 ∃l:List Nat,v=.str (tx l)/\F0 P/\cF CG H g x L/\F7 CF CR H x P/\0<=L/\L<=4/\H c=some (.lst (cs.map V.int))/\(∀c∈l,c<128)/\l.length<=1000/\(bZ 44 32 l).length<=8/\(∀w∈bZ 44 32 l,w.length<=7)/\(BP P L cs l->Rz CT E H)/\
 ∀row,(∀e∈row,Gc P L e)->row.map (shS P)=bZ 44 32 l->jI cs row=true->∀(d:Addr) (es:List V) (H':Hp),H d=none->FX H H'->H' d=some (.lst es)->Paired (EntF H d P H') es row->Q (.ref d) H')
theorem pf{c d:Nat}:∀{ws:List (List Nat)} {w:List Nat},w∈ws->∀e∈w,e∈aN c d ws
 |[v],w,h,e,he=>by
  rw[List.mem_singleton.mp h] at he;exact he
 |v::u::ws,w,h,e,he=>by
  show e∈v++c::d::aN c d (u::ws)
  rcases List.mem_cons.mp h with z|z
  ·rw[z] at he;exact mem_append_left _ he
  ·exact mem_append_right _ (mem_cons_of_mem _ (mem_cons_of_mem _ (pf z e he)))
theorem sc_read_row:FZ ["ring", "columns", "text", "row"] ["ring", "columns", "text"] (ah iT):=.i
theorem wu{f CT CF CR CG:Addr}{fd:FuncData}(F:Fun K "read_row" "read_row" iT f fd)(ANoText:mg "NoText"=some (.ref CT))(xt:XCl K CT)(HB:cS P w K mg base 1 "check_text" (jj K CT))(HS:cS P w K mg base 7 "read_sum" (rp K CT CF CR CG))(Kj:FnB P w K mg base 5 "is_row" (uG CF CR CG)):F2 P w K mg base (CXE P w) 8 f fd ["ring", "columns", "text"] (sQ K CT CF CR CG):=by
 refine F.okX sc_read_row (λvs H Q E h=>?_) (λcdv A outer s H vs Q E hr h=>?_)
 ·obtain⟨g,x,c,P,L,cs,v,rfl,_⟩:=h
  rfl
 ·obtain⟨g,x,c,P,L,cs,v,rfl,h⟩:=h;refine⟨_,(af (eI (cO HB hr.m bQ (aa (pv 2) ae)))
(af (lV rfl (i:=3) sc_read_row.nd rfl (Or.inl rfl) (NC:=["entry", "ring"]) (src:=[none,some 0]) rfl rfl (by exact(bI K rfl (dQ PySem.F.plainAttrs_str PySem.F.slot_str_split PySem.F.type_str_split fX (pv 2) (aa aI ae)))) (λ_ _ _=>by exact⟨by exact(cv (i:=0) El rfl rfl),bi,by exact(cO HS hr.m mn (aa (pv 1) (aa (pv 0) ae)))⟩))
(af (aW (cB (bH (aR Kj hr.m (aa (pv 0) (aa (pv 1) (aa (pv 3) ae))))))
(aj (bT xt.ek ANoText (aa aI ae)))
aF)
(aj (au (pv 3)))))),?_⟩
  rcases h with⟨hv,e⟩|⟨t,rfl,hP,hG,hN,hL0,hL,hc,ha,hl,h8,h7,hb,q⟩
  ·exact⟨_,rfl,v,rfl,.inr ⟨hv,e⟩⟩
  ·obtain⟨dx,hg⟩:=id hG;refine⟨_,rfl,_,rfl,.inl ⟨_,rfl,?_⟩⟩;refine⟨_,rfl,rfl,_,_,rfl,rfl,rfl,by rw[aK,sizeLine_eq];omega,λl nl=>?_⟩
   have gl:=(jl 44 32 t).1;rw[show Str.ofString ", " = two 44 32 from rfl,xT 44 32 (by decide) (by decide) (by decide) t ha]
   have wa:∀w∈bZ 44 32 t,∀e∈w,e<128:=λw hw e he=>ha e (by rw[<- gl];exact pf hw e he)
   unfold BP at hb;generalize bZ 44 32 t=ws at *;generalize e0:upd H l _=H1;obtain⟨s1,hl1⟩:=un e0 nl;clear e0;refine⟨l,rfl,⟨_,SqL.of hl1⟩,oZ (P:=P) (rest:=[some (.ref g)]) rfl (λi e=>Gc P L e/\ws[i]? = some (shS P e)) hl1 (by rw[length_map,length_map];omega) (λi v H2 R hv s2 hR=>?_) λacc es row' H2 nacc s2 hacc pe le rel=>?_⟩
   ·rw[getElem?_map,getElem?_map] at hv;cases ee:ws[i]? with
    |none=>rw[ee] at hv;exact nomatch hv
    |some w=>
     rw[ee] at hv;have hv:V.str (tx w)=v:=by injection hv
     subst hv;have s12:=s1.trans s2;have mw:=mem_of_getElem? ee;exact⟨_,rfl,_,rfl,g,x,P,L,_,rfl,.inr ⟨w,rfl,hP,⟨dx,s12 _ _ hg⟩,hN.mono λo e=>s12 _ _ e,hL0,hL,wa w mw,h7 w mw,λe=>(hb (.inl ⟨w,mw,e⟩)).go s12,λps hw es d rs H3 nd s3 hd pr=>hR d rs ps H3 s3 nd hd pr ⟨hw,by rw[ee,es]⟩⟩⟩
   ·rw[length_map,length_map] at le;have er:row'.map (shS P)=ws:=by
     refine ext_getElem? λi=>?_
     rw[getElem?_map];cases h':row'[i]? with
     |some e=>exact(rel i e h').2.symm
     |none=>
      have:=List.getElem?_eq_none_iff.mp h';exact(getElem?_eq_none (by omega)).symm
    have hw:∀e∈row',Gc P L e:=λe he=>by
     obtain⟨i,hi⟩:=List.getElem?_of_mem he;exact(rel i e hi).1
    have s12:=s1.trans s2;refine⟨_,rfl,_,rfl,_,rfl,g,x,c,P,L,cs,.ref acc,row',rfl,hP,⟨dx,s12 _ _ hg⟩,hN.mono λo e=>s12 _ _ e,s12 _ _ hc,⟨acc,es,rfl,hacc,bf (λ_ _ z=>z.ent) pe⟩,by omega,hw,λH3 s3=>⟨jI cs row',rfl,?_⟩⟩
    cases hB:jI cs row' with
    |false=>exact bC ⟨zl,hb (.inr ⟨row',hw,er,hB⟩) _ (s12.trans s3)⟩
    |true=>
     refine bS ⟨_,rfl,q row' hw er hB acc es H3 (s1.free nacc) (s12.trans s3) (s3 _ _ hacc) (bf (λv e z=>?_) pe)⟩
     obtain⟨l',ts,rfl,n',ne',hl',pr⟩:=z;exact⟨l',ts,rfl,s1.free n',ne',s3 _ _ hl',pr.mono λt xs e=>s3 _ _ e⟩
def sgl(l:List Nat):List Nat:=if l[0]? = some 45 then l.drop 1 else l
def wI(l:List Nat):Int:=if l[0]? = some 45 then -((PySem.NumText.digitsVal (l.drop 1):Nat):Int) else((PySem.NumText.digitsVal l:Nat):Int)
def wT(l:List Nat):Bool:=isF (sgl l)&&decide (tx (cI (wI l))=tx l)
def Dt:Sp:=λvs H Q _=>∃l:List Nat,vs=[.str (tx l)]/\(∀c∈l,c<128)/\l.length<=100/\(isF (sgl l)=true->(sgl l).length<=2)/\∀H',FX H H'->Q (.bl (wT l)) H'
section
open PySem.NumText
theorem CM{l:List Nat}(h:isF l=true):AllDigits l/\l≠[]:=by
 unfold isF at h;obtain⟨h1,h2⟩:=Bool.and_eq_true _ _▸h;refine⟨λc hc=>?_,λz=>by rw[z] at h1;exact absurd h1 (by decide)⟩
 have:=List.all_eq_true.mp h2 c hc;unfold cX at this;exact⟨of_decide_eq_true (Bool.and_eq_true _ _▸this).1,of_decide_eq_true (Bool.and_eq_true _ _▸this).2⟩
theorem Eo{l:List Nat}(h:AllDigits l):digitsVal l<10^l.length:=by
 have:=qN l 0 λc hc=>(h c hc).2
 rw[Nat.zero_add,Nat.one_mul] at this;exact this
theorem qj{l:List Nat}(hl:l.length<=100)(h:isF (sgl l)=true)(h2:(sgl l).length<=2):PySem.intText? (tx l)=some (wI l)/\(wI l).natAbs<100:=by
 obtain⟨d,ne⟩:=CM h;have p:digitsVal (sgl l)<100:=Nat.lt_of_lt_of_le (Eo d) (Nat.le_trans (Nat.pow_le_pow_right (by decide) h2) (by decide))
 unfold sgl at d ne p;unfold wI
 by_cases hc:l[0]? = some 45
 ·rw[if_pos hc] at d ne p ⊢;have e:l=45::l.drop 1:=by
   cases l with
   |nil=>cases hc
   |cons a r=>injection (show some a=some 45 from hc) with z;rw[z];rfl
  refine⟨intText_neg (x:=tx l) (cs:=l.drop 1) e d ne (by rw[aK];omega),by omega⟩
 ·rw[if_neg hc] at d ne p ⊢;exact⟨intText_digits (x:=tx l) d ne (by rw[aK];omega),by omega⟩
end
theorem GS:FZ ["text", "figures"] ["text"] (ah eT):=.i
theorem xv{f:Addr}{fd:FuncData}(F:Fun K "is_whole_text" "is_whole_text" eT f fd)(T:Blt mg)(nstr:mg "str" = none)(HA:FnB P w K mg base 1 "is_figures" p7):F2 P w K mg base CX0 2 f fd ["text"] Dt:=by
 refine F.o GS λ_ _ _ _ H _ Q _ hr h=>?_
 ·obtain⟨l,rfl,ha,hl,h2,q⟩:=h;refine⟨_,(af (aD (i:=1) GS.nd rfl (Or.inl rfl) (cA (bH (dQ PySem.F.plainAttrs_str PySem.F.slot_str_startswith PySem.F.type_str_startswith pK (pv 0) (aa aI ae))) (cU tX (pv 0) (cE ag) bE) (pv 0)))
(aj (au (df (aR HA hr.m (aa (pv 1) ae)) (du (bF ba (bK aX (by rfl) nstr bO (aa (bK fS (by rfl) T.int fm (aa (pv 0) ae)) ae)) (pv 0) (ao _))))))),?_⟩
  unfold wT at q;have fin:∀H1,FX H H1->isF (sgl l)=true->Q (.bl (decide (V.str (Str.ofString (toString (wI l)))=V.str (tx l)))) H1:=λH1 s1 e=>by
   have:=q H1 s1;rw[e,Bool.true_and] at this;rw[nG,show decide (V.str (tx (cI (wI l)))=V.str (tx l))=decide (tx (cI (wI l))=tx l) from decide_eq_decide.mpr ⟨λz=>by injection z,λz=>by rw[z]⟩]
   exact this
  have sub:∀c∈sgl l,c∈l:=λc hc=>by
   unfold sgl at hc
   split at hc
   ·exact mem_of_mem_drop hc
   ·exact hc
  refine⟨_,rfl,rfl,_,_,rfl,rfl,?_⟩;rw[show Str.ofString "-" = one 45 from rfl,nN]
  refine⟨_,rfl,bt (λh=>?_) (λh=>?_)⟩
  ·have h0:=of_decide_eq_true h;have es:sgl l=l.drop 1:=if_pos h0;refine⟨_,rfl,_,rfl,_,rfl,by rw[aK,sizeLine_eq];omega,?_⟩
   rw[show Txt.slice (tx l) (some 1) none=tx (sgl l) by rw[es];exact nQ (a:=1) (l:=l) (by have:=(List.getElem?_eq_some_iff.mp h0).1;omega)]
   refine⟨_,rfl,sgl l,rfl,λc hc=>ha c (sub c hc),by rw[es,length_drop];omega,λH1 s1=>?_⟩
   cases e:isF (sgl l) with
   |false=>
    rw[show(!(sgl l).isEmpty&&(sgl l).all cX)=false from e]
    have:=q H1 s1;rw[e,Bool.false_and] at this;exact⟨false,rfl,bS this⟩
   |true=>
    rw[show(!(sgl l).isEmpty&&(sgl l).all cX)=true from e]
    obtain⟨hrd,hw⟩:=qj hl e (h2 e);exact⟨true,rfl,bC ⟨_,rfl,_,_,rfl,hrd,by rw[aK];omega,_,rfl,dv (Nat.lt_trans hw (by decide +kernel)),_,rfl,rfl,fin H1 s1 e⟩⟩
  ·have h0:¬l[0]? = some 45:=λz=>h (decide_eq_true z)
   have es:sgl l=l:=if_neg h0;refine⟨_,rfl,?_⟩;refine⟨_,rfl,sgl l,by rw[es];rfl,λc hc=>ha c (sub c hc),by rw[es];omega,λH1 s1=>?_⟩
   cases e:isF (sgl l) with
   |false=>
    rw[show(!(sgl l).isEmpty&&(sgl l).all cX)=false from e]
    have:=q H1 s1;rw[e,Bool.false_and] at this;exact⟨false,rfl,bS this⟩
   |true=>
    rw[show(!(sgl l).isEmpty&&(sgl l).all cX)=true from e]
    obtain⟨hrd,hw⟩:=qj hl e (h2 e);exact⟨true,rfl,bC ⟨_,rfl,_,_,rfl,hrd,by rw[aK];omega,_,rfl,dv (Nat.lt_trans hw (by decide +kernel)),_,rfl,rfl,fin H1 s1 e⟩⟩
theorem Aa:(["word"]:List Str).Nodup:=by decide +kernel
def zt(CT:Addr):Sp:=λvs H Q E=>∃(l:Addr) (w0:List Nat) (ws:List (List Nat)),vs=[.ref l]/\H l=some (.lst (((w0::ws).map tx).map V.str))/\ws.length<=50/\(V.str (tx w0)=V.str (Str.ofString "columns")->∀w∈ws,(∀c∈w,c<128)/\w.length<=100/\(isF (sgl w)=true->(sgl w).length<=2))/\Rz CT E H/\∀(cs:List Int) (d:Addr) (H':Hp),V.str (tx w0)=V.str (Str.ofString "columns")->fY cs->H d=none->FX H H'->H' d=some (.lst (cs.map V.int))->Q (.ref d) H'
theorem ku:FZ ["words"] ["words"] (ah eP):=.i
theorem wU{f CT:Addr}{fd:FuncData}{tk:Tok}(F:Fun K "rough_columns" "rough_columns" eP f fd)(T:Blt mg)(cCols:mg "MOST_COLUMNS"=some (.int 3 tk))(ANoText:mg "NoText"=some (.ref CT))(xt:XCl K CT)(JH:FnB P w K mg base 2 "is_whole_text" Dt):F2 P w K mg base (CXE P w) 3 f fd ["words"] (zt CT):=by
 refine F.okX ku (λvs H Q E h=>?_) (λcdv A outer s H vs Q E hr h=>?_)
 ·obtain⟨l,w0,ws,rfl,_⟩:=h
  rfl
 ·obtain⟨l,w0,ws,rfl,hl,l50,hw,hz,q⟩:=h;refine⟨_,(af (aW (PW.pt (fI (aA iz (aG (ay K rfl) (pv 0) ag (λ_ _=>rfl)) aI (ao _)) (et (cB (bH (fM K T (by exact cD (N:=["word"]) (src:=[none]) rfl rfl rfl (by exact(bI K rfl (cU (bu K rfl) (pv 0) (cE ag) bE))) (λ_ _ _=>by exact⟨by exact(cv (i:=0) Aa rfl rfl),bi,by exact(aR JH hr.m (aa (pv 0) ae))⟩)) false))))))
(aj (bT xt.ek ANoText (aa aI ae)))
aF)
(af (aW (PW.pt (fI (aA gO (cG K T (pv 0)) ag (ao _)) (et (aA gL (cG K T (pv 0)) (aH cN (bG (v:=.int 3) rfl cCols ⟨_,rfl⟩) ag) (ao _)))))
(aj (bT xt.ek ANoText (aa aI ae)))
aF)
(aj (au (by exact cD (N:=["word"]) (src:=[none]) rfl rfl rfl (by exact(bI K rfl (cU (bu K rfl) (pv 0) (cE ag) bE))) (λ_ _ _=>by exact⟨by exact(cv (i:=0) Aa rfl rfl),bi,by exact(bK fS (by rfl) T.int fm (aa (pv 0) ae))⟩)))))),?_⟩
  rw[map_cons,map_cons] at hl;have ll:(V.str (tx w0)::(ws.map tx).map V.str).length=ws.length+1:=by rw[length_cons,length_map,length_map]
  have lm:((ws.map tx).map V.str).length=ws.length:=by rw[length_map,length_map]
  have gv:∀{i:Nat} {v:V},((ws.map tx).map V.str)[i]? = some v->∃w,ws[i]? = some w/\v=.str (tx w):=λ{i v} hv=>by
   rw[getElem?_map,getElem?_map] at hv;cases ec:ws[i]? with
   |none=>rw[ec] at hv;exact nomatch hv
   |some c=>
    rw[ec] at hv;exact⟨c,rfl,by injection hv with hv;exact hv.symm⟩
  refine⟨_,rfl,l,_,_,_,rfl,rfl,SqL.of hl,aB (j:=0) rfl,rfl,_,rfl,?_⟩
  by_cases hc:V.str (tx w0)=V.str (Str.ofString "columns")
  ·have hw:=hw hc;rw[decide_eq_true hc];refine bS ⟨_,rfl,_,rfl,l,_,rfl,SqL.of hl,λl2 n2=>?_⟩
   rw[g6];generalize e0:upd H l2 _=H2;obtain⟨s2,h2⟩:=un e0 n2;clear e0;refine⟨l2,rfl,⟨_,SqL.of h2⟩,bU (rest:=[]) rfl (λi=>.bl (wT (ws.getD i []))) h2 (by omega) (λi v H3 R hv s3 hR=>?_) λacc H3 nacc s3 hacc=>?_⟩
   ·obtain⟨w,ec,rfl⟩:=gv hv;obtain⟨a1,a2,a3⟩:=hw w (mem_of_getElem? ec);rw[fg ec] at hR;exact⟨_,rfl,w,rfl,a1,a2,a3,λH4 s4=>hR H4 s4⟩
   ·rw[lm,ff ws [] (λe=>V.bl (wT e)),show ws.map (λe=>V.bl (wT e))=(ws.map wT).map V.bl by rw[map_map];rfl] at hacc
    refine⟨acc,_,rfl,fc (SqL.of hacc),_,rfl,?_⟩;have ea:(ws.map wT).all id=ws.all wT:=by rw[all_map];rfl
    rw[ea];have s23:=s2.trans s3;cases hb:ws.all wT with
    |false=>exact bC ⟨zl,hz _ s23⟩
    |true=>
     have hb:=List.all_eq_true.mp hb;refine bS ?_;refine⟨_,rfl,l,_,rfl,.inl (SqL.of (s23 _ _ hl)),_,_,rfl,rfl,_,rfl,bt (λh=>?_) (λh=>?_)⟩
     ·exact⟨zl,hz _ s23⟩
     ·have n1:¬(((V.str (tx w0)::(ws.map tx).map V.str).length:Int)<2):=λz=>h (decide_eq_true z)
      rw[ll] at n1;refine⟨_,rfl,l,_,rfl,.inl (SqL.of (s23 _ _ hl)),_,_,rfl,rfl,_,_,rfl,rfl,_,rfl,bt (λh=>?_) (λh=>?_)⟩
      ·exact⟨zl,hz _ s23⟩
      ·have n2':¬((3:Int)+1<((V.str (tx w0)::(ws.map tx).map V.str).length:Int)):=λz=>h (decide_eq_true z)
       rw[ll] at n2';refine⟨_,rfl,_,rfl,l,_,rfl,SqL.of (s23 _ _ hl),λl4 n4=>?_⟩
       rw[g6];generalize e0:upd H3 l4 _=H4;obtain⟨s4,h4⟩:=un e0 n4;clear e0;have rd:∀w∈ws,PySem.intText? (tx w)=some (wI w)/\(wI w).natAbs<100:=λw hm=>by
        obtain⟨a1,a2,a3⟩:=hw w hm;have e:isF (sgl w)=true:=(Bool.and_eq_true _ _▸(show(isF (sgl w)&&decide (tx (cI (wI w))=tx w))=true from hb w hm)).1
        exact qj a2 e (a3 e)
       refine⟨l4,rfl,⟨_,SqL.of h4⟩,bU (rest:=[]) rfl (λi=>.int (wI (ws.getD i []))) h4 (by omega) (λi v H5 R hv s5 hR=>?_) λacc5 H5 nacc5 s5 hacc5=>?_⟩
       ·obtain⟨w,ec,rfl⟩:=gv hv;have mw:=mem_of_getElem? ec;rw[fg ec] at hR;exact⟨_,rfl,_,_,rfl,(rd w mw).1,by have:=(hw w mw).2.1;rw[aK];omega,hR H5 (FX.refl _)⟩
       ·rw[lm,ff ws [] (λe=>V.int (wI e)),show ws.map (λe=>V.int (wI e))=(ws.map wI).map V.int by rw[map_map];rfl] at hacc5
        refine q (ws.map wI) acc5 H5 hc ⟨by rw[length_map];omega,by rw[length_map];omega,λc hc'=>?_⟩ ((s23.trans s4).free nacc5) (s23.trans (s4.trans s5)) hacc5
        obtain⟨w,hm,rfl⟩:=List.mem_map.mp hc';exact(rd w hm).2
  ·rw[decide_eq_false hc];exact bC ⟨zl,hz _ (FX.refl H)⟩
def jG(CG CN:Addr):Sp:=λvs H Q E=>∃(g dx:Addr) (v:V) (L:Int),vs=[.ref g,v,.int L]/\H g=some (.ins CG dx [])/\(¬(1<=L/\L<=4)->E (.ref CN) none H)/\
 (1<=L->L<=4->Q .non (upd (upd H g (.ins CG dx [("kind",v)])) g (.ins CG dx [("kind",v),("width",.int L)])))
theorem jY:FZ ["self", "numbers", "letters"] ["self", "numbers", "letters"] (ah cb):=.i
theorem AR{f CG Hq:Addr}{fd:FuncData}{tk:Tok}(F:Fun K "__init__" "Ring.__init__" cb f fd)(cl:Cls K CG)(nK:Gk K CG "kind")(nW:Gk K CG "width")(cMost:mg "MOST_LETTERS"=some (.int 4 tk))(ANoRing:mg "NoRing"=some (.ref Hq))(xc:XCl K Hq) :
  F2 P w K mg base (CXE P w) 2 f fd ["self", "numbers", "letters"] (jG CG Hq):=by
 refine F.okX jY (λvs H Q E h=>?_) (λcdv A outer s H vs Q E hr h=>?_)
 ·obtain⟨g,dx,v,L,rfl,_⟩:=h
  rfl
 ·obtain⟨g,dx,v,L,rfl,hg,qn,qy⟩:=h;refine⟨_,(af (aW (PW.pt (fI (aA gO (pv 2) ag (ao _)) (et (aA gL (pv 2) (bG (v:=.int 4) rfl cMost ⟨_,rfl⟩) (ao _)))))
(aj (bT xc.ek ANoRing (aa aI ae)))
aF)
(af (uq (pv 0) (pv 1) rfl)
(aj (uq (pv 0) (pv 2) rfl)))),?_⟩
  have bad:¬(1<=L/\L<=4)->E (.ref Hq) none H:=qn;refine⟨_,rfl,_,_,rfl,rfl,_,rfl,bt (λh=>?_) (λh=>?_)⟩
  ·have h1:L<1:=of_decide_eq_true h;exact bC ⟨zl,bad (by omega)⟩
  ·have h1:¬L<1:=λz=>h (decide_eq_true z)
   refine⟨_,rfl,_,_,rfl,rfl,_,rfl,bt (λh=>?_) (λh=>?_)⟩
   ·have h4:L>4:=of_decide_eq_true h;exact⟨zl,bad (by omega)⟩
   ·have h4:¬L>4:=λz=>h (decide_eq_true z)
    exact⟨_,rfl,_,rfl,g,CG,dx,_,rfl,hg,cl,nK,(by decide),_,rfl,_,rfl,g,CG,dx,_,rfl,FY,cl,nW,(by show(1:Nat)<1000;decide),qy (by omega) (by omega)⟩
def zg(CT CF CR CG:Addr):Sp:=λvs H Q E=>∃(l:Addr) (w0:List Nat) (ws:List (List Nat)),vs=[.ref l]/\H l=some (.lst (((w0::ws).map tx).map V.str))/\ws.length<=50/\(∀w∈ws,(∀c∈w,c<128)/\w.length<=100)/\Rz CT E H/\∀(P L:Int) (g x:Addr) (H':Hp),F0 P->1<=L->L<=4->FX H H'->cF CG H' g x L->F7 CF CR H' x P->Q (.ref g) H'
theorem ue{t u:TS}{D:fJ}{rr:VK}{σ:L2.St}{H:Hp}(M:L2.St->Hp->Prop)(h1:∀R:L2.St->Hp->Prop,(∀σ' H',M σ' H'->R σ' H')->t { D with nx:=R } σ H)(h2:∀σ' H',M σ' H'->u D σ' H'):Di { nx:=cf t u D,rt:=rr } σ H:=h1 (u D) h2
theorem sc_rough_ring:FZ ["words", "wholes"] ["words"] (ah gs):=.i
set_option maxHeartbeats 1000000 in
theorem xb{f CT CF CR CG Hq:Addr}{fd:FuncData}{tk:Tok}(F:Fun K "rough_ring" "rough_ring" gs f fd)(T:Blt mg)(cMost:mg "MOST_LETTERS"=some (.int 4 tk))(ANoText:mg "NoText"=some (.ref CT))(xt:XCl K CT)(Hu:cS P w K mg base 2 "rough_figures" (rR CT))(Je:FnB P w K mg base 1 "is_prime" j3)(Lp:Bx P w K mg base 2 CG "Ring" (jG CG Hq))(MFractions:Mk0 K CF)(AFractions:mg "Fractions"=some (.ref CF))(K9:MkB P w K mg base 2 CR "Rests" (lL CR)):F2 P w K mg base (CXE P w) 4 f fd ["words"] (zg CT CF CR CG):=by
 refine F.okX sc_rough_ring (λvs H Q E h=>?_) (λcdv A outer s H vs Q E hr h=>?_)
 ·obtain⟨l,w0,ws,rfl,_⟩:=h
  rfl
 ·obtain⟨l,w0,ws,rfl,hl,l50,hw,hz,q⟩:=h;refine⟨_,(af (lV rfl (i:=1) sc_rough_ring.nd rfl (Or.inl rfl) (NC:=["word"]) (src:=[none]) rfl rfl (by exact(bI K rfl (cU (bu K rfl) (pv 0) (cE ag) bE))) (λ_ _ _=>by exact⟨by exact(cv (i:=0) Aa rfl rfl),bi,by exact(cO Hu hr.m mn (aa (pv 0) ae))⟩))
(af (aW (PW.pt (fI (aA (rV K rfl hr.units) (pv 1) (ci ae) (ao _)) (fI (aA gO (aG (ay K rfl) (pv 1) (kF g0 ag) (λ_ _=>rfl)) ag (ao _)) (et (aA gL (aG (ay K rfl) (pv 1) (kF g0 ag) (λ_ _=>rfl)) (bG (v:=.int 4) rfl cMost ⟨_,rfl⟩) (ao _))))))
(aj (bT xt.ek ANoText (aa aI ae)))
aF)
(af (aW (PW.pt (nj (aA ba (aG (ay K rfl) (pv 0) ag (λ_ _=>rfl)) aI (ao _)) (lE (aA ba (cG K T (pv 1)) ag (ao _)))))
(aj (au (tY Lp hr.m cj (aa (AY MFractions AFractions) (aa (aG (ay K rfl) (pv 1) ag (λ_ _=>rfl)) ae)))))
aF)
(af (aW (PW.pt (nj (aA ba (aG (ay K rfl) (pv 0) ag (λ_ _=>rfl)) aI (ao _)) (nj (aA ba (cG K T (pv 1)) ag (ao _)) (lE (bH (aR Je hr.m (aa (aG (ay K rfl) (pv 1) ag (λ_ _=>rfl)) ae)))))))
(aj (au (tY Lp hr.m cj (aa (yp K9 hr.m (aa (aG (ay K rfl) (pv 1) ag (λ_ _=>rfl)) ae)) (aa (aG (ay K rfl) (pv 1) ag (λ_ _=>rfl)) ae)))))
aF)
(aj (bT xt.ek ANoText (aa aI ae))))))),?_⟩
  have fin:∀(P L:Int) (x g dx:Addr) (H4:Hp),F0 P->1<=L->L<=4->FX H H4->F7 CF CR H4 x P->H4 g=none->H4 dx=none->Q (.ref g) (upd (upd (upd (upd H4 dx (.own g)) g (.ins CG dx [])) g (.ins CG dx [("kind",.ref x)])) g (.ins CG dx [("kind",.ref x),("width",.int L)])):=λP L x g dx H4 hP h1 h4 s4 hN ng ndx=>by
   have s5:FX H4 (upd (upd (upd (upd H4 dx (.own g)) g (.ins CG dx [])) g (.ins CG dx [("kind",.ref x)])) g (.ins CG dx [("kind",.ref x),("width",.int L)])):=λc o e=>by
    have hc:c≠g:=al e ng;rw[ar hc,ar hc,ar hc,ar (al e ndx)];exact e
   exact q P L g x _ hP h1 h4 (s4.trans s5) ⟨dx,FY⟩ (hN.mono λo e=>s5 _ _ e)
  rw[map_cons,map_cons] at hl;have lm:((ws.map tx).map V.str).length=ws.length:=by rw[length_map,length_map]
  refine⟨_,rfl,_,rfl,l,_,rfl,SqL.of hl,λl2 n2=>?_⟩
  rw[g6];generalize e0:upd H l2 _=H2;obtain⟨s2,h2⟩:=un e0 n2;clear e0;refine⟨l2,rfl,⟨_,SqL.of h2⟩,bU (rest:=[]) rfl (λi=>.int (((rF (ws.getD i [])).getD 0:Nat):Int)) h2 (by omega) (λi v H3 R hv s3 hR=>?_) λacc H3 nacc s3 hacc=>?_⟩
  ·rw[getElem?_map,getElem?_map] at hv;cases ec:ws[i]? with
   |none=>rw[ec] at hv;exact nomatch hv
   |some w=>
    rw[ec] at hv;have hv:V.str (tx w)=v:=by injection hv
    subst hv;obtain⟨a1,a2⟩:=hw w (mem_of_getElem? ec);rw[fg ec] at hR;exact⟨_,rfl,w,rfl,a1,by omega,λ_=>hz.go (s2.trans s3),λn en H4 s4=>by have z:=hR H4 s4;rw[en] at z;exact z⟩
  ·rw[lm,ff ws [] (λw=>V.int (((rF w).getD 0:Nat):Int)),show ws.map (λw=>V.int (((rF w).getD 0:Nat):Int))=(ws.map λw=>(((rF w).getD 0:Nat):Int)).map V.int by rw[map_map];rfl] at hacc
   have hz3:=hz.go (s2.trans s3);have ln:(ws.map λw=>(((rF w).getD 0:Nat):Int)).length<=50:=by rw[length_map];exact l50
   generalize ws.map (λw=>(((rF w).getD 0:Nat):Int))=ns at *
   have s23:=s2.trans s3;refine⟨_,rfl,Nat.zero_le _,λl4 n4=>?_⟩
   generalize e0:upd H3 l4 _=H4;obtain⟨s4,h4⟩:=un e0 n4;clear e0;have ha4:=s4 _ _ hacc;have s24:=s23.trans s4;have bad:=hz3.go s4;refine⟨dL ns,dL [],o7 ha4,o7 (ns:=[]) h4,fq _,fq _,_,rfl,?_⟩;rw[ul]
   by_cases e0:ns=[]
   ·rw[decide_eq_true e0];exact bC ⟨zl,bad _ (FX.refl _)⟩
   rw[decide_eq_false e0];have eL:(ns.map V.int).getLast? = some (.int (ns.getLast e0)):=by rw[List.getLast?_map,List.getLast?_eq_some_getLast e0];rfl
   generalize hLL:ns.getLast e0=L at *;refine bS ⟨_,rfl,_,rfl,acc,_,_,_,rfl,rfl,SqL.of ha4,nZ eL,_,_,rfl,rfl,_,rfl,bt (λh=>⟨zl,bad _ (FX.refl _)⟩) (λhL1=>?_)⟩
   refine⟨_,rfl,_,rfl,acc,_,_,_,rfl,rfl,SqL.of ha4,nZ eL,_,_,rfl,rfl,_,rfl,bt (λh=>⟨zl,bad _ (FX.refl _)⟩) (λhL4=>?_)⟩
   have hL1:¬L<1:=λz=>hL1 (decide_eq_true z)
   have hL4:¬(4:Int)<L:=λz=>hL4 (decide_eq_true z)
   refine ue (λσ' H'=>σ'=[some (.ref l),some (.ref acc)]/\H'=H4) (λR hR=>?_) ?_
   ·refine⟨_,rfl,l,_,_,_,rfl,rfl,SqL.of (s24 _ _ hl),aB (j:=0) rfl,rfl,_,rfl,?_⟩
    by_cases hf:V.str (tx w0)=V.str (Str.ofString "fractions")
    ·rw[decide_eq_true hf];refine bC ⟨_,rfl,acc,_,rfl,.inl (SqL.of ha4),rfl,_,rfl,bt (λh=>?_) (λh=>hR _ _ ⟨rfl,rfl⟩)⟩
     have h:=of_decide_eq_true h;injection h with h
     rw[length_map] at h;obtain⟨a,rfl⟩:=List.length_eq_one_iff.mp (show ns.length=1 by omega)
     have hLL:a=L:=hLL;subst hLL;intro x dx nx ndx ne;have s5:FX H4 (upd (upd H4 dx (.own x)) x (.ins CF dx [])):=(FX.new ndx).put nx;have hx5:(upd (upd H4 dx (.own x)) x (.ins CF dx [])) x=some (.ins CF dx []):=FY;generalize upd (upd H4 dx (.own x)) x (.ins CF dx [])=H5 at *;refine⟨_,rfl,acc,_,_,_,rfl,rfl,SqL.of (s5 _ _ ha4),aB (j:=0) rfl,λg dg ng ndg neg=>?_⟩
     exact⟨g,dg,.ref x,a,rfl,FY,λz=>absurd ⟨by omega,by omega⟩ z,λ_ _=>⟨rfl,fin 0 a x g dg H5 (.inl rfl) (by omega) (by omega) (s24.trans s5) (.inl ⟨rfl,dx,hx5⟩) ng ndg⟩⟩
    ·rw[decide_eq_false hf];exact bS (hR _ _ ⟨rfl,rfl⟩)
   ·rintro σ' H' ⟨rfl,eH⟩;rw[eH];clear eH H';refine⟨_,rfl,l,_,_,_,rfl,rfl,SqL.of (s24 _ _ hl),aB (j:=0) rfl,rfl,_,rfl,?_⟩
    by_cases hf:V.str (tx w0)=V.str (Str.ofString "rests")
    ·rw[decide_eq_true hf];refine bC ⟨_,rfl,acc,_,rfl,.inl (SqL.of ha4),rfl,_,rfl,bt (λh=>?_) (λh=>⟨zl,bad _ (FX.refl _)⟩)⟩
     have h:=of_decide_eq_true h;injection h with h
     rw[length_map] at h;obtain⟨p,a,rfl⟩:∃p a,ns=[p,a]:=by
      have h:ns.length=2:=by omega
      match ns,h with
      |[p,a],_=>exact⟨p,a,rfl⟩
     have hLL:a=L:=hLL;subst hLL;refine⟨_,rfl,acc,_,_,_,rfl,rfl,SqL.of ha4,aB (j:=0) rfl,p,rfl,_,rfl,?_⟩;cases hpr:(decide (2<=p/\p<=9973)&&gP p) with
     |false=>exact bS ⟨zl,bad _ (FX.refl _)⟩
     |true=>
      obtain⟨z1,z2⟩:=Bool.and_eq_true _ _▸hpr;have z1:=of_decide_eq_true z1;have hP:F0 p:=.inr ⟨z1.1,z1.2,z2⟩;have h0:p≠0:=by omega
      refine bC ?_;refine⟨_,rfl,acc,_,_,_,rfl,rfl,SqL.of ha4,aB (j:=0) rfl,λx dx nx ndx ne=>?_⟩
      refine⟨x,dx,p,rfl,FY,hP,h0,rfl,?_⟩;have s5:FX H4 (upd (upd (upd H4 dx (.own x)) x (.ins CR dx [])) x (.ins CR dx [("modulus",.int p)])):=((FX.new ndx).put nx).put nx;have hx5:(upd (upd (upd H4 dx (.own x)) x (.ins CR dx [])) x (.ins CR dx [("modulus",.int p)])) x=some (.ins CR dx [("modulus",.int p)]):=FY;generalize upd (upd (upd H4 dx (.own x)) x (.ins CR dx [])) x (.ins CR dx [("modulus",.int p)])=H5 at *;refine⟨_,rfl,acc,_,_,_,rfl,rfl,SqL.of (s5 _ _ ha4),aB (j:=1) rfl,λg dg ng ndg neg=>?_⟩
      exact⟨g,dg,.ref x,a,rfl,FY,λz=>absurd ⟨by omega,by omega⟩ z,λ_ _=>⟨rfl,fin p a x g dg H5 hP (by omega) (by omega) (s24.trans s5) (.inr ⟨h0,dx,hx5⟩) ng ndg⟩⟩
    ·rw[decide_eq_false hf];exact bS ⟨zl,bad _ (FX.refl _)⟩
section
open PySem.NumText PySem.W
def fgB(l:List Nat):Bool:=decide (az (digitsVal l)=l)
def nOk(z:Bool)(lim:Nat->Bool)(f:List Nat):Bool:=match (cu 47 f).2 with
 |none=>fgB f&&(decide (digitsVal f≠0)&&(z || lim (digitsVal f)))
 |some b=>z&&(fgB (cu 47 f).1&&(decide (digitsVal (cu 47 f).1≠0)&&(fgB b&&(decide (2<=digitsVal b)&&decide (Nat.gcd (digitsVal (cu 47 f).1) (digitsVal b)=1)))))
def pE(j:Nat)(w:List Nat):Option Int:=
 if 0<(if w.drop 1=[] then(1:Int) else((digitsVal (w.drop 2):Nat):Int))/\shW j (if w.drop 1=[] then(1:Int) else((digitsVal (w.drop 2):Nat):Int))=w then some (if w.drop 1=[] then(1:Int) else((digitsVal (w.drop 2):Nat):Int)) else none
def pW:Nat->Nat->List (List Nat)->Option (List Int)
 |_,0,fs=>if fs=[] then some [] else none
 |j,n+1,[]=>(pW (j+1) n []).map (0 :: ·)
 |j,n+1,f::fs=>match pE j f with
  |some e=>(pW (j+1) n fs).map (e :: ·)
  |none=>(pW (j+1) n (f::fs)).map (0 :: ·)
theorem db(n:Nat):digitsVal (az n)=n:=KIN.val_back n
theorem qa(n:Nat):fgB (az n)=true:=decide_eq_true (by rw[db])
theorem Ej{j:Nat}{e:Int}(h:0<e):pE j (shW j e)=some e:=by
 have k:(if (shW j e).drop 1=[] then(1:Int) else((digitsVal ((shW j e).drop 2):Nat):Int))=e:=by
  unfold shW
  by_cases h1:e=1
  ·rw[if_pos h1];exact h1.symm
  ·rw[if_neg h1,if_neg (by simp)]
   show((digitsVal (az e.natAbs):Nat):Int)=e;rw[db];omega
 unfold pE;rw[k,if_pos ⟨h,rfl⟩]
theorem zE{i j:Nat}{e:Int}(hi:i<4)(hj:j<4)(h:i≠j):pE i (shW j e)=none:=by
 unfold pE;rw[if_neg];rintro⟨_,z⟩;have z:=congrArg (λl:List Nat=>l[0]?) z
 have z:some (eU i)=some (eU j):=z;injection z with z
 exact h (Be hi hj z)
theorem An:∀(k:List Int) (j:Nat),(∀e∈k,0<=e)->j+k.length<=4->pW j k.length (wds j k)=some k
 |[],j,_,_=>rfl
 |e::r,j,h0,hl=>by
  rw[length_cons] at hl;have ih:=An r (j+1) (λe he=>h0 e (mem_cons_of_mem _ he)) (by omega)
  have he:=h0 e mem_cons_self;rw[length_cons];unfold wds
  by_cases hp:0<e
  ·rw[if_pos hp];show(match pE j (shW j e) with
    |some e=>(pW (j+1) r.length (wds (j+1) r)).map (e :: ·)
    |none=>_)=_
   rw[Ej hp];show(pW (j+1) r.length (wds (j+1) r)).map (e :: ·)=_;rw[ih]
   rfl
  ·rw[if_neg hp];have e0:e=0:=by omega
   subst e0;cases hw:wds (j+1) r with
   |nil=>
    show(pW (j+1) r.length []).map (0 :: ·)=_;rw[<- hw,ih]
    rfl
   |cons w ws=>
    obtain⟨i,x,h1,h2,_,_,ew⟩:=eK (B:=0) (w:=w) (k:=j+1) (r:=r) (by rw[hw];simp)
    show(match pE j w with
     |some e=>_
     |none=>(pW (j+1) r.length (w::ws)).map (0 :: ·))=_
    rw[ew,zE (by omega) (by omega) (by omega)]
    show(pW (j+1) r.length (shW i x::ws)).map (0 :: ·)=_;rw[<- ew,<- hw,ih]
    rfl
def hF:List Nat->Bool
 |c::_=>cX c
 |[]=>false
def pP(z:Bool)(lim:Nat->Bool)(n:Nat)(w:List Nat):Option (List Int):=match spl 42 w with
 |[]=>none
 |f::r=>if hF f=true then(if nOk z lim f=true then(if r=[] then some (List.replicate n 0) else if f=[49] then none else pW 0 n r) else none) else pW 0 n (f::r)
def sOk(z:Bool)(s:List Nat):Bool:=decide (s=[43]) || (z&&decide (s=[45]))
def pT(z:Bool)(lim:Nat->Bool)(n:Nat):List (List Nat)->Option (List (List Int))
 |[]=>some []
 |[_]=>none
 |s::b::r=>if sOk z s=true then(pP z lim n b).bind λk=>(pT z lim n r).map (k :: ·) else none
def pH(z:Bool)(lim:Nat->Bool)(n:Nat)(w:List Nat):Option (List Int):=if w[0]? = some 45 then(if z=true then pP z lim n (w.drop 1) else none) else pP z lim n w
def pS(z:Bool)(lim:Nat->Bool)(n:Nat)(l:List Nat):Option (List (List Int)):=if l=[48] then some [] else match spl 32 l with
 |[]=>none
 |w::ws=>(pH z lim n w).bind λk=>(pT z lim n ws).map (k :: ·)
def tN:List (List Int)->Bool
 |a::b::r=>klt (b.sum,b) (a.sum,a)&&tN (b::r)
 |_=>true
def ck(z:Bool)(lim:Nat->Bool)(n:Nat)(l:List Nat):Bool:=match pS z lim n l with
 |some ks=>tN ks
 |none=>false
theorem qd{c:Nat}:∀{l:List Nat},c∉l->cu c l=(l,none)
 |[],_=>rfl
 |x::r,h=>by
  have ih:=qd (c:=c) (l:=r) λz=>h (mem_cons_of_mem _ z)
  unfold cu;rw[if_neg (λz=>h (by rw[z];exact mem_cons_self)),ih]
theorem uQ{c:Nat}{b:List Nat}:∀{a:List Nat},c∉a->cu c (a++c::b)=(a,some b)
 |[],_=>by
  show cu c (c::b)=_;unfold cu;rw[if_pos rfl]
 |x::r,h=>by
  have ih:=uQ (c:=c) (b:=b) (a:=r) λz=>h (mem_cons_of_mem _ z)
  show cu c (x::(r++c::b))=_;unfold cu;rw[if_neg (λz=>h (by rw[z];exact mem_cons_self)),ih]
theorem dD{n c:Nat}(h:c<48):c∉az n:=λz=>by have:=(cJ z).1;omega
theorem D8{P:Int}{a:Int×Int}{lim:Nat->Bool}(hlim:P≠0->∀v:Nat,(v:Int)<P->lim v=true)(o:OkN P a)(h0:0<=a.1)(hz:a≠(0,1)):nOk (decide (P=0)) lim (shN P a)=true:=by
 have hne:a.1.natAbs≠0:=λz=>by
  have z:a.1=0:=by omega
  rcases o with⟨_,h2,h3⟩|⟨_,_,_,h3⟩
  ·rw[z,Int.gcd_zero_left] at h3;exact hz (Prod.ext z (show a.2=1 by omega))
  ·exact hz (Prod.ext z h3)
 unfold shN
 split
 ·rename_i h;unfold nOk;rw[uQ (c:=47) (b:=az a.2.natAbs) (dD (n:=a.1.natAbs) (by decide))]
  show(decide (P=0)&&(fgB (az a.1.natAbs)&&(decide (digitsVal (az a.1.natAbs)≠0)&&(fgB (az a.2.natAbs)&&(decide (2<=digitsVal (az a.2.natAbs))&&decide (Nat.gcd (digitsVal (az a.1.natAbs)) (digitsVal (az a.2.natAbs))=1))))))=true;rw[qa,qa,db,db,decide_eq_true h.1,decide_eq_true hne]
  rcases o with⟨_,h2,h3⟩|⟨h2,_⟩
  ·rw[decide_eq_true (show 2<=a.2.natAbs by have:=h.2;omega),decide_eq_true (show Nat.gcd a.1.natAbs a.2.natAbs=1 from h3)]
   rfl
  ·exact absurd h.1 h2
 ·unfold nOk;rw[qd (c:=47) (dD (n:=a.1.natAbs) (by decide))]
  show(fgB (az a.1.natAbs)&&(decide (digitsVal (az a.1.natAbs)≠0)&&(decide (P=0) || lim (digitsVal (az a.1.natAbs)))))=true
  rw[qa,db,decide_eq_true hne]
  by_cases hP:P=0
  ·rw[decide_eq_true hP]
   rfl
  ·rcases o with⟨h2,_⟩|⟨_,_,h3,_⟩
   ·exact absurd h2 hP
   ·rw[hlim hP _ (by omega),Bool.or_true]
    rfl
theorem Dv:∀{k:List Int},(∀e∈k,0<=e)->k.sum=0->k=List.replicate k.length 0
 |[],_,_=>rfl
 |e::r,h,hs=>by
  rw[sum_cons] at hs;have h1:=h e mem_cons_self;have h2:0<=r.sum:=by
   clear hs
   replace h:=λx hx=>h x (mem_cons_of_mem _ hx)
   clear h1
   induction r with
   |nil=>exact Int.le_refl _
   |cons a r ih=>
    rw[sum_cons];have:=h a mem_cons_self;have:=ih λx hx=>h x (mem_cons_of_mem _ hx)
    omega
  have ih:=Dv (k:=r) (λe he=>h e (mem_cons_of_mem _ he)) (by omega)
  rw[length_cons,List.replicate_succ,<- ih,show e=0 by omega]
theorem BO{P:Int}{a:Int×Int}(o:OkN P a)(h0:0<=a.1)(h:shN P a=[49]):a=(1,1):=by
 have e49:az 1=[49]:=by decide +kernel
 unfold shN at h
 split at h
 ·have:(47:Nat)∈([49]:List Nat):=by rw[<- h];simp
  simp at this
 ·rename_i h2;have h1:=congrArg digitsVal h;rw[db] at h1;have h1:a.1.natAbs=1:=h1;refine Prod.ext (show a.1=1 by omega) ?_
  rcases o with⟨hp,_⟩|⟨_,_,_,h3⟩
  ·exact Decidable.byContradiction λw=>h2 ⟨hp,w⟩
  ·exact h3
theorem rJ{c:Nat}(h:48<=c/\c<=57):cX c=true:=by
 unfold cX;rw[decide_eq_true h.1,decide_eq_true h.2]
 rfl
theorem D6{P:Int}{k:List Int}{a:Int×Int}{lim:Nat->Bool}(hlim:P≠0->∀v:Nat,(v:Int)<P->lim v=true)(o:OkN P a)(h0:0<=a.1)(hz:a≠(0,1))(k4:k.length<=4)(k0:∀e∈k,0<=e):pP (decide (P=0)) lim k.length (aT 42 (fac P k a))=some k:=by
 unfold pP;rw[f6 42 _ (Ed k0) λw hw z=>by have:=Dy k4 w hw 42 z;unfold okc at this;omega]
 have hn:=D8 hlim o h0 hz;have hh:hF (shN P a)=true:=by
  obtain⟨c,r,e,hc⟩:=Eb (P:=P) (a:=a);rw[e];exact rJ hc
 unfold fac
 by_cases hs:k.sum=0
 ·rw[if_pos hs];show(if hF (shN P a)=true then(if nOk (decide (P=0)) lim (shN P a)=true then _ else none) else _)=_
  rw[if_pos hh,if_pos hn,if_pos rfl,<- Dv k0 hs]
 ·rw[if_neg hs];have wn:=i8 k0 hs (j:=0);have pk:=An k 0 k0 (by omega)
  by_cases h1:a=(1,1)
  ·rw[if_pos h1];cases hw:wds 0 k with
   |nil=>exact absurd hw wn
   |cons w ws=>
    obtain⟨j,e,_,h2,_,_,ew⟩:=eK (B:=0) (w:=w) (k:=0) (r:=k) (by rw[hw];simp)
    have:hF w=false:=by
     rw[ew];show cX (eU j)=false;have:=ux (j:=j) (by omega)
     unfold cX
     by_cases z:eU j<=57
     ·omega
     ·rw[decide_eq_false z,Bool.and_false]
    show(if hF w=true then _ else pW 0 k.length (w::ws))=_
    rw[if_neg (by rw[this];decide),<- hw,pk]
  ·rw[if_neg h1];show(if hF (shN P a)=true then(if nOk (decide (P=0)) lim (shN P a)=true then(if wds 0 k=[] then _ else if shN P a=[49] then none else pW 0 k.length (wds 0 k)) else none) else _)=_
   rw[if_pos hh,if_pos hn,if_neg wn,if_neg (λz=>h1 (BO o h0 z)),pk]
theorem BR{P:Int}{p:aw}(h:nz p=true):f9 P p.2≠(0,1):=λz=>by
 have hz:¬p.2=(0,1):=by unfold nz at h;exact of_decide_eq_true h
 unfold f9 at z
 split at z
 ·rename_i hc;have:=congrArg Prod.fst z;have this:-p.2.1=0:=this;omega
 ·exact hz z
theorem t7{P L:Int}{ps:List aw}{p:aw}{lim:Nat->Bool}(hlim:P≠0->∀v:Nat,(v:Int)<P->lim v=true)(h:Gc P L ps)(hp:p∈ps):pP (decide (P=0)) lim L.toNat (prt P p)=some p.1:=by
 obtain⟨o,s,n,l,z⟩:=h.1.2 p hp;obtain⟨o',p0,_⟩:=qR o s;have l4:=h.2.1;have e:L.toNat=p.1.length:=by omega
 rw[e];exact D6 hlim o' p0 (BR n) (by omega) z
theorem Ar{P L:Int}{ps:List aw}{lim:Nat->Bool}(hlim:P≠0->∀v:Nat,(v:Int)<P->lim v=true)(h:Gc P L ps):∀r:List aw,(∀p∈r,p∈ps)->pT (decide (P=0)) lim L.toNat (fnd P r)=some (r.map (·.1))
 |[],_=>rfl
 |p::r,hr=>by
  have ih:=Ar hlim h r λp hp=>hr p (mem_cons_of_mem _ hp)
  have e:sOk (decide (P=0)) (sgn P p.2)=true:=by
   unfold sOk sgn
   split
   ·rename_i hc;rw[decide_eq_true hc.1]
    rfl
   ·rfl
  show(if sOk (decide (P=0)) (sgn P p.2)=true then(pP (decide (P=0)) lim L.toNat (prt P p)).bind λk=>(pT (decide (P=0)) lim L.toNat (fnd P r)).map (k :: ·) else none)=_
  rw[if_pos e,t7 hlim h (hr p mem_cons_self),ih]
  rfl
theorem DY{P:Int}{p:aw}(k4:p.1.length<=4):(prt P p)[0]?≠some 45:=λz=>by
 have:=AN k4 45 (mem_of_getElem? z);unfold okc at this;omega
theorem A9{P L:Int}{ps:List aw}{lim:Nat->Bool}(hlim:P≠0->∀v:Nat,(v:Int)<P->lim v=true)(h:Gc P L ps):pS (decide (P=0)) lim L.toNat (shS P ps)=some (ps.map (·.1)):=by
 cases ps with
 |nil=>rfl
 |cons p r=>
  have hm:=h.mono;obtain⟨o,s,n,l,z⟩:=h.1.2 p mem_cons_self;have k4:=(hm p mem_cons_self).2.2.1;unfold pS;rw[if_neg (Bk o s k4 z n),ie,f6 32 _ (by simp) λw hw z=>by have:=C7 (λq hq=>(hm q hq).2.2.1) w hw 32 z;unfold okc at this;omega]
  show(pH (decide (P=0)) lim L.toNat (hd0 P p)).bind (λk=>(pT (decide (P=0)) lim L.toNat (fnd P r)).map (k :: ·))=_
  have e:pH (decide (P=0)) lim L.toNat (hd0 P p)=some p.1:=by
   unfold pH hd0
   split
   ·rename_i hc;rw[if_pos (show([45]++prt P p)[0]? = some 45 from rfl),if_pos (decide_eq_true hc.1)]
    exact t7 hlim h mem_cons_self
   ·rw[nil_append,if_neg (DY k4)];exact t7 hlim h mem_cons_self
  rw[e,Ar hlim h r λp hp=>mem_cons_of_mem _ hp]
  rfl
theorem m8:∀{ps:List aw},ps.Pairwise vH->tN (ps.map (·.1))=true
 |[],_=>rfl
 |[p],_=>rfl
 |p::q::r,h=>by
  obtain⟨h1,h2⟩:=List.pairwise_cons.mp h;show(klt (q.1.sum,q.1) (p.1.sum,p.1)&&tN ((q::r).map (·.1)))=true;rw[m8 h2,Bool.and_true];exact h1 q mem_cons_self
theorem D3{P L:Int}{ps:List aw}{lim:Nat->Bool}(hlim:P≠0->∀v:Nat,(v:Int)<P->lim v=true)(h:Gc P L ps):ck (decide (P=0)) lim L.toNat (shS P ps)=true:=by
 unfold ck;rw[A9 hlim h];exact m8 h.1.1
end
def sg(s:String):List Nat:=(Str.ofString s).cps.toList
def tv(l:List (List Nat)):List V:=l.map λb=>V.str (tx b)
def nX:List (List Nat):=["", " ", "x ", " x", "x +", "+ x", "+x", "x  + 1", "x +  1", "x+1", "--x", "- x", "x^1", "x^0", "x^02"].map sg
def og:List (List Nat):=["x^", "x^-1", "x^+2", "x*", "*x", "1*x", "0*x", "x + 0", "0 + x", "X", "v", "2x", "x2", "x^2^2"].map sg
def on:List (List Nat):=["x*x", "x + x", "1 + x", "x + x^2", "-0", "00", "01", "02*x", "1/1", "2/4", "1/0", "1/-2", "3/"].map sg
def ot:List (List Nat):=["/3", "x/2", "1.5", "(x)", "2*3*x", "x*2", "x\n", "\nx", "x; x", "1 1", "x - -1", "x + -1", "x * x"].map sg
def oz:List (List Nat):=["x^2*x", "1_0", "1e1", "x = 1", "nought", "x ^2", "+1", "0/2", "x - 0"].map sg
def jv(n:Nat):List (List Nat):=if n<4 then[[eU n],[120,42,eU n],[eU n,94,50]] else[]
def jq(n:Nat):List (List Nat):=if 1<n then["y*x", "y + x", "xy"].map sg else[]
def nE(P:Int):List (List Nat):=if 0<P then az P.natAbs::(az P.natAbs++[42,120])::["-x", "x - 1", "1/2", "-1"].map sg else[]
def gS(P:Int)(n:Nat):List (List Nat):=(nX++og++on++ot++oz)++jv n++jq n++nE P
def uH:Sp:=λvs H Q _=>∃L P:Int,vs=[.int L,.int P]/\1<=L/\L<=4/\F0 P/\∀(d:Addr) (H':Hp),H d=none->FX H H'->H' d=some (.lst (tv (gS P L.toNat)))->Q (.ref d) H'
theorem dA(a b:List (List Nat)):tv a++tv b=tv (a++b):=List.map_append.symm
def NoS(P L:Int)(b:List Nat):Prop:=∀ps,Gc P L ps->shS P ps≠b
theorem noS{P L:Int}{b:List Nat}(lim:Nat->Bool)(hlim:P≠0->∀v:Nat,(v:Int)<P->lim v=true)(h:ck (decide (P=0)) lim L.toNat b=false):NoS P L b:=λps hw e=>by
 have:=D3 hlim hw;rw[e,h] at this;exact Bool.false_ne_true this
def lT(_:Nat):Bool:=true
def zn(z:Bool)(n:Nat)(bs:List (List Nat)):Bool:=bs.all λb=>!ck z lT n b
theorem Cu:([true,false].all λz=>[1,2,3,4].all λn=>zn z n (nX++og++on++ot++oz)&&(zn z n (jv n)&&zn z n (jq n)))=true:=by decide +kernel
theorem xy:([1,2,3,4].all λn=>zn false n (["-x", "x - 1", "1/2", "-1"].map sg))=true:=by decide +kernel
theorem zo{p:Bool->Bool}(h:[true,false].all p=true)(z:Bool):p z=true:=List.all_eq_true.mp h z (by cases z<;>simp)
theorem kN{p:Nat->Bool}(h:[1,2,3,4].all p=true){n:Nat}(h1:1<=n)(h2:n<=4):p n=true:=List.all_eq_true.mp h n (by
 have:n=1\/n=2\/n=3\/n=4:=by omega
 rcases this with rfl|rfl|rfl|rfl<;>simp)
theorem vV{P L:Int}{bs:List (List Nat)}(h:zn (decide (P=0)) L.toNat bs=true){b:List Nat}(hb:b∈bs):NoS P L b:=noS lT (λ_ _ _=>rfl) (by have:=List.all_eq_true.mp h b hb;simpa using this)
theorem EG{n m:Nat}{r:List Nat}(h42:spl 42 (az n++r)=az n::spl 42 r.tail\/r=[]):pP false (λv=>decide (v<n)) m (az n++r)=none:=by
 have hh:hF (az n)=true:=by
  cases hf:az n with
  |nil=>exact absurd hf (qP n)
  |cons c t=>exact rJ (cJ (n:=n) (by rw[hf];simp))
 have hn:nOk false (λv=>decide (v<n)) (az n)=false:=by
  unfold nOk;rw[qd (dD (by decide))]
  show(fgB (az n)&&(decide (PySem.NumText.digitsVal (az n)≠0)&&(false || decide (PySem.NumText.digitsVal (az n)<n))))=false
  rw[db,decide_eq_false (Nat.lt_irrefl n)];simp
 unfold pP
 rcases h42 with e|rfl
 ·rw[e];show(if hF (az n)=true then(if nOk false (λv=>decide (v<n)) (az n)=true then _ else none) else _)=none
  rw[if_pos hh,hn]
  rfl
 ·rw[append_nil,dm 42 _ (dD (by decide))]
  show(if hF (az n)=true then(if nOk false (λv=>decide (v<n)) (az n)=true then _ else none) else _)=none
  rw[if_pos hh,hn]
  rfl
theorem EK{n m:Nat}{r:List Nat}(h2:2<=n)(hr:r=[]\/r=[42,120]):ck false (λv=>decide (v<n)) m (az n++r)=false:=by
 have hne:az n++r≠[48]:=λz=>by
  have e:=congrArg PySem.NumText.digitsVal z
  rcases hr with rfl|rfl
  ·rw[append_nil,db] at e;have e:n=0:=e;omega
  ·have:(42:Nat)∈([48]:List Nat):=by rw[<- z];simp
   simp at this
 have h32:32∉az n++r:=λz=>by
  rcases List.mem_append.mp z with z|z
  ·exact dD (by decide) z
  ·rcases hr with rfl|rfl<;>simp at z
 have h45:(az n++r)[0]?≠some 45:=λz=>by
  rcases List.mem_append.mp (mem_of_getElem? z) with z|z
  ·exact dD (by decide) z
  ·rcases hr with rfl|rfl<;>simp at z
 have hp:pP false (λv=>decide (v<n)) m (az n++r)=none:=EG (by
  rcases hr with rfl|rfl
  ·exact .inr rfl
  ·exact .inl (nR 42 (az n) [120] (dD (by decide))))
 unfold ck pS;rw[if_neg hne,dm 32 _ h32];show(match (pH false (λv=>decide (v<n)) m (az n++r)).bind _ with
  |some ks=>tN ks
  |none=>false)=false
 unfold pH;rw[if_neg h45,hp]
 rfl
theorem vj{P L:Int}(hP:F0 P)(h1:1<=L)(h4:L<=4){b:List Nat}(hb:b∈gS P L.toNat):NoS P L b:=by
 have hA:=kN (zo Cu (decide (P=0))) (n:=L.toNat) (by omega) (by omega)
 obtain⟨a1,a2⟩:=Bool.and_eq_true _ _▸hA;obtain⟨a2,a3⟩:=Bool.and_eq_true _ _▸a2;unfold gS at hb
 rcases List.mem_append.mp hb with hb|hb
 ·rcases List.mem_append.mp hb with hb|hb
  ·rcases List.mem_append.mp hb with hb|hb
   ·exact vV a1 hb
   ·exact vV a2 hb
  ·exact vV a3 hb
 ·unfold nE at hb
  split at hb
  ·rename_i hp;have h0:decide (P=0)=false:=decide_eq_false (by omega)
   have hP2:2<=P:=by
    rcases hP with z|z
    ·omega
    ·exact z.1
   have big:∀r,r=[]\/r=[42,120]->NoS P L (az P.natAbs++r):=λr hr=>noS (λv=>decide (v<P.natAbs)) (λ_ v hv=>decide_eq_true (by omega)) (by rw[h0];exact EK (by omega) hr)
   rcases List.mem_cons.mp hb with z|hb
   ·have:=big [] (.inl rfl);rw[append_nil] at this;rw[z];exact this
   ·rcases List.mem_cons.mp hb with z|hb
    ·rw[z];exact big _ (.inr rfl)
    ·exact vV (by rw[h0];exact kN xy (n:=L.toNat) (by omega) (by omega)) hb
  ·exact nomatch hb
def okT(b:List Nat):Bool:=decide (b.length<=7)&&b.all λc=>decide (c<128)&&decide (c≠44)
theorem yR:([1,2,3,4].all λn=>(nX++og++on++ot++oz).all okT&&((jv n).all okT&&(jq n).all okT))=true:=by decide +kernel
theorem qK{P L:Int}(hP:F0 P)(h1:1<=L)(h4:L<=4){b:List Nat}(hb:b∈gS P L.toNat):b.length<=7/\∀c∈b,c<128/\c≠44:=by
 have key:okT b=true:=by
  have hA:=kN yR (n:=L.toNat) (by omega) (by omega)
  obtain⟨a1,a2⟩:=Bool.and_eq_true _ _▸hA;obtain⟨a2,a3⟩:=Bool.and_eq_true _ _▸a2;unfold gS at hb
  rcases List.mem_append.mp hb with hb|hb
  ·rcases List.mem_append.mp hb with hb|hb
   ·rcases List.mem_append.mp hb with hb|hb
    ·exact List.all_eq_true.mp a1 b hb
    ·exact List.all_eq_true.mp a2 b hb
   ·exact List.all_eq_true.mp a3 b hb
  ·unfold nE at hb
   split at hb
   ·have hB:=hP.b;have big:∀r:List Nat,r=[]\/r=[42,120]->okT (az P.natAbs++r)=true:=λr hr=>by
     unfold okT;have l4:(az P.natAbs).length<=4:=bh (by decide) (by omega)
     have a1:(az P.natAbs++r).length<=7:=by
      rw[length_append]
      rcases hr with rfl|rfl
      ·show _+0<=7;omega
      ·show _+2<=7;omega
     have a2:((az P.natAbs++r).all λc=>decide (c<128)&&decide (c≠44))=true:=List.all_eq_true.mpr λc hc=>by
      rcases List.mem_append.mp hc with z|z
      ·have:=cJ z;rw[decide_eq_true (show c<128 by omega),decide_eq_true (show c≠44 by omega)]
       rfl
      ·rcases hr with rfl|rfl
       ·exact nomatch z
       ·rcases List.mem_cons.mp z with rfl|z
        ·rfl
        ·rw[List.mem_singleton.mp z]
         rfl
     rw[decide_eq_true a1,a2]
     rfl
    rcases List.mem_cons.mp hb with z|hb
    ·have:=big [] (.inl rfl);rw[append_nil] at this;rw[z];exact this
    ·rcases List.mem_cons.mp hb with z|hb
     ·rw[z];exact big _ (.inr rfl)
     ·exact List.all_eq_true.mp (show(["-x", "x - 1", "1/2", "-1"].map sg).all okT=true by decide +kernel) b hb
   ·exact nomatch hb
 obtain⟨k1,k2⟩:=Bool.and_eq_true _ _▸key;refine⟨of_decide_eq_true k1,λc hc=>?_⟩
 have:=List.all_eq_true.mp k2 c hc;exact⟨of_decide_eq_true (Bool.and_eq_true _ _▸this).1,of_decide_eq_true (Bool.and_eq_true _ _▸this).2⟩
theorem FM:(["row", "ring", "columns"]:List Str).Nodup:=by decide +kernel
theorem FV:(["line", "ring", "columns"]:List Str).Nodup:=by decide +kernel
def RowF(H0:Hp)(d:Addr)(P:Int)(H:Hp)(v:V)(row:List (List aw)):Prop:=∃r es,v=.ref r/\H0 r=none/\r≠d/\H r=some (.lst es)/\Paired (EntF H0 d P H) es row
theorem RowF.keepA{H0:Hp}{av:List Addr}{d:Addr}{P:Int}{H H':Hp}{v:V}{row:List (List aw)}(hav:∀a∈av,a=d\/H0 a≠none)(k:Gj av H H')(h:RowF H0 d P H v row):RowF H0 d P H' v row:=by
 obtain⟨r,es,rfl,h0,rd,hr,pe⟩:=h;refine⟨r,es,rfl,h0,rd,k.2 _ _ hr λz=>?_,bf (λ_ _=>EntF.keepA hav k) pe⟩
 rcases hav r z with e|e
 ·exact rd e
 ·exact e h0
theorem RowF.row{H0:Hp}{d:Addr}{P:Int}{H:Hp}{v:V}{row:List (List aw)}(h:RowF H0 d P H v row):RowR P H v row:=by
 obtain⟨r,es,rfl,_,_,hr,pe⟩:=h;exact⟨r,es,rfl,hr,bf (λ_ _=>EntF.ent) pe⟩
def DB:Sp:=λvs H Q E=>∃(c r:Addr) (P:Int) (cs:List Int) (es:List V) (row:List (List aw)),vs=[.ref c,.ref r]/\H c=some (.lst (cs.map V.int))/\H r=some (.lst es)/\Paired (EntR P H) es row/\row.length=cs.length/\row.length<=60/\∀H',FX H H'->Q (qM cs row) H'
def tR(P L:Int)(cs:List Int)(row:List (List aw)):Prop:=(∀e∈row,Gc P L e)/\jI cs row=true
def zT(CF CR CG:Addr):Sp:=λvs H Q _=>∃(g x c t:Addr) (P L:Int) (cs:List Int) (ws:List V) (rows:List (List (List aw))),vs=[.ref g,.ref c,.ref t]/\F0 P/\cF CG H g x L/\F7 CF CR H x P/\H c=some (.lst (cs.map V.int))/\cs.length<=3/\H t=some (.lst ws)/\Paired (RowR P H) ws rows/\rows.length<=5/\(∀row∈rows,tR P L cs row)/\∀H',FX H H'->Q (.bl (rows.all λrow=>(b5 cs row).isSome)) H'
def tw(P L:Int)(cs:List Int)(rows:List (List (List aw))):Prop:=F0 P/\1<=L/\L<=4/\fY cs/\rows.length<=5/\∀row∈rows,tR P L cs row/\(b5 cs row).isSome=true
def fw(l:List Nat):Prop:=(bZ 44 32 l).length<=8/\∀w∈bZ 44 32 l,w.length<=7
def gG(l:List Nat):Prop:=l.length<=49/\∀ws,spl 32 l=[99,111,108,117,109,110,115]::ws->∀w∈ws,isF (sgl w)=true->(sgl w).length<=2
def zS(K:Frag)(CT:Addr):Sp:=λvs H Q E=>∃v:V,vs=[v]/\((jW K H v/\E (.ref CT) none H)\/∃l:List Nat,v=.str (tx l)/\(∀c∈l,c<128)/\l.length<=1000/\(spl 10 l).length<=7/\(∀a r,spl 10 l=a::r->a.length<=49/\∀b s,r=b::s->gG b/\((∃ws,spl 32 b=[99,111,108,117,109,110,115]::ws)->∀y∈s,fw y))/\Rz CT E H/\∀P L cs rows,tw P L cs rows->shT P L cs rows≠l)
theorem Cr(a b:V)(r:List V):jH (a::b::r) (some 2) none=r:=by
 unfold jH;simp[HT.sIx]
 try omega
theorem jN{cs:List Int}{row:List (List aw)}(h:jI cs row=true):row.length=cs.length:=of_decide_eq_true (Bool.and_eq_true _ _▸(show(decide (row.length=cs.length)&&(row.all lvl&&decide (ddn (aM cs row)<=1)))=true from h)).1
theorem sK:FZ ["ring", "columns", "thing"] ["ring", "columns", "thing"] (ah iU):=.i
theorem Cc{f CF CR CG:Addr}{fd:FuncData}(F:Fun K "is_table" "is_table" iU f fd)(T:Blt mg)(Kj:FnB P w K mg base 5 "is_row" (uG CF CR CG))(Lq:FnB P w K mg base 4 "row_level" DB):F2 P w K mg base CX0 6 f fd ["ring", "columns", "thing"] (zT CF CR CG):=by
 refine F.o sK λ_ _ _ _ H _ Q _ hr h=>?_
 ·obtain⟨g,x,c,t,P,L,cs,ws,rows,rfl,hP,hG,hN,hc,h3,ht,pw,h5,hw,q⟩:=h;refine⟨_,(af (aW (cB (bH (hJ K T (pv 2) T.list gI)))
(aj (au fN))
aF)
(aj (au (fM K T (by exact cD (N:=["row", "ring", "columns"]) (src:=[none,some 0,some 1]) rfl rfl rfl (by exact(bI K rfl (pv 2))) (λ_ _ _=>by exact⟨by exact(cv (i:=0) FM rfl rfl),bi,by exact(df (aR Kj hr.m (aa (pv 1) (aa (pv 2) (aa (pv 0) ae)))) (du (bF CW (aR Lq hr.m (aa (pv 2) (aa (pv 0) ae))) qB (ao _))))⟩)) false)))),?_⟩
  obtain⟨dx,hg⟩:=id hG;have lw:ws.length=rows.length:=Paired.length pw;refine⟨_,rfl,_,true,.lst ht,rfl,_,rfl,bS ?_⟩;refine⟨_,rfl,t,rfl,⟨_,SqL.of ht⟩,bU (rest:=[some (.ref g),some (.ref c)]) rfl (λi=>.bl (b5 cs (rows.getD i [])).isSome) ht (by omega) (λi v H1 R hx sm hR=>?_) (λacc H1 hacc sm hl1=>?_)⟩
  ·obtain⟨row,er,rr⟩:=dU pw hx;obtain⟨wr,wb⟩:=hw row (mem_of_getElem? er);have wl:=jN wb;rw[fg er] at hR;refine⟨_,rfl,_,rfl,_,rfl,g,x,c,P,L,cs,v,row,rfl,hP,⟨dx,sm _ _ hg⟩,hN.mono λo e=>sm _ _ e,sm _ _ hc,rr.same sm,by omega,wr,λH2 s2=>?_⟩
   rw[wb];refine⟨_,rfl,bC ?_⟩;have s12:=sm.trans s2;obtain⟨r,es,rfl,hr',pe⟩:=rr.same s12;refine⟨_,rfl,_,rfl,c,r,P,cs,es,row,rfl,s12 _ _ hc,hr',pe,wl,by omega,λH3 s3=>⟨rfl,?_⟩⟩
   have z:=hR H3 (s2.trans s3);unfold qM;cases hlo:b5 cs row with
   |none=>
    rw[hlo] at z;exact z
   |some k=>
    rw[hlo] at z;exact z
  ·rw[lw,ff rows [] (λrow=>V.bl (b5 cs row).isSome),show rows.map (λrow=>V.bl (b5 cs row).isSome)=(rows.map λrow=>(b5 cs row).isSome).map V.bl by rw[map_map];rfl] at hl1
   refine⟨acc,_,rfl,fc (SqL.of hl1),?_⟩;have ea:(rows.map λrow=>(b5 cs row).isSome).all id=rows.all λrow=>(b5 cs row).isSome:=by rw[all_map];rfl
   rw[ea];exact q H1 sm
theorem Gq:FZ ["text", "lines", "ring", "columns", "table"] ["text"] (ah gi):=.i
set_option maxHeartbeats 1000000 in
theorem xY{f CT CF CR CG:Addr}{fd:FuncData}(F:Fun K "read_table" "read_table" gi f fd)(T:Blt mg)(ANoText:mg "NoText"=some (.ref CT))(xt:XCl K CT)(HB:cS P w K mg base 1 "check_text" (jj K CT))(HH:cS P w K mg base 1 "check_written" (lC CT))(Kz:cS P w K mg base 4 "rough_ring" (zg CT CF CR CG))(JI:cS P w K mg base 3 "rough_columns" (zt CT))(HU:cS P w K mg base 8 "read_row" (sQ K CT CF CR CG))(Ly:FnB P w K mg base 6 "is_table" (zT CF CR CG))(KA:FnB P w K mg base 6 "show_table" (Da CF CR CG)):F2 P w K mg base (CXE P w) 9 f fd ["text"] (zS K CT):=by
 refine F.okX Gq (λvs H Q E h=>?_) (λcdv A outer s H vs Q E hr h=>?_)
 ·obtain⟨v,rfl,_⟩:=h
  rfl
 ·obtain⟨v,rfl,h⟩:=h;refine⟨_,(af (eI (cO HB hr.m bQ (aa (pv 0) ae)))
(af (aD (i:=1) Gq.nd rfl (Or.inl rfl) (dQ PySem.F.plainAttrs_str PySem.F.slot_str_split PySem.F.type_str_split fX (pv 0) (aa aI ae)))
(af (aW (aA gO (cG K T (pv 1)) ag (ao _))
(aj (bT xt.ek ANoText (aa aI ae)))
aF)
(af (aD (i:=2) Gq.nd rfl (Or.inr rfl) (cO Kz hr.m bQ (aa (dQ PySem.F.plainAttrs_str PySem.F.slot_str_split PySem.F.type_str_split fX (aG (ay K rfl) (pv 1) ag (λ_ _=>rfl)) (aa aI ae)) ae)))
(af (aD (i:=3) Gq.nd rfl (Or.inr rfl) (cO JI hr.m bQ (aa (dQ PySem.F.plainAttrs_str PySem.F.slot_str_split PySem.F.type_str_split fX (aG (ay K rfl) (pv 1) ag (λ_ _=>rfl)) (aa aI ae)) ae)))
(af (lV rfl (i:=4) Gq.nd rfl (Or.inl rfl) (NC:=["line", "ring", "columns"]) (src:=[none,some 2,some 3]) rfl rfl (by exact(bI K rfl (cU (bu K rfl) (pv 1) (cE ag) bE))) (λ_ _ _=>by exact⟨by exact(cv (i:=0) FV rfl rfl),bi,by exact(cO HU hr.m mn (aa (pv 1) (aa (pv 2) (aa (pv 0) ae))))⟩))
(af (aW (cB (bH (aR Ly hr.m (aa (pv 2) (aa (pv 3) (aa (pv 4) ae))))))
(aj (bT xt.ek ANoText (aa aI ae)))
aF)
(af (eI (cO HH hr.m bQ (aa (aR KA hr.m (aa (pv 2) (aa (pv 3) (aa (pv 4) ae)))) (aa (pv 0) ae))))
(aj (au (gH (aa (pv 2) (aa (pv 3) (aa (pv 4) ae)))))))))))))),?_⟩
  rcases h with⟨hv,e⟩|⟨t,rfl,ha,hl,h7,hlin,hz,hno⟩
  ·exact⟨_,rfl,v,rfl,.inr ⟨hv,e⟩⟩
  refine⟨_,rfl,_,rfl,.inl ⟨_,rfl,?_⟩⟩;refine⟨_,rfl,rfl,_,_,rfl,rfl,rfl,by rw[aK,sizeLine_eq];omega,λl nl=>?_⟩
  rw[show Str.ofString "\n" = one 10 from rfl,ip 10 t ha (by decide)]
  have hmem:=eC 10 t;generalize spl 10 t=ls at *;generalize e0:upd H l _=H1;obtain⟨s1,h1⟩:=un e0 nl;clear e0;have ll:((ls.map tx).map V.str).length=ls.length:=by rw[length_map,length_map]
  refine⟨_,rfl,l,_,rfl,.inl (SqL.of h1),_,_,rfl,rfl,_,rfl,bt (λh=>⟨zl,hz _ s1⟩) (λh=>?_)⟩
  have h2l:¬((((ls.map tx).map V.str).length:Int)<2):=λz=>h (decide_eq_true z)
  rw[ll] at h2l;obtain⟨la,lb,lr,rfl⟩:∃a b r,ls=a::b::r:=by
   match ls,h2l with
   |a::b::r,_=>exact⟨a,b,r,rfl⟩
   |[a],h=>exact absurd (by simp) h
   |[],h=>exact absurd (by simp) h
  obtain⟨la49,hb⟩:=hlin _ _ rfl;obtain⟨⟨lb49,hcol⟩,hlr⟩:=hb _ _ rfl;have lal:∀w∈la::lb::lr,∀c∈w,c<128:=λw hw c hc=>ha c ((hmem w hw).1 c hc)
  rw[length_cons,length_cons] at h7;refine⟨_,rfl,l,_,_,_,rfl,rfl,SqL.of h1,aB (j:=0) rfl,rfl,_,_,rfl,rfl,rfl,by rw[aK,sizeLine_eq];omega,λl2 n2=>?_⟩
  rw[show Str.ofString " " = one 32 from rfl,ip 32 la (lal la (by simp)) (by decide)]
  have m2:=eC 32 la;have k2:=gm 32 la;cases e2:spl 32 la with
  |nil=>exact absurd e2 (eX 32 la)
  |cons w0 ws=>
  rw[e2] at m2 k2;rw[length_cons] at k2;generalize e0:upd H1 l2 _=H2;obtain⟨s2,h2⟩:=un e0 n2;clear e0;refine⟨l2,w0,ws,rfl,h2,by omega,λw hw=>⟨λc hc=>lal la (by simp) c ((m2 w (mem_cons_of_mem _ hw)).1 c hc),by have:=(m2 w (mem_cons_of_mem _ hw)).2;omega⟩,hz.go (s1.trans s2),λP L g x H3 hP hL1 hL4 s3 hG hN=>?_⟩
  obtain⟨dx,hg⟩:=id hG;have s13:=s2.trans s3;refine⟨_,rfl,l,_,_,_,rfl,rfl,SqL.of (s13 _ _ h1),aB (j:=1) rfl,rfl,_,_,rfl,rfl,rfl,by rw[aK,sizeLine_eq];omega,λl4 n4=>?_⟩
  rw[ip 32 lb (lal lb (by simp)) (by decide)]
  have m4:=eC 32 lb;have k4:=gm 32 lb;cases e4:spl 32 lb with
  |nil=>exact absurd e4 (eX 32 lb)
  |cons u0 us=>
  rw[e4] at m4 k4;rw[length_cons] at k4;generalize e0:upd H3 l4 _=H4;obtain⟨s4,h4⟩:=un e0 n4;clear e0;refine⟨l4,u0,us,rfl,h4,by omega,λeu w hw=>⟨λc hc=>lal lb (by simp) c ((m4 w (mem_cons_of_mem _ hw)).1 c hc),by have:=(m4 w (mem_cons_of_mem _ hw)).2;omega,λhi=>?_⟩,hz.go (s1.trans (s13.trans s4)),λcs c H5 eu hcs nc s5 hc=>?_⟩
  ·injection eu with eu
   have eu:u0=[99,111,108,117,109,110,115]:=Gs.mp eu;exact hcol us (by rw[e4,eu]) w hw hi
  injection eu with eu
  have hlr:=hlr ⟨us,by rw[e4,show u0=[99,111,108,117,109,110,115] from Gs.mp eu]⟩
  have s15:=s13.trans (s4.trans s5);refine⟨_,rfl,_,rfl,l,_,rfl,SqL.of (s15 _ _ h1),λl6 n6=>?_⟩
  rw[map_cons,map_cons,map_cons,map_cons,Cr];generalize e0:upd H5 l6 _=H6;obtain⟨s6,h6⟩:=un e0 n6;clear e0;have sH6:=s1.trans (s15.trans s6);have hz6:=hz.go sH6;have hc6:=s6 _ _ hc;have hg6:=s6 _ _ (s5 _ _ (s4 _ _ hg));have hN6:=hN.mono λo e=>s6 _ _ (s5 _ _ (s4 _ _ e))
  have lm:((lr.map tx).map V.str).length=lr.length:=by rw[length_map,length_map]
  have c3:=hcs.2.1;refine⟨l6,rfl,⟨_,SqL.of h6⟩,fe (n:=lr.length) (σ0:=[none,some (.ref g),some (.ref c)]) rfl (λacc i zs σ H'=>∃(u:Option V) (rows:List (List (List aw))),σ=[u,some (.ref g),some (.ref c)]/\FX H6 H'/\Paired (RowF H6 acc P H') zs rows/\(∀row∈rows,tR P L cs row)/\rows.map (shR P)=lr.take i) (by rw[sizeLine_eq];omega) (λacc hacc=>⟨none,[],rfl,FX.new hacc,.nil,(λ_ h=>nomatch h),rfl⟩) ?_ ?_ ?_ ?_⟩
  ·rintro acc i zs σ H' hacc hi hz ⟨u,rows,rfl,sm,_⟩;exact⟨_,_,SqL.of (sm _ _ h6),getElem?_eq_getElem (by omega)⟩
  ·rintro acc zs σ H' hacc hz ⟨u,rows,rfl,sm,_⟩;exact⟨_,SqL.of (sm _ _ h6),by omega⟩
  ·rintro acc i zs σ H7 y H' hacc hi hzz hzl ⟨u,rows,rfl,sm,pz,hrw,hrt⟩ ⟨rfl,gx⟩;have hy:=gx _ (SqL.of (sm _ _ h6));rw[getElem?_map,getElem?_map] at hy;obtain⟨ln,er⟩:∃ln,lr[i]? = some ln:=⟨_,getElem?_eq_getElem hi⟩
   have ml:=mem_of_getElem? er;rw[er] at hy;have hy:V.str (tx ln)=y:=by injection hy
   subst hy;refine⟨_,rfl,_,rfl,_,rfl,g,x,c,P,L,cs,_,rfl,.inr ⟨ln,rfl,hP,⟨dx,sm _ _ hg6⟩,hN6.mono λo e=>sm _ _ e,by omega,hL4,sm _ _ hc6,lal ln (by simp[ml]),by have:=(hmem ln (by simp[ml])).2;omega,(hlr ln ml).1,(hlr ln ml).2,λ_=>hz6.go sm,λrow hw er2 hB r2 es2 H2 n2 s2 h2 p2=>?_⟩⟩
   have hz2:=s2 _ _ hzz;have ra:r2≠acc:=(al hzz n2).symm;have k2:Gj [acc] H2 (upd H2 acc (.lst (zs++[.ref r2]))):=Gj.put hz2 (by simp)
   refine⟨zs,hz2,by rw[sizeLine_eq];omega,_,FY,by rw[length_append,length_singleton];omega,_,rows++[row],rfl,(sm.trans s2).put hacc,?_,λr hr'=>?_,?_⟩
   ·refine g8 ⟨r2,es2,rfl,sm.free n2,ra,by rw[ar ra];exact h2,bf (λv e z=>?_) p2⟩ (bf (λ_ _=>RowF.keepA (av:=[acc]) (λa h=>.inl (by simpa using h)) ((Gj.of s2).trans k2)) pz)
    obtain⟨l,ts,rfl,nl,_,hl,pl⟩:=z;have la:l≠acc:=(al hzz nl).symm;exact⟨l,ts,rfl,sm.free nl,la,by rw[ar la];exact hl,pl.mono k2.1⟩
   ·rcases List.mem_append.mp hr' with z|z
    ·exact hrw r z
    ·rw[List.mem_singleton.mp z];exact⟨hw,hB⟩
   ·rw[map_append,hrt,take_add_one,er];show _++[aN 44 32 (row.map (shS P))]=_;rw[er2,(jl 44 32 ln).1]
    rfl
  ·rintro acc zs σ H7 hacc hzz hzl ⟨u,rows,rfl,sm,pz,hrw,hrt⟩;rw[take_length] at hrt;have lrr:rows.length=lr.length:=by rw[<- hrt,length_map]
   have hG7:cF CG H7 g x L:=⟨dx,sm _ _ hg6⟩;have hN7:=hN6.mono λo e=>sm _ _ e
   have hc7:=sm _ _ hc6;refine⟨_,rfl,_,rfl,_,rfl,g,x,c,acc,P,L,cs,zs,rows,rfl,hP,hG7,hN7,hc7,c3,hzz,bf (λ_ _ z=>z.row) pz,by omega,hrw,λH8 s8=>?_⟩
   cases hall:rows.all λrow=>(b5 cs row).isSome with
   |false=>exact⟨false,rfl,bC ⟨zl,hz6 _ (sm.trans s8)⟩⟩
   |true=>
    refine⟨true,rfl,bS ?_⟩;refine⟨_,rfl,_,rfl,_,rfl,g,x,c,acc,P,L,cs,zs,rows,rfl,hP,⟨dx,s8 _ _ (sm _ _ hg6)⟩,hN7.mono λo e=>s8 _ _ e,by omega,hL4,s8 _ _ hc7,hcs,s8 _ _ hzz,bf (λ_ _ z=>z.row.same s8) pz,by omega,λrow hr'=>⟨by have:=jN (hrw row hr').2;omega,(hrw row hr').1⟩,λH9 s9=>?_⟩
    have hne:=hno P L cs rows ⟨hP,hL1,hL4,hcs,by omega,λrow hr'=>⟨hrw row hr',List.all_eq_true.mp hall row hr'⟩⟩
    exact⟨_,rfl,_,_,rfl,λe=>absurd (Gs.mp e) hne,λ_=>hz6 _ (sm.trans (s8.trans s9))⟩
inductive Bw:List Expr->List Str->Prop
 |nil:Bw [] []
 |cons {x:Str} {j:Nat} {pos:Pos} {es:List Expr} {ss:List Str} (h:Bw es ss):Bw (.Constant (.str x) j pos::es) (x::ss)
theorem Cs{X:Cx}{es:List Expr}{ss:List Str}(h:Bw es ss):PA X es (λ_ H Q=>Q (ss.map V.str) H):=by
 induction h with
 |nil=>exact ae
 |cons h ih=>exact aa aI ih
theorem exQ{X:Cx}{st:List Stmt}{R:TS->Prop}(h:∃t,QSs X st t/\R t):∃t,PSs X st t/\R t:=qSs▸h
def eN:=qA▸@Cs
def cW:=qE▸qA▸@bK
def cQ:=qE▸qA▸@dQ
def BQ:=qE▸@ED
def lZ:=qE▸qS▸@eI
def gE:=qA▸@kD
def jC:=qE▸@mi
def hW:=qE▸@bF
def wg:=qE▸@df
def Bu:=qE▸@du
theorem jz{ss:List Str}{xs:List V}{l:Addr}{R:TS}{D:fJ}{σ:L2.St}{H:Hp}{i:Nat}(hσ:σ[i]? = some (some (.ref l)))(hl:H l=some (.lst xs))(hn:xs.length+ss.length<=1000)
  (h:∀l' H',H l'=none->FX H H'->H' l'=some (.lst (xs++ss.map V.str))->R D (σ.set i (some (.ref l'))) H'):(cf (uz (tOp Cd (uE i) (Ei λ_ H Q=>Q (ss.map V.str) H)) (di i)) R) D σ H:=by
 refine⟨_,hσ,by rw[length_map,sizeLine_eq];omega,λa na=>⟨l,a,_,_,rfl,rfl,(FX.new na) _ _ hl,FY,by rw[length_map,sizeLine_eq];omega,λb nb=>?_⟩⟩
 exact h b _ ((FX.new na).free nb) ((FX.new na).trans (FX.new nb)) FY
theorem u4{t u:TS}{D:fJ}{σ:L2.St}{H:Hp}(M:L2.St->Hp->Prop)(h1:∀R:L2.St->Hp->Prop,(∀σ' H',M σ' H'->R σ' H')->t { D with nx:=R } σ H)(h2:∀σ' H',M σ' H'->u D σ' H'):(cf t u) D σ H:=h1 (u D) h2
theorem F9:FZ ["_law_letters", "_law_prime_here", "_law_some"] ["_law_letters", "_law_prime_here"] (ah eQ):=.i
theorem Bq{f:Addr}{fd:FuncData}(F:Fun K "_law_bad_sums" "_law_bad_sums" eQ f fd)(nstr:mg "str" = none):F2 P w K mg base CX0 1 f fd ["_law_letters", "_law_prime_here"] uH:=by
 refine F.o F9 λ_ _ _ _ H _ Q _ hr h=>?_
 ·obtain⟨L,P,rfl,hL1,hL4,hP,q⟩:=h;refine exQ ⟨_,(am (aP (i:=2) F9.nd rfl (Or.inl rfl) (aO (eN (.cons (.cons (.cons (.cons (.cons (.cons (.cons (.cons (.cons (.cons (.cons (.cons (.cons (.cons (.cons .nil))))))))))))))))))
(am (aP (i:=2) F9.nd rfl (Or.inl rfl) (aJ bj (qpv 2) (aO (eN (.cons (.cons (.cons (.cons (.cons (.cons (.cons (.cons (.cons (.cons (.cons (.cons (.cons (.cons .nil))))))))))))))))))
(am (aP (i:=2) F9.nd rfl (Or.inl rfl) (aJ bj (qpv 2) (aO (eN (.cons (.cons (.cons (.cons (.cons (.cons (.cons (.cons (.cons (.cons (.cons (.cons (.cons .nil)))))))))))))))))
(am (aP (i:=2) F9.nd rfl (Or.inl rfl) (aJ bj (qpv 2) (aO (eN (.cons (.cons (.cons (.cons (.cons (.cons (.cons (.cons (.cons (.cons (.cons (.cons (.cons .nil)))))))))))))))))
(am (aP (i:=2) F9.nd rfl (Or.inl rfl) (aJ bj (qpv 2) (aO (eN (.cons (.cons (.cons (.cons (.cons (.cons (.cons (.cons (.cons .nil)))))))))))))
(am (cT (bB gO (qpv 0) aC (ao _))
(aU (aP (i:=2) F9.nd rfl (Or.inl rfl) (aJ bj (qpv 2) (aO (ac (bX j9 aq (qpv 0) (λ_ _=>rfl)) (ac (aJ aE aq (bX j9 aq (qpv 0) (λ_ _=>rfl))) (ac (aJ aE (bX j9 aq (qpv 0) (λ_ _=>rfl)) aq) ak)))))))
bJ)
(am (cT (bB gL (qpv 0) aC (ao _))
(aU (aP (i:=2) F9.nd rfl (Or.inl rfl) (aJ bj (qpv 2) (aO (ac aq (ac aq (ac aq ak)))))))
bJ)
(am (cT (bB gL (qpv 1) aC (ao _))
(aU (aP (i:=2) F9.nd rfl (Or.inl rfl) (aJ bj (qpv 2) (aO (ac (cW aX (by rfl) nstr bO (ac (qpv 1) ak)) (ac (aJ aE (cW aX (by rfl) nstr bO (ac (qpv 1) ak)) aq) (ac aq (ac aq (ac aq (ac aq ak))))))))))
bJ)
(aU (bP (qpv 2))))))))))),?_⟩
  refine⟨zl,λl1 n1=>?_⟩
  generalize e1:upd H l1 _=H1;have s1:FX H H1:=e1▸FX.new n1;have h1:H1 l1=some (.lst (tv nX)):=by rw[<- e1];exact FY
  clear e1;refine jz rfl h1 (by decide +kernel) λl2 H2 n2 s2 h2=>?_
  refine jz rfl h2 (by decide +kernel) λl3 H3 n3 s3 h3=>?_
  refine jz rfl h3 (by decide +kernel) λl4 H4 n4 s4 h4=>?_
  refine jz rfl h4 (by decide +kernel) λl5 H5 n5 s5 h5=>?_
  have s14:=s1.trans (s2.trans (s3.trans s4));have h5:H5 l5=some (.lst (tv (nX++og++on++ot++oz))):=h5;have n5:H l5=none:=s14.free n5;have s5:=s14.trans s5;clear s1 s2 s3 s4 s14 h1 h2 h3 h4 n1 n2 n3 n4;have e5:(nX++og++on++ot++oz).length=64:=by decide +kernel
  unfold gS at q;generalize nX++og++on++ot++oz=B at *;refine qt (t:=wY _ _ _) (λσ' H'=>∃l,σ'=[some (.int L),some (.int P),some (.ref l)]/\FX H H'/\H l=none/\H' l=some (.lst (tv (B++jv L.toNat)))) (λR hR=>?_) ?_
  ·refine⟨_,rfl,_,_,rfl,rfl,_,rfl,bt (λh=>?_) (λh=>?_)⟩
   ·have h:L<4:=of_decide_eq_true h;obtain⟨n,rfl⟩:=Int.eq_ofNat_of_zero_le (show 0<=L by omega)
    have b4:(Str.ofString "xyzw").length<=sizeLine:=by show 4<=sizeLine;decide
    have n4:n<4:=by omega
    refine⟨_,rfl,_,rfl,_,_,_,rfl,rfl,b4,kl n4,_,rfl,_,_,_,rfl,rfl,b4,kl n4,_,_,rfl,rfl,zl,_,rfl,_,_,_,rfl,rfl,b4,kl n4,_,_,rfl,rfl,zl,zl,λa na=>⟨l5,a,_,_,rfl,rfl,(FX.new na) _ _ h5,FY,?_,λb nb=>?_⟩⟩
    ·show(tv B).length+3<=sizeLine;unfold tv;rw[length_map,e5,sizeLine_eq]
     decide
    ·refine hR _ _ ⟨b,rfl,s5.trans ((FX.new na).trans (FX.new nb)),s5.free ((FX.new na).free nb),FY.trans ?_⟩;unfold jv;rw[Int.toNat_natCast,if_pos n4,<- dA];show some (HO.lst (tv B++[V.str (tx [eU n]),V.str (tx [120,42]++tx [eU n]),V.str (tx [eU n]++tx [94,50])]))=_;rw[bq,bq]
     rfl
   ·have h:¬L<4:=λz=>h (decide_eq_true z)
    refine hR _ _ ⟨l5,rfl,s5,n5,?_⟩;unfold jv;rw[if_neg (by omega),append_nil]
    exact h5
  rintro σ' H6 ⟨l6,rfl,s6,n6,h6⟩;have e6:(B++jv L.toNat).length<=70:=by
   rw[length_append,e5];unfold jv
   split
   ·show 64+3<=70
    decide
   ·decide
  generalize B++jv L.toNat=B2 at *;refine u4 (t:=wY _ _ _) (λσ' H'=>∃l,σ'=[some (.int L),some (.int P),some (.ref l)]/\FX H H'/\H l=none/\H' l=some (.lst (tv (B2++jq L.toNat)))) (λR hR=>?_) ?_
  ·refine⟨_,rfl,_,_,rfl,rfl,_,rfl,bt (λh=>?_) (λh=>?_)⟩
   ·have h:1<L:=of_decide_eq_true h;refine⟨_,rfl,zl,λa na=>⟨l6,a,_,_,rfl,rfl,(FX.new na) _ _ h6,FY,?_,λb nb=>?_⟩⟩
    ·show(tv B2).length+3<=sizeLine;unfold tv;rw[length_map,sizeLine_eq];omega
    ·refine hR _ _ ⟨b,rfl,s6.trans ((FX.new na).trans (FX.new nb)),s6.free ((FX.new na).free nb),FY.trans ?_⟩;unfold jq;rw[if_pos (by omega),<- dA]
     rfl
   ·have h:¬1<L:=λz=>h (decide_eq_true z)
    refine hR _ _ ⟨l6,rfl,s6,n6,?_⟩;unfold jq;rw[if_neg (by omega),append_nil]
    exact h6
  rintro σ' H7 ⟨l7,rfl,s7,n7,h7⟩;have e7:(B2++jq L.toNat).length<=80:=by
   rw[length_append];unfold jq
   split
   ·show _+3<=80;omega
   ·show _+0<=80;omega
  generalize B2++jq L.toNat=B3 at *;refine u4 (t:=wY _ _ _) (λσ' H'=>∃l,σ'=[some (.int L),some (.int P),some (.ref l)]/\FX H H'/\H l=none/\H' l=some (.lst (tv (B3++nE P)))) (λR hR=>?_) ?_
  ·refine⟨_,rfl,_,_,rfl,rfl,_,rfl,bt (λh=>?_) (λh=>?_)⟩
   ·have h:0<P:=of_decide_eq_true h;have hB:=hP.b;have lg:P.natAbs.log2<1920:=dv (Nat.lt_of_le_of_lt (show P.natAbs<=9973 by omega) (by decide +kernel))
    have es:=cR (i:=P) (by omega)
    have l4:(az P.natAbs).length<=4:=bh (by decide) (by omega)
    refine⟨_,rfl,_,rfl,_,rfl,lg,_,rfl,_,rfl,lg,_,_,rfl,rfl,?_,zl,λa na=>⟨l7,a,_,_,rfl,rfl,(FX.new na) _ _ h7,FY,?_,λb nb=>?_⟩⟩
    ·rw[es,aK,sizeLine_eq];show _+2<=_;omega
    ·show(tv B3).length+6<=sizeLine;unfold tv;rw[length_map,sizeLine_eq];omega
    ·refine hR _ _ ⟨b,rfl,s7.trans ((FX.new na).trans (FX.new nb)),s7.free ((FX.new na).free nb),FY.trans ?_⟩;unfold nE;rw[if_pos h,<- dA,es,show Str.ofString "*x" = tx [42,120] from rfl,bq]
     rfl
   ·have h:¬0<P:=λz=>h (decide_eq_true z)
    refine hR _ _ ⟨l7,rfl,s7,n7,?_⟩;unfold nE;rw[if_neg h,append_nil];exact h7
  rintro σ' H8 ⟨l8,rfl,s8,n8,h8⟩;exact⟨_,rfl,q l8 H8 n8 s8 h8⟩
theorem o6{c d a:Nat}(h:a≠c):∀l:List Nat,bZ c d (a::l)=hdc a (bZ c d l)
 |[]=>rfl
 |b::r=>by
  show(if a=c/\b=d then[]::bZ c d r else hdc a (bZ c d (b::r)))=_
  rw[if_neg λz=>h z.1]
theorem pj{c d:Nat}:∀(w r:List Nat),c∉w->bZ c d (w++c::d::r)=w::bZ c d r
 |[],r,_=>by
  show(if c=c/\d=d then[]::bZ c d r else _)=_
  rw[if_pos ⟨rfl,rfl⟩]
 |a::w,r,h=>by
  show bZ c d (a::(w++c::d::r))=_;rw[o6 (λz=>h (by simp[z])),pj w r λz=>h (mem_cons_of_mem _ z)]
  rfl
theorem pi{c d:Nat}:∀w:List Nat,c∉w->bZ c d w=[w]
 |[],_=>rfl
 |a::w,h=>by
  rw[o6 (λz=>h (by simp[z])),pi w λz=>h (mem_cons_of_mem _ z)]
  rfl
theorem fZ{c d:Nat}:∀ws:List (List Nat),ws≠[]->(∀w∈ws,c∉w)->bZ c d (aN c d ws)=ws
 |[],h,_=>absurd rfl h
 |[w],_,h=>pi w (h w (by simp))
 |w::v::ws,_,h=>by
  show bZ c d (w++c::d::aN c d (v::ws))=_;rw[pj w _ (h w (by simp)),fZ (v::ws) (by simp) λu hu=>h u (mem_cons_of_mem _ hu)]
theorem vb(c:Nat)(y:List Nat):∀x:List Nat,spl c (x++c::y)=spl c x++spl c y
 |[]=>by
  show spl c (c::y)=_;rw[dM,if_pos rfl]
  rfl
 |a::x=>by
  have ih:=vb c y x;show spl c (a::(x++c::y))=_;rw[dM,dM,ih]
  split
  ·rfl
  ·cases hx:spl c x with
   |nil=>exact absurd hx (eX c x)
   |cons w ws=>rfl
theorem lF{d f:Nat}:∀{ws:List (List Nat)} {c:Nat},c∈aN d f ws->c=d\/c=f\/∃w∈ws,c∈w
 |[w],c,h=>.inr (.inr ⟨w,by simp,h⟩)
 |w::v::ws,c,h=>by
  have h:c∈w++d::f::aN d f (v::ws):=h
  rcases List.mem_append.mp h with z|z
  ·exact .inr (.inr ⟨w,by simp,z⟩)
  ·rcases List.mem_cons.mp z with z|z
   ·exact .inl z
   ·rcases List.mem_cons.mp z with z|z
    ·exact .inr (.inl z)
    ·rcases lF z with z|z|⟨u,hu,z⟩
     ·exact .inl z
     ·exact .inr (.inl z)
     ·exact .inr (.inr ⟨u,mem_cons_of_mem _ hu,z⟩)
def lQ(P L:Int)(cs:List Int)(l:List Nat):Prop:=∀row,(∀e∈row,Gc P L e)->row.map (shS P)=bZ 44 32 l->jI cs row=true->False
def TB(P L:Int)(cs:List Int)(l:List Nat):Prop:=(spl 10 l).length<=2/\(∀y∈spl 10 l,fw y)/\∃y∈spl 10 l,lQ P L cs y
def oB(P L:Int)(cs:List Int)(l:List Nat):Prop:=(∀c∈l,c<128)/\l.length<=40/\fw l/\lQ P L cs l/\TB P L cs l
theorem Ai{P L:Int}{cs:List Int}{l:List Nat}(h:10∉l)(h1:fw l)(h2:lQ P L cs l):TB P L cs l:=by
 unfold TB;rw[dm 10 l h];exact⟨by show 1<=2;decide,λy hy=>by rw[List.mem_singleton.mp hy];exact h1,l,List.mem_singleton.mpr rfl,h2⟩
theorem Ca{P L:Int}{cs:List Int}{l w:List Nat}(h:w∈bZ 44 32 l)(n:NoS P L w):lQ P L cs l:=λrow hw e _=>by
 rw[<- e] at h;obtain⟨q,hq,eq⟩:=List.mem_map.mp h;exact n q (hw q hq) eq
def BN(w:List Nat):Bool:=[true,false].all λz=>[1,2,3,4].all λn=>!ck z lT n w
theorem Ch{P L:Int}(h1:1<=L)(h4:L<=4){w:List Nat}(h:BN w=true):NoS P L w:=noS lT (λ_ _ _=>rfl) (by
 have:=kN (zo h (decide (P=0))) (n:=L.toNat) (by omega) (by omega)
 simpa using this)
def rq(l:List Nat):Bool:=decide ((bZ 44 32 l).length<=8)&&(bZ 44 32 l).all λw=>decide (w.length<=7)
theorem iu{l:List Nat}(h:rq l=true):fw l:=by
 obtain⟨a,b⟩:=Bool.and_eq_true _ _▸h;exact⟨of_decide_eq_true a,λw hw=>of_decide_eq_true (List.all_eq_true.mp b w hw)⟩
def yM(l:List Nat):Bool:=(l.all λc=>decide (c<128)&&decide (c≠10))&&(decide (l.length<=40)&&(rq l&&(bZ 44 32 l).any BN))
theorem rK{P L:Int}{cs:List Int}(h1:1<=L)(h4:L<=4){l:List Nat}(h:(bZ 44 32 l).any BN=true):lQ P L cs l:=by
 obtain⟨w,hw,hb⟩:=List.any_eq_true.mp h;exact Ca hw (Ch h1 h4 hb)
theorem jF{P L:Int}{cs:List Int}(h1:1<=L)(h4:L<=4){l:List Nat}(h:yM l=true):oB P L cs l:=by
 obtain⟨a,h⟩:=Bool.and_eq_true _ _▸h;obtain⟨b,h⟩:=Bool.and_eq_true _ _▸h;obtain⟨c,d⟩:=Bool.and_eq_true _ _▸h;have a:∀c∈l,c<128/\c≠10:=λc hc=>by
  have:=List.all_eq_true.mp a c hc;exact⟨of_decide_eq_true (Bool.and_eq_true _ _▸this).1,of_decide_eq_true (Bool.and_eq_true _ _▸this).2⟩
 have n:=rK (P:=P) (cs:=cs) h1 h4 d;exact⟨λc hc=>(a c hc).1,of_decide_eq_true b,iu c,n,Ai (λz=>(a _ z).2 rfl) (iu c) n⟩
theorem lH{P L:Int}{cs:List Int}{ws:List (List Nat)}(h0:ws≠[])(hw:∀w∈ws,w.length<=7/\∀c∈w,c<128/\c≠44)(hl:ws.length<=4)(no:∀row,(∀e∈row,Gc P L e)->row.map (shS P)=ws->jI cs row=true->False)(h10:(∀w∈ws,10∉w)\/TB P L cs (aN 44 32 ws)):oB P L cs (aN 44 32 ws):=by
 have e:bZ 44 32 (aN 44 32 ws)=ws:=fZ ws h0 λw h z=>((hw w h).2 _ z).2 rfl
 have lo:fw (aN 44 32 ws):=by
  unfold fw;rw[e];exact⟨by omega,λw h=>(hw w h).1⟩
 have nr:lQ P L cs (aN 44 32 ws):=by
  unfold lQ;rw[e];exact no
 have gc:∀c∈aN 44 32 ws,c=44\/c=32\/∃w∈ws,c∈w:=λc hc=>lF hc
 refine⟨λc hc=>?_,?_,lo,nr,?_⟩
 ·rcases gc c hc with z|z|⟨w,h,z⟩
  ·omega
  ·omega
  ·exact((hw w h).2 c z).1
 ·have:=fj 44 32 (B:=7) ws λw h=>(hw w h).1
  omega
 ·rcases h10 with h|h
  ·exact Ai (λz=>by
    rcases gc _ z with z|z|⟨w,hm,z⟩
    ·omega
    ·omega
    ·exact h w hm z) lo nr
  ·exact h
def W1(n i:Nat)(b:List Nat):List (List Nat):=(List.replicate n [48]).set i b
theorem ij{n i:Nat}{b w:List Nat}(h:w∈W1 n i b):w=b\/w=[48]:=by
 rcases List.mem_or_eq_of_mem_set h with z|z
 ·exact .inr (eq_of_mem_replicate z)
 ·exact .inl z
theorem cM{n i:Nat}{b:List Nat}:(W1 n i b).length=n:=by
 unfold W1;rw[length_set,length_replicate]
theorem AC{n i:Nat}{b:List Nat}(h:i<n):b∈W1 n i b:=by
 unfold W1;exact List.mem_set (by rw[length_replicate];exact h) b
theorem E3:([48]:List Nat).length<=7/\∀c∈([48]:List Nat),c<128/\c≠44:=⟨by decide,by decide⟩
theorem sg10:((nX++og++on++ot++oz).all (λb=>!b.contains 10 || (b==sg "x\n" || b==sg "\nx"))&&([1,2,3,4].all λn=>(jv n++jq n).all λb=>!b.contains 10)&&(["-x", "x - 1", "1/2", "-1"].map sg).all (λb=>!b.contains 10))=true:=by decide +kernel
theorem D9{P L:Int}(h1:1<=L)(h4:L<=4){b:List Nat}(hb:b∈gS P L.toNat):10∉b\/b=sg "x\n"\/b=sg "\nx":=by
 obtain⟨a,c⟩:=Bool.and_eq_true _ _▸sg10;obtain⟨a,d⟩:=Bool.and_eq_true _ _▸a;have nc:∀{b:List Nat},(!b.contains 10)=true->10∉b:=λ{b} h z=>by
  rw[List.contains_iff_mem.mpr z] at h;exact absurd h (by decide)
 have dn:=kN d (n:=L.toNat) (by omega) (by omega)
 rw[List.all_append,Bool.and_eq_true] at dn;unfold gS at hb
 rcases List.mem_append.mp hb with hb|hb
 ·rcases List.mem_append.mp hb with hb|hb
  ·rcases List.mem_append.mp hb with hb|hb
   ·have:=List.all_eq_true.mp a b hb
    rcases(Bool.or_eq_true _ _).mp this with z|z
    ·exact .inl (nc z)
    ·rcases(Bool.or_eq_true _ _).mp z with z|z
     ·exact .inr (.inl (beq_iff_eq.mp z))
     ·exact .inr (.inr (beq_iff_eq.mp z))
   ·exact .inl (nc (List.all_eq_true.mp dn.1 b hb))
  ·exact .inl (nc (List.all_eq_true.mp dn.2 b hb))
 ·unfold nE at hb
  split at hb
  ·left
   rcases List.mem_cons.mp hb with z|hb
   ·rw[z];exact dD (by decide)
   ·rcases List.mem_cons.mp hb with z|hb
    ·rw[z];intro w
     rcases List.mem_append.mp w with w|w
     ·exact dD (by decide) w
     ·simp at w
    ·exact nc (List.all_eq_true.mp c b hb)
  ·exact nomatch hb
def tbB(l:List Nat):Bool:=decide ((spl 10 l).length<=2)&&((spl 10 l).all rq&&(spl 10 l).any λy=>(bZ 44 32 y).any BN)
theorem yQ{P L:Int}{cs:List Int}(h1:1<=L)(h4:L<=4){l:List Nat}(h:tbB l=true):TB P L cs l:=by
 obtain⟨a,h⟩:=Bool.and_eq_true _ _▸h;obtain⟨b,c⟩:=Bool.and_eq_true _ _▸h;obtain⟨y,hy,hb⟩:=List.any_eq_true.mp c;exact⟨of_decide_eq_true a,λy hy=>iu (List.all_eq_true.mp b y hy),y,hy,rK h1 h4 hb⟩
theorem Dp:([1,2,3].all λn=>(List.range n).all λi=>tbB (aN 44 32 (W1 n i (sg "x\n")))&&tbB (aN 44 32 (W1 n i (sg "\nx"))))=true:=by decide +kernel
theorem CD{p:Nat->Nat->Bool}(h:([1,2,3].all λn=>(List.range n).all (p n))=true){n i:Nat}(h1:1<=n)(h2:n<=3)(hi:i<n):p n i=true:=by
 have:=List.all_eq_true.mp h n (by
  have:n=1\/n=2\/n=3:=by omega
  rcases this with rfl|rfl|rfl<;>simp)
 exact List.all_eq_true.mp this i (List.mem_range.mpr hi)
theorem AD{P L:Int}{cs:List Int}(hP:F0 P)(h1:1<=L)(h4:L<=4){n i:Nat}(n1:1<=n)(n3:n<=3)(hi:i<n){b:List Nat}(hb:b∈gS P L.toNat):oB P L cs (aN 44 32 (W1 n i b)):=by
 have ob:=qK hP h1 h4 hb;have nb:=vj hP h1 h4 hb;refine lH (λz=>?_) (λw hw=>?_) (by rw[cM];omega) (λrow hw e _=>?_) ?_
 ·have:=congrArg List.length z;rw[cM] at this;have this:n=0:=this;omega
 ·rcases ij hw with rfl|rfl
  ·exact ob
  ·exact E3
 ·have h:=AC (b:=b) hi;rw[<- e] at h;obtain⟨q,hq,eq⟩:=List.mem_map.mp h;exact nb q (hw q hq) eq
 ·rcases D9 h1 h4 hb with z|rfl|rfl
  ·left
   intro w hw
   rcases ij hw with rfl|rfl
   ·exact z
   ·decide
  ·exact .inr (yQ h1 h4 (Bool.and_eq_true _ _▸CD (p:=λn i=>tbB (aN 44 32 (W1 n i (sg "x\n")))&&tbB (aN 44 32 (W1 n i (sg "\nx")))) Dp n1 n3 hi).1)
  ·exact .inr (yQ h1 h4 (Bool.and_eq_true _ _▸CD (p:=λn i=>tbB (aN 44 32 (W1 n i (sg "x\n")))&&tbB (aN 44 32 (W1 n i (sg "\nx")))) Dp n1 n3 hi).2)
theorem tV{P L:Int}{e:List aw}(hw:Gc P L e){b:List Nat}(h:shS P e=b):pS (decide (P=0)) lT L.toNat b=some (e.map (·.1)):=by
 rw[<- h];exact A9 (λ_ _ _=>rfl) hw
def zn4(p:Bool->Nat->Bool):Bool:=[true,false].all λz=>[1,2,3,4].all λn=>p z n
theorem tW{p:Bool->Nat->Bool}(h:zn4 p=true)(z:Bool){n:Nat}(h1:1<=n)(h2:n<=4):p z n=true:=kN (zo h z) h1 h2
def yn(o:Option (List (List Int))):List Int:=match o with
 |some ks=>ks.map List.sum
 |none=>[]
theorem yi{P L:Int}(h1:1<=L)(h4:L<=4){b:List Nat}{ds:List Int}(hd:zn4 (λz n=>decide (yn (pS z lT n b)=ds))=true){e:List aw}(hw:Gc P L e)(h:shS P e=b):e.map (λp=>p.1.sum)=ds:=by
 have k:=tV hw h;have d:=of_decide_eq_true (tW hd (decide (P=0)) (n:=L.toNat) (by omega) (by omega))
 rw[k] at d;rw[<- d];show _=(e.map (·.1)).map List.sum;rw[map_map]
 rfl
theorem C2:zn4 (λz n=>decide (yn (pS z lT n [48])=[]))=true:=by decide +kernel
theorem Dg:zn4 (λz n=>decide (yn (pS z lT n [120])=[1]))=true:=by decide +kernel
theorem EM:zn4 (λz n=>decide (yn (pS z lT n (sg "x^2"))=[2]))=true:=by decide +kernel
def lows:List (List Nat):=["x + 1", "x^2 + x", "x^3 + 1"].map sg
theorem Ap:zn4 (λz n=>lows.all λb=>match yn (pS z lT n b) with|[a,b]=>decide (a≠b)|_=>false)=true:=by decide +kernel
theorem zO{P L:Int}(h1:1<=L)(h4:L<=4){b:List Nat}(hb:b∈lows){e:List aw}(hw:Gc P L e)(h:shS P e=b):lvl e=false:=by
 have k:=tV hw h;have d:=List.all_eq_true.mp (tW Ap (decide (P=0)) (n:=L.toNat) (by omega) (by omega)) b hb
 rw[k] at d;have d:(match (e.map (·.1)).map List.sum with|[a,b]=>decide (a≠b)|_=>false)=true:=d
 match e,d with
 |[p,q],d=>
  have d:decide (p.1.sum≠q.1.sum)=true:=d;have d:=of_decide_eq_true d;exact decide_eq_false d
theorem iX{cs:List Int}{row:List (List aw)}(h:jI cs row=true):row.length=cs.length/\(∀e∈row,lvl e=true)/\ddn (aM cs row)<=1:=by
 obtain⟨a,h⟩:=Bool.and_eq_true _ _▸(show(decide (row.length=cs.length)&&(row.all lvl&&decide (ddn (aM cs row)<=1)))=true from h)
 obtain⟨b,c⟩:=Bool.and_eq_true _ _▸h;exact⟨of_decide_eq_true a,List.all_eq_true.mp b,of_decide_eq_true c⟩
theorem zw{P L:Int}{cs:List Int}(h1:1<=L)(h4:L<=4){n i:Nat}(n1:1<=n)(n3:n<=3)(hi:i<n){b:List Nat}(hb:b∈lows):oB P L cs (aN 44 32 (W1 n i b)):=by
 have ob:b.length<=7/\∀c∈b,c<128/\c≠44/\c≠10:=by
  have:=List.all_eq_true.mp (show lows.all (λb=>decide (b.length<=7)&&b.all λc=>decide (c<128/\c≠44/\c≠10))=true by decide +kernel) b hb
  obtain⟨a,c⟩:=Bool.and_eq_true _ _▸this;exact⟨of_decide_eq_true a,λd hd=>of_decide_eq_true (List.all_eq_true.mp c d hd)⟩
 refine lH (λz=>?_) (λw hw=>?_) (by rw[cM];omega) (λrow hw e hB=>?_) (.inl λw hw=>?_)
 ·have:=congrArg List.length z;rw[cM] at this;have this:n=0:=this;omega
 ·rcases ij hw with rfl|rfl
  ·exact⟨ob.1,λc hc=>⟨(ob.2 c hc).1,(ob.2 c hc).2.1⟩⟩
  ·exact E3
 ·have h:=AC (b:=b) hi;rw[<- e] at h;obtain⟨q,hq,eq⟩:=List.mem_map.mp h;have:=(iX hB).2.1 q hq;rw[zO h1 h4 hb (hw q hq) eq] at this;exact Bool.false_ne_true this
 ·rcases ij hw with rfl|rfl
  ·exact λz=>(ob.2 _ z).2.2 rfl
  ·decide
theorem sF{P L:Int}{cs:List Int}{ws:List (List Nat)}(h0:ws≠[])(hw:∀w∈ws,w=[120]\/w=[48])(hl:ws.length<=4)(hn:ws.length≠cs.length):oB P L cs (aN 44 32 ws):=by
 refine lH h0 (λw h=>?_) hl (λrow _ e hB=>?_) (.inl λw h=>?_)
 ·rcases hw w h with rfl|rfl<;>exact⟨by decide,by decide⟩
 ·have:=(iX hB).1;rw[<- e,length_map] at hn;exact hn this
 ·rcases hw w h with rfl|rfl<;>decide
theorem En{c0 c1:Int}{cs:List Int}{e0 e1:List aw}{row:List (List aw)}{d0 d1:Int}(h0:e0.map (λp=>p.1.sum)=[d0])(h1:e1.map (λp=>p.1.sum)=[d1])(hne:c0+d0≠c1+d1):¬ddn (aM (c0::c1::cs) (e0::e1::row))<=1:=λh=>by
 have key:=mz (ns:=aM (c0::c1::cs) (e0::e1::row));rw[decide_eq_true (show ddn (aM (c0::c1::cs) (e0::e1::row))<2 by omega)] at key
 have all:=of_decide_eq_true key.symm
 match e0,e1,h0,h1 with
 |[p],[q],h0,h1=>
  have h0:[p.1.sum]=[d0]:=h0;have h1:[q.1.sum]=[d1]:=h1;injection h0 with h0
  injection h1 with h1
  refine hne ?_;rw[<- h0,<- h1];exact all _ (show c0+p.1.sum∈(c0+p.1.sum)::(c1+q.1.sum)::aM cs row by simp) _ (show c1+q.1.sum∈(c0+p.1.sum)::(c1+q.1.sum)::aM cs row by simp)
theorem Az{P L:Int}{c0 c1:Int}{cs:List Int}(h1:1<=L)(h4:L<=4){b:List Nat}{ws:List (List Nat)}(hb:b=(if c0=c1 then sg "x^2" else[120]))(hw:∀w∈ws,w=[120]\/w=[48])(hl:ws.length<=2):oB P L (c0::c1::cs) (aN 44 32 ([120]::b::ws)):=by
 have hb':b=[120]\/b=[120,94,50]:=by
  rw[hb]
  split
  ·exact .inr rfl
  ·exact .inl rfl
 have all:∀w∈[120]::b::ws,w=[120]\/w=[120,94,50]\/w=[48]:=λw h=>by
  rcases List.mem_cons.mp h with z|h
  ·exact .inl z
  ·rcases List.mem_cons.mp h with z|h
   ·rw[z]
    rcases hb' with z|z
    ·exact .inl z
    ·exact .inr (.inl z)
   ·rcases hw w h with z|z
    ·exact .inl z
    ·exact .inr (.inr z)
 refine lH (by simp) (λw h=>?_) (by rw[length_cons,length_cons];omega) (λrow wr e hB=>?_) (.inl λw h=>?_)
 ·rcases all w h with rfl|rfl|rfl<;>exact⟨by decide,by decide⟩
 ·match row,e with
  |e0::e1::r,e=>
   rw[map_cons,map_cons] at e;injection e with a0 e
   injection e with a1 _
   have k0:=yi h1 h4 Dg (wr e0 (by simp)) a0
   refine En (d1:=if c0=c1 then 2 else 1) k0 ?_ ?_ (iX hB).2.2
   ·rw[hb] at a1
    split at a1
    ·rename_i hc;rw[if_pos hc];exact yi h1 h4 EM (wr e1 (by simp)) a1
    ·rename_i hc;rw[if_neg hc];exact yi h1 h4 Dg (wr e1 (by simp)) a1
   ·split
    ·omega
    ·omega
  |[e0],e=>simp at e
  |[],e=>simp at e
 ·rcases all w h with rfl|rfl|rfl<;>decide
theorem rf:(["_law_column"]:List Str).Nodup:=by decide +kernel
def uw:Sp:=λvs H Q _=>∃(L P:Int) (c p:Addr) (cs:List Int) (a b:Int) (k:Nat),vs=[.int L,.int P,.ref c,.ref p]/\1<=L/\L<=4/\F0 P/\H c=some (.lst (cs.map V.int))/\1<=cs.length/\cs.length<=3/\c≠p/\H p=some (.lst [.int a,.int b])/\Gm a b k/\k<=900/\
 ∀(l:List Nat) (a' b':Int) (H':Hp),oB P L cs l->H' p=some (.lst [.int a',.int b'])->Gm a' b' (k+6)->(∀d o,H d=some o->d≠p->H' d=some o)->Q (.str (tx l)) H'
theorem jk{n i:Nat}(h:i<n):ixN n (i:Int)=some i:=by
 unfold ixN;rw[if_pos (by omega)]
 simp;omega
theorem E2(ws:List (List Nat)):tv ws=(ws.map tx).map V.str:=by
 unfold tv;rw[map_map]
 rfl
theorem aS(ws:List (List Nat)):(tv ws).length=ws.length:=length_map _
theorem kC{ws:List (List Nat)}{i:Nat}{v:V}(h:(tv ws)[i]? = some v):∃b∈ws,v=.str (tx b):=by
 unfold tv at h;rw[getElem?_map] at h;cases e:ws[i]? with
 |none=>rw[e] at h;exact nomatch h
 |some b=>
  rw[e] at h;injection h with h
  exact⟨b,mem_of_getElem? e,h.symm⟩
theorem hv{H:Hp}{wd:Addr}{ws:List (List Nat)}(h:H wd=some (.lst (tv ws))):H wd=some (.lst ((ws.map tx).map V.str)):=by
 rw[<- E2];exact h
theorem eM{sep:Str}{ws:List (List Nat)}(hs:sep.length<=3)(h7:∀w∈ws,w.length<=40)(hl:ws.length<=8):JoinOk sep (ws.map tx)=true:=by
 unfold JoinOk;rw[Bool.not_eq_true'];refine StrLaws.joinFits (B:=40) (λy hy=>?_) ?_
 ·obtain⟨w,hw',rfl⟩:=List.mem_map.mp hy;rw[aK];exact h7 w hw'
 ·rw[length_map];have h1:ws.length*sep.length<=8*3:=Nat.mul_le_mul hl hs;have h2:ws.length*40<=8*40:=Nat.mul_le_mul_right _ hl;exact Nat.le_trans (Nat.add_le_add h2 h1) (by decide)
theorem Dc{sep:Str}{wd:Addr}{ws:List (List Nat)}{H:Hp}{Q:VK}(hw:H wd=some (.lst (tv ws)))(hs:sep.length<=3)(h7:∀w∈ws,w.length<=40)(hl:ws.length<=8)(h:Q (.str (Txt.join sep (ws.map tx))) H):C4 (.str sep) [.ref wd] H Q:=⟨sep,wd,ws.map tx,rfl,rfl,hv hw,eM hs h7 hl,h⟩
theorem jm(ws:List (List Nat)):Txt.join (Str.ofString ", ") (ws.map tx)=tx (aN 44 32 ws):=mE 44 32 ws
theorem zF{n i:Nat}{x b:List Nat}:(tv (W1 n i x)).set i (.str (tx b))=tv (W1 n i b):=by
 unfold tv W1;rw[<- map_set,List.set_set]
theorem tP{x y:V}{j:Nat}(h:j<2):[x,y][j]? = some (if j=0 then x else y):=by
 match j,h with
 |0,_=>rfl
 |1,_=>rfl
def rZ(j:Nat):Str:=if j=0 then Str.ofString ", " else Str.ofString ""
def yG(j:Nat):Str:=if j=0 then Str.ofString "," else Str.ofString ", "
def seps:List Str:=[",", " , ", ",  ", "; ", " "].map Str.ofString
def DX(n i a b:Nat):Str:=rZ a++Txt.join (Str.ofString ", ") ((W1 n i [120]).map tx)++yG b
theorem way2:([1,2,3].all λn=>(List.range n).all λi=>(List.range 2).all λa=>(List.range 2).all λb=>yM (DX n i a b).cps.toList)=true:=by decide +kernel
theorem way3:([1,2,3].all λn=>(List.range n).all λi=>decide (n=1) || seps.all λs=>yM (Txt.join s ((W1 n i [120]).map tx)).cps.toList)=true:=by decide +kernel
theorem yy:seps.all (λs=>decide (s.length<=3))=true:=by decide +kernel
theorem CC{n i:Nat}{b:List Nat}(hb:b.length<=7):∀w∈W1 n i b,w.length<=40:=λw hw=>by
 rcases ij hw with rfl|rfl
 ·omega
 ·decide
theorem Gp:FZ ["_law_letters", "_law_prime_here", "_law_columns", "_law_bag_here", "_law_words", "_law_at", "_law_way", "_law_bad"] ["_law_letters", "_law_prime_here", "_law_columns", "_law_bag_here"] (ah fD):=.i
theorem yP{f:Addr}{fd:FuncData}(F:Fun K "_law_bad_row" "_law_bad_row" fD f fd)(T:Blt mg)(Ho:FnB P w K mg base 1 "_law_take" mL)(HI:FnB P w K mg base 1 "_law_bad_sums" uH):F2 P w K mg base CX0 2 f fd ["_law_letters", "_law_prime_here", "_law_columns", "_law_bag_here"] uw:=by
 refine F.o Gp λ_ _ _ _ H _ Q _ hr h=>?_
 ·obtain⟨L,P,c,p,cs,a,b,k,rfl,hL1,hL4,hP,hc,n1,n3,cp,hp,hb,hk,q⟩:=h;refine exQ ⟨_,(am (si (i:=4) Gp.nd rfl (Or.inl rfl) (N:=["_law_column"]) (src:=[none]) rfl rfl rfl (by exact(ft K rfl (qpv 2))) (λ_ _ _=>by exact⟨by exact(cv (i:=0) rf rfl rfl),bi,by exact aq⟩))
(am (aP (i:=5) Gp.nd rfl (Or.inl rfl) (br Ho hr.m (ac (qpv 3) (ac (by exact(eJ K T (qpv 2))) ak))))
(am (jy aq (jC (qpv 4) (qpv 5) dH))
(am (aP (i:=6) Gp.nd rfl (Or.inl rfl) (br Ho hr.m (ac (qpv 3) (ac aC ak))))
(am (aP (i:=7) Gp.nd rfl (Or.inl rfl) (br HI hr.m (ac (qpv 0) (ac (qpv 1) ak))))
(am (cT (bB ba (qpv 6) aC (ao _))
(am (lZ (BQ PySem.F.plainAttrs_list PySem.F.slot_list_pop PySem.F.type_list_pop Ev (qpv 4)))
(aU (bP (cQ PySem.F.plainAttrs_str PySem.F.slot_str_join PySem.F.type_str_join bo aq (ac (qpv 4) ak)))))
bJ)
(am (cT (bB ba (qpv 6) aC (ao _))
(aU (bP (cQ PySem.F.plainAttrs_str PySem.F.slot_str_join PySem.F.type_str_join bo aq (ac (by exact(aJ bj (qpv 4) (aO (ac aq ak)))) ak))))
bJ)
(am (cT (bB ba (qpv 6) aC (ao _))
(aU (bP (aJ aE (aJ aE (bX (ay K rfl) (aO (ac aq (ac aq ak))) (br Ho hr.m (ac (qpv 3) (ac aC ak))) (λ_ _=>rfl)) (cQ PySem.F.plainAttrs_str PySem.F.slot_str_join PySem.F.type_str_join bo aq (ac (qpv 4) ak))) (bX (ay K rfl) (aO (ac aq (ac aq ak))) (br Ho hr.m (ac (qpv 3) (ac aC ak))) (λ_ _=>rfl)))))
bJ)
(am (cT (PW.pt (nj (bB ba (qpv 6) aC (ao _)) (lE (bB gL (eJ K T (qpv 2)) aC (ao _)))))
(aU (bP (cQ PySem.F.plainAttrs_str PySem.F.slot_str_join PySem.F.type_str_join bo (bX (ay K rfl) (aO (eN (.cons (.cons (.cons (.cons (.cons .nil))))))) (br Ho hr.m (ac (qpv 3) (ac aC ak))) (λ_ _=>rfl)) (ac (qpv 4) ak))))
bJ)
(am (cT (bB ba (qpv 6) aC (ao _))
(am (jy (bX (ay K rfl) (aO (ac aq (ac aq (ac aq ak)))) (br Ho hr.m (ac (qpv 3) (ac aC ak))) (λ_ _=>rfl)) (jC (qpv 4) (qpv 5) dH))
(aU (bP (cQ PySem.F.plainAttrs_str PySem.F.slot_str_join PySem.F.type_str_join bo aq (ac (qpv 4) ak)))))
bJ)
(am (cT (PW.pt (nj (bB ba (qpv 6) aC (ao _)) (lE (bB gL (eJ K T (qpv 2)) aC (ao _)))))
(am (jy (bX (ay K rfl) (aO (ac aq (ac aq ak))) (cW pN (by rfl) T.int fm (ac (hW iz (bX (ay K rfl) (qpv 2) aC (λ_ _=>rfl)) (bX (ay K rfl) (qpv 2) aC (λ_ _=>rfl)) (ao _)) ak)) (λ_ _=>rfl)) (jC (qpv 4) aC dH))
(am (jy aq (jC (qpv 4) aC dH))
(aU (bP (cQ PySem.F.plainAttrs_str PySem.F.slot_str_join PySem.F.type_str_join bo aq (ac (qpv 4) ak))))))
bJ)
(am (jy (bX (ay K rfl) (qpv 7) (br Ho hr.m (ac (qpv 3) (ac (by exact(eJ K T (qpv 7))) ak))) (λ_ _=>rfl)) (jC (qpv 4) (qpv 5) dH))
(aU (bP (cQ PySem.F.plainAttrs_str PySem.F.slot_str_join PySem.F.type_str_join bo aq (ac (qpv 4) ak)))))))))))))))),?_⟩
  have lc:(cs.map V.int).length=cs.length:=length_map _;refine sq5 λR0 hR0=>?_
  refine⟨_,rfl,c,rfl,⟨_,SqL.of hc⟩,bU (rest:=[]) rfl (λ_=>.str (tx [48])) hc (by omega) (λi v H1 R hv sm hR=>hR H1 (FX.refl _)) λwd H1 nwd s1 hwd=>?_⟩
  have hwd:H1 wd=some (.lst (tv (List.replicate cs.length [48]))):=by
   rw[hwd,lc];unfold tv;rw[map_replicate,map_const',length_range]
  have wp:wd≠p:=(al hp nwd).symm;refine⟨_,rfl,_,rfl,c,_,rfl,.inl (SqL.of (s1 _ _ hc)),p,a,b,_,k,rfl,s1 _ _ hp,hb,by omega,by omega,bg (by omega) (by omega),λr a2 b2 r0 r1 hb2=>?_⟩
  obtain⟨i,rfl⟩:=Int.eq_ofNat_of_zero_le r0;have hi:i<cs.length:=by omega
  have kp2:∀d o,H d=some o->d≠p->(upd H1 p (.lst [.int a2,.int b2])) d=some o:=λd o e hd=>by rw[ar hd];exact s1 _ _ e
  have hp2:(upd H1 p (.lst [.int a2,.int b2])) p=some (.lst [.int a2,.int b2]):=FY;have hwd2:(upd H1 p (.lst [.int a2,.int b2])) wd=some (.lst (tv (List.replicate cs.length [48]))):=by rw[ar wp];exact hwd
  generalize upd H1 p (.lst [.int a2,.int b2])=H2 at *;refine⟨_,rfl,_,rfl,wd,_,_,i,rfl,rfl,hwd2,jk (by rw[aS,length_replicate];exact hi),?_⟩
  have kp3:∀d o,H d=some o->d≠p->(upd H2 wd (.lst ((tv (List.replicate cs.length [48])).set i (.str (tx [120]))))) d=some o:=λd o e hd=>by rw[ar (al e nwd)];exact kp2 _ _ e hd
  have hp3:(upd H2 wd (.lst ((tv (List.replicate cs.length [48])).set i (.str (tx [120]))))) p=some (.lst [.int a2,.int b2]):=by rw[ar wp.symm];exact hp2
  have hwd3:(upd H2 wd (.lst ((tv (List.replicate cs.length [48])).set i (.str (tx [120]))))) wd=some (.lst (tv (W1 cs.length i [120]))):=by
   rw[FY];unfold W1 tv;rw[map_set]
  rw[show Str.ofString "x" = tx [120] from rfl]
  generalize upd H2 wd (.lst ((tv (List.replicate cs.length [48])).set i (.str (tx [120]))))=H3 at *;refine⟨_,rfl,p,a2,b2,8,_,rfl,hp3,hb2,by omega,by decide,bg (by decide) (by decide),λway a4 b4 w0 w1 hb4=>?_⟩
  have kp4:∀d o,H d=some o->d≠p->(upd H3 p (.lst [.int a4,.int b4])) d=some o:=λd o e hd=>by rw[ar hd];exact kp3 _ _ e hd
  have hp4:(upd H3 p (.lst [.int a4,.int b4])) p=some (.lst [.int a4,.int b4]):=FY;have hwd4:(upd H3 p (.lst [.int a4,.int b4])) wd=some (.lst (tv (W1 cs.length i [120]))):=by rw[ar wp];exact hwd3
  generalize upd H3 p (.lst [.int a4,.int b4])=H4 at *;refine⟨_,rfl,_,rfl,L,P,rfl,hL1,hL4,hP,λbd H5 nbd s5 hbd=>?_⟩
  have bp:bd≠p:=(al hp4 nbd).symm;have bw:bd≠wd:=(al hwd4 nbd).symm;have hp5:=s5 _ _ hp4;have hwd5:=s5 _ _ hwd4;have kp5:∀d o,H d=some o->d≠p->H5 d=some o:=λd o e hd=>s5 _ _ (kp4 _ _ e hd)
  have hb4:Gm a4 b4 (k+2):=hb4;clear kp2 kp3 kp4 hp2 hp3 hp4 hwd2 hwd3 hwd4 hwd s1 s5 hb2 hb nbd;have wf:∀d o,H d=some o->d≠wd:=λd o e=>al e nwd
  have x7:∀w∈W1 cs.length i [120],w.length<=40:=CC (by decide)
  have xl:(W1 cs.length i [120]).length<=8:=by rw[cM];omega
  subst hR0;refine⟨_,rfl,rfl,_,rfl,bt (λh=>?_) (λh=>?_)⟩
  ·obtain⟨y,hy⟩:∃y,(tv (W1 cs.length i [120]))[(tv (W1 cs.length i [120])).length-1]? = some y:=⟨_,getElem?_eq_getElem (by rw[aS,cM];omega)⟩
   refine⟨_,rfl,.inl ⟨rfl,_,SqL.of hwd5⟩,wd,_,y,rfl,rfl,hwd5,hy,?_⟩;have ed:(tv (W1 cs.length i [120])).dropLast=tv (W1 cs.length i [120]).dropLast:=by
    unfold tv;rw[List.map_dropLast]
   rw[ed];refine⟨rfl,_,rfl,Dc FY (by decide +kernel) (λw hw=>x7 w (List.dropLast_subset _ hw)) (by rw[length_dropLast];omega) ?_⟩
   rw[jm];refine q _ a4 b4 _ ?_ (by rw[ar wp.symm];exact hp5) (hb4.mono (by omega)) λd o e hd=>by rw[ar (wf d o e)];exact kp5 _ _ e hd
   have ld:(W1 cs.length i [120]).dropLast.length=cs.length-1:=by rw[length_dropLast,cM]
   by_cases h1:cs.length=1
   ·have e0:(W1 cs.length i [120]).dropLast=[]:=List.eq_nil_of_length_eq_zero (by omega)
    rw[e0];exact jF hL1 hL4 (by decide +kernel)
   ·exact sF (λz=>by rw[z] at ld;have ld:0=cs.length-1:=ld;omega) (λw hw=>ij (List.dropLast_subset _ hw)) (by omega) (by omega)
  refine⟨_,rfl,rfl,_,rfl,bt (λh=>?_) (λh=>?_)⟩
  ·refine⟨rfl,_,rfl,zl,λl6 n6=>⟨wd,l6,_,_,rfl,rfl,(FX.new n6) _ _ hwd5,FY,by rw[aS,cM,sizeLine_eq];show _+1<=_;omega,λl7 n7=>?_⟩⟩
   have s7:=(FX.new (o:=.lst [V.str (Str.ofString "0")]) n6).trans (FX.new (o:=.lst (tv (W1 cs.length i [120])++[V.str (Str.ofString "0")])) n7);have ec:tv (W1 cs.length i [120])++[V.str (Str.ofString "0")]=tv (W1 cs.length i [120]++[[48]]):=dA _ [[48]];refine Dc (ws:=W1 cs.length i [120]++[[48]]) (by rw[FY,ec]) (by decide +kernel) (λw hw=>?_) (by rw[length_append,cM];show _+1<=8;omega) ?_
   ·rcases List.mem_append.mp hw with z|z
    ·exact x7 w z
    ·rw[List.mem_singleton.mp z]
     decide
   ·rw[jm];refine q _ a4 b4 _ (sF (by simp) (λw hw=>?_) (by rw[length_append,cM];show _+1<=4;omega) (by rw[length_append,cM];show _+1≠_;omega)) (s7 _ _ hp5) (hb4.mono (by omega)) λd o e hd=>s7 _ _ (kp5 _ _ e hd)
    rcases List.mem_append.mp hw with z|z
    ·exact ij z
    ·exact .inr (List.mem_singleton.mp z)
  refine⟨_,rfl,rfl,_,rfl,bt (λh=>?_) (λh=>?_)⟩
  ·refine⟨zl,λl6 n6=>?_⟩
   have s6:=FX.new (o:=.lst [V.str (Str.ofString ", "),V.str (Str.ofString "")]) n6;have h6:(upd H5 l6 (.lst [V.str (Str.ofString ", "),V.str (Str.ofString "")])) l6=some (.lst [V.str (Str.ofString ", "),V.str (Str.ofString "")]):=FY;have lp:l6≠p:=(al hp5 n6).symm;generalize upd H5 l6 (.lst [V.str (Str.ofString ", "),V.str (Str.ofString "")])=H6 at *;refine⟨_,rfl,p,a4,b4,2,_,rfl,s6 _ _ hp5,hb4,by omega,by decide,bg (by decide) (by decide),λr a7 b7 r0 r1 hb7=>?_⟩
   obtain⟨j,rfl⟩:=Int.eq_ofNat_of_zero_le r0;have hj:j<2:=by omega
   have hp7:(upd H6 p (.lst [.int a7,.int b7])) p=some (.lst [.int a7,.int b7]):=FY;have kp7:∀d o,H6 d=some o->d≠p->(upd H6 p (.lst [.int a7,.int b7])) d=some o:=λd o e hd=>by rw[ar hd];exact e
   generalize upd H6 p (.lst [.int a7,.int b7])=H7 at *;refine⟨l6,_,_,_,rfl,rfl,SqL.of (kp7 _ _ h6 lp),aB (tP hj),rfl,_,rfl,?_⟩;refine⟨_,wd,_,rfl,rfl,hv (kp7 _ _ (s6 _ _ hwd5) wp),eM (by decide +kernel) x7 xl,?_⟩
   have eA:(if j=0 then V.str (Str.ofString ", ") else V.str (Str.ofString ""))=V.str (rZ j):=by unfold rZ;split<;>rfl
   have lA:(rZ j).length<=2:=by unfold rZ;split<;>decide
   have lJ:(Txt.join (Str.ofString ", ") ((W1 cs.length i [120]).map tx)).length<=600:=by
    rw[jm,aK];have:=fj 44 32 (B:=40) (W1 cs.length i [120]) x7;have:(W1 cs.length i [120]).length*(40+2)<=8*42:=Nat.mul_le_mul_right _ xl;omega
   refine⟨_,_,eA,rfl,by rw[sizeLine_eq];omega,zl,λl8 n8=>?_⟩
   have s8:=FX.new (o:=.lst [V.str (Str.ofString ","),V.str (Str.ofString ", ")]) n8;have h8:(upd H7 l8 (.lst [V.str (Str.ofString ","),V.str (Str.ofString ", ")])) l8=some (.lst [V.str (Str.ofString ","),V.str (Str.ofString ", ")]):=FY;have lp8:l8≠p:=(al hp7 n8).symm;generalize upd H7 l8 (.lst [V.str (Str.ofString ","),V.str (Str.ofString ", ")])=H8 at *;refine⟨_,rfl,p,a7,b7,2,_,rfl,s8 _ _ hp7,hb7,by omega,by decide,bg (by decide) (by decide),λr a9 b9 r0 r1 hb9=>?_⟩
   obtain⟨m,rfl⟩:=Int.eq_ofNat_of_zero_le r0;have hm:m<2:=by omega
   have eB:(if m=0 then V.str (Str.ofString ",") else V.str (Str.ofString ", "))=V.str (yG m):=by unfold yG;split<;>rfl
   have lB:(yG m).length<=2:=by unfold yG;split<;>decide
   refine⟨l8,_,_,_,rfl,rfl,SqL.of (by rw[ar lp8];exact h8),aB (tP hm),_,_,rfl,eB,?_,?_⟩
   ·show(⟨(rZ j).cps++_⟩:Str).length+_<=_;have e:(⟨(rZ j).cps++(Txt.join (Str.ofString ", ") ((W1 cs.length i [120]).map tx)).cps⟩:Str).length=(rZ j).length+(Txt.join (Str.ofString ", ") ((W1 cs.length i [120]).map tx)).length:=Array.size_append;rw[e,sizeLine_eq];omega
   ·have d:=List.all_eq_true.mp (List.all_eq_true.mp (CD (p:=λn i=>(List.range 2).all λa=>(List.range 2).all λb=>yM (DX n i a b).cps.toList) way2 n1 n3 hi) j (List.mem_range.mpr hj)) m (List.mem_range.mpr hm)
    exact q (DX cs.length i j m).cps.toList a9 b9 _ (jF hL1 hL4 d) FY (hb9.mono (by omega)) λd o e hd=>by rw[ar hd];exact s8 _ _ (kp7 _ _ (s6 _ _ (kp5 _ _ e hd)) hd)
  have hc5:H5 c=some (.lst (cs.map V.int)):=kp5 _ _ hc cp;have l5:∀j:Nat,j<seps.length->∃s∈seps,(seps.map V.str)[j]? = some (.str s):=λj hj=>⟨seps[j],List.getElem_mem hj,by rw[getElem?_map,getElem?_eq_getElem hj];rfl⟩
  refine ue (λσ' H'=>σ'=[some (.int L),some (.int P),some (.ref c),some (.ref p),some (.ref wd),some (.int i),some (.int way),some (.ref bd)]/\H'=H5) (λR hR=>?_) ?_
  ·refine⟨_,rfl,rfl,_,rfl,bt (λh=>?_) (λh=>hR _ _ ⟨rfl,rfl⟩)⟩
   refine⟨_,rfl,c,_,rfl,.inl (SqL.of hc5),_,_,rfl,rfl,_,rfl,bt (λh=>?_) (λh=>hR _ _ ⟨rfl,rfl⟩)⟩
   have h2:1<cs.length:=by have:=of_decide_eq_true h;rw[lc] at this;omega
   refine⟨zl,λl6 n6=>?_⟩
   have s6:=FX.new (o:=.lst (seps.map V.str)) n6;have h6:(upd H5 l6 (.lst (seps.map V.str))) l6=some (.lst (seps.map V.str)):=FY;have lp:l6≠p:=(al hp5 n6).symm;rw[show[Str.ofString ",",Str.ofString " , ",Str.ofString ",  ",Str.ofString "; ",Str.ofString " "]=seps from rfl]
   generalize upd H5 l6 (.lst (seps.map V.str))=H6 at *;refine⟨_,rfl,p,a4,b4,5,_,rfl,s6 _ _ hp5,hb4,by omega,by decide,bg (by decide) (by decide),λr a7 b7 r0 r1 hb7=>?_⟩
   obtain⟨j,rfl⟩:=Int.eq_ofNat_of_zero_le r0;obtain⟨sp,hs,es⟩:=l5 j (by show j<5;omega)
   have kp7:∀d o,H6 d=some o->d≠p->(upd H6 p (.lst [.int a7,.int b7])) d=some o:=λd o e hd=>by rw[ar hd];exact e
   refine⟨l6,_,_,_,rfl,rfl,SqL.of (kp7 _ _ h6 lp),aB es,rfl,_,rfl,_,wd,_,rfl,rfl,hv (kp7 _ _ (s6 _ _ hwd5) wp),eM (of_decide_eq_true (List.all_eq_true.mp yy sp hs)) x7 xl,?_⟩;have d:=(Bool.or_eq_true _ _).mp (CD (p:=λn i=>decide (n=1) || seps.all λs=>yM (Txt.join s ((W1 n i [120]).map tx)).cps.toList) way3 n1 n3 hi)
   rcases d with d|d
   ·have:=of_decide_eq_true d;omega
   ·exact q (Txt.join sp ((W1 cs.length i [120]).map tx)).cps.toList a7 b7 _ (jF hL1 hL4 (List.all_eq_true.mp d sp hs)) FY (hb7.mono (by omega)) λd o e hd=>kp7 _ _ (s6 _ _ (kp5 _ _ e hd)) hd
  rintro σ' H' ⟨rfl,eH⟩;rw[eH];clear eH H';refine⟨_,rfl,rfl,_,rfl,bt (λh=>?_) (λh=>?_)⟩
  ·refine⟨zl,λl6 n6=>?_⟩
   rw[show[V.str (Str.ofString "x + 1"),V.str (Str.ofString "x^2 + x"),V.str (Str.ofString "x^3 + 1")]=tv lows from rfl]
   have s6:=FX.new (o:=.lst (tv lows)) n6;have h6:(upd H5 l6 (.lst (tv lows))) l6=some (.lst (tv lows)):=FY;have lp:l6≠p:=(al hp5 n6).symm;generalize upd H5 l6 (.lst (tv lows))=H6 at *;refine⟨_,rfl,p,a4,b4,3,_,rfl,s6 _ _ hp5,hb4,by omega,by decide,bg (by decide) (by decide),λr a7 b7 r0 r1 hb7=>?_⟩
   obtain⟨j,rfl⟩:=Int.eq_ofNat_of_zero_le r0;obtain⟨v,ev⟩:∃v,(tv lows)[j]? = some v:=⟨_,getElem?_eq_getElem (by rw[aS];show j<3;omega)⟩
   obtain⟨b,mb,rfl⟩:=kC ev;have b7':b.length<=7:=of_decide_eq_true (List.all_eq_true.mp (show lows.all (λb=>decide (b.length<=7))=true by decide +kernel) b mb)
   have kp7:∀d o,H6 d=some o->d≠p->(upd H6 p (.lst [.int a7,.int b7])) d=some o:=λd o e hd=>by rw[ar hd];exact e
   have hp7:(upd H6 p (.lst [.int a7,.int b7])) p=some (.lst [.int a7,.int b7]):=FY;generalize upd H6 p (.lst [.int a7,.int b7])=H7 at *;refine⟨l6,_,_,_,rfl,rfl,SqL.of (kp7 _ _ h6 lp),aB ev,_,rfl,_,rfl,wd,_,_,i,rfl,rfl,kp7 _ _ (s6 _ _ hwd5) wp,jk (by rw[aS,cM];exact hi),?_⟩
   rw[zF];refine⟨rfl,_,rfl,_,wd,_,rfl,rfl,hv FY,eM (by decide +kernel) (CC b7') (by rw[cM];omega),?_⟩
   rw[jm];exact q _ a7 b7 _ (zw hL1 hL4 n1 n3 hi mb) (by rw[ar wp.symm];exact hp7) (hb7.mono (by omega)) λd o e hd=>by rw[ar (wf d o e)];exact kp7 _ _ (s6 _ _ (kp5 _ _ e hd)) hd
  refine ue (λσ' H'=>σ'=[some (.int L),some (.int P),some (.ref c),some (.ref p),some (.ref wd),some (.int i),some (.int way),some (.ref bd)]/\H'=H5) (λR hR=>?_) ?_
  ·refine⟨_,rfl,rfl,_,rfl,bt (λh=>?_) (λh=>hR _ _ ⟨rfl,rfl⟩)⟩
   refine⟨_,rfl,c,_,rfl,.inl (SqL.of hc5),_,_,rfl,rfl,_,rfl,bt (λh=>?_) (λh=>hR _ _ ⟨rfl,rfl⟩)⟩
   have h2:1<cs.length:=by have:=of_decide_eq_true h;rw[lc] at this;omega
   obtain⟨c0,c1,cr,rfl⟩:∃a b r,cs=a::b::r:=by
    match cs,h2 with
    |a::b::r,_=>exact⟨a,b,r,rfl⟩
   refine⟨zl,λl6 n6=>?_⟩
   generalize e0:upd H5 l6 _=H6;obtain⟨s6,h6⟩:=un e0 n6;clear e0;have hc6:=s6 _ _ hc5;refine⟨_,rfl,c,_,_,_,rfl,rfl,SqL.of hc6,aB (j:=0) rfl,_,rfl,c,_,_,_,rfl,rfl,SqL.of hc6,aB (j:=1) rfl,rfl,.inr ⟨_,rfl,l6,_,_,.str (tx (if c0=c1 then sg "x^2" else[120])),rfl,rfl,SqL.of h6,?_,?_⟩⟩
   ·by_cases e:c0=c1
    ·rw[if_pos e,decide_eq_true (congrArg V.int e)];exact aB (j:=0) rfl
    ·rw[if_neg e,decide_eq_false (λz=>e (by injection z))]
     exact aB (j:=1) rfl
   ·obtain⟨w0,w1',wr,ew⟩:∃a b r,W1 (c0::c1::cr).length i [120]=a::b::r:=by
     have:=cM (n:=(c0::c1::cr).length) (i:=i) (b:=[120])
     match W1 (c0::c1::cr).length i [120],this with
     |a::b::r,_=>exact⟨a,b,r,rfl⟩
     |[a],h=>simp at h
     |[],h=>simp at h
    have lr:wr.length<=2:=by
     have:=cM (n:=(c0::c1::cr).length) (i:=i) (b:=[120]);rw[ew,length_cons,length_cons] at this;omega
    have hwr:∀w∈wr,w=[120]\/w=[48]:=λw hw=>ij (n:=(c0::c1::cr).length) (i:=i) (by rw[ew];simp[hw])
    have hwd6:=s6 _ _ hwd5;rw[ew] at hwd6;refine⟨_,rfl,wd,_,_,1,rfl,rfl,hwd6,jk (i:=1) (by show 1<_+1+1;omega),?_⟩
    generalize hb0:(if c0=c1 then sg "x^2" else[120])=b0
    have e1:(tv (w0::w1'::wr)).set 1 (.str (tx b0))=tv (w0::b0::wr):=rfl;rw[e1];have h7:(upd H6 wd (.lst (tv (w0::b0::wr)))) wd=some (.lst (tv (w0::b0::wr))):=FY;have k7:∀d o,H6 d=some o->d≠wd->(upd H6 wd (.lst (tv (w0::b0::wr)))) d=some o:=λd o e hd=>by rw[ar hd];exact e
    generalize upd H6 wd (.lst (tv (w0::b0::wr)))=H7 at *;refine⟨_,rfl,wd,_,_,0,rfl,rfl,h7,jk (i:=0) (by show 0<_+1;omega),?_⟩
    have e2:(tv (w0::b0::wr)).set 0 (.str (Str.ofString "x"))=tv ([120]::b0::wr):=rfl;rw[e2];have lb0:b0.length<=7:=by rw[<- hb0];split<;>decide
    refine⟨rfl,_,rfl,_,wd,_,rfl,rfl,hv FY,eM (by decide +kernel) (λw hw=>?_) (by rw[length_cons,length_cons];omega),?_⟩
    ·rcases List.mem_cons.mp hw with z|hw
     ·rw[z]
      decide
     ·rcases List.mem_cons.mp hw with z|hw
      ·rw[z];omega
      ·rcases hwr w hw with z|z<;>rw[z]<;>decide
    rw[jm];exact q _ a4 b4 _ (Az hL1 hL4 hb0.symm hwr lr) (by rw[ar wp.symm];exact k7 _ _ (s6 _ _ hp5) wp.symm) (hb4.mono (by omega)) λd o e hd=>by rw[ar (wf d o e)];exact k7 _ _ (s6 _ _ (kp5 _ _ e hd)) (wf d o e)
  rintro σ' H' ⟨rfl,eH⟩;rw[eH];clear eH H';have lb:0<(gS P L.toNat).length:=by
   unfold gS;rw[length_append,length_append,length_append];have:(nX++og++on++ot++oz).length=64:=by decide +kernel
   omega
  have lb2:(gS P L.toNat).length<100:=by
   unfold gS;rw[length_append,length_append,length_append];have h1:(nX++og++on++ot++oz).length=64:=by decide +kernel
   have h2:(jv L.toNat).length<=3:=by unfold jv;split<;>simp
   have h3:(jq L.toNat).length<=3:=by unfold jq;split<;>simp
   have h4:(nE P).length<=6:=by unfold nE;split<;>simp
   omega
  refine⟨_,rfl,_,rfl,_,rfl,bd,_,rfl,.inl (SqL.of hbd),p,a4,b4,_,_,rfl,hp5,hb4,by omega,by rw[aS];omega,bg (by rw[aS];omega) (by rw[aS];omega),λr a7 b7 r0 r1 hb7=>?_⟩
  obtain⟨j,rfl⟩:=Int.eq_ofNat_of_zero_le r0;obtain⟨v,ev⟩:∃v,(tv (gS P L.toNat))[j]? = some v:=⟨_,getElem?_eq_getElem (by omega)⟩
  obtain⟨b,mb,rfl⟩:=kC ev;have kp7:∀d o,H5 d=some o->d≠p->(upd H5 p (.lst [.int a7,.int b7])) d=some o:=λd o e hd=>by rw[ar hd];exact e
  have hp7:(upd H5 p (.lst [.int a7,.int b7])) p=some (.lst [.int a7,.int b7]):=FY;generalize upd H5 p (.lst [.int a7,.int b7])=H7 at *;refine⟨bd,_,_,_,rfl,rfl,SqL.of (kp7 _ _ hbd bp),aB ev,_,rfl,_,rfl,wd,_,_,i,rfl,rfl,kp7 _ _ hwd5 wp,jk (by rw[aS,cM];exact hi),?_⟩
  rw[zF];refine⟨rfl,_,rfl,_,wd,_,rfl,rfl,hv FY,eM (by decide +kernel) (CC (qK hP hL1 hL4 mb).1) (by rw[cM];omega),?_⟩
  rw[jm];exact q _ a7 b7 _ (AD hP hL1 hL4 n1 n3 hi mb) (by rw[ar wp.symm];exact hp7) (hb7.mono (by omega)) λd o e hd=>by rw[ar (wf d o e)];exact kp7 _ _ (kp5 _ _ e hd) hd
theorem uV{P:Int}{ps:List aw}(h:∀p∈ps,p.1.length<=4):∀c∈shS P ps,c=32\/c=43\/c=45\/c=42\/okc c:=λc hc=>by
 cases ps with
 |nil=>
  rw[List.mem_singleton.mp (show c∈[48] from hc)]
  exact .inr (.inr (.inr (.inr (.inl ⟨by decide,by decide⟩))))
 |cons p r=>
  rw[ie] at hc
  rcases ki hc with z|⟨w,hw,z⟩
  ·exact .inl z
  ·exact .inr (C7 h w hw c z)
theorem Fn{P L:Int}{row:List (List aw)}(hw:∀e∈row,Gc P L e):∀c∈shR P row,c≠10/\c<128:=λc hc=>by
 rcases lF hc with z|z|⟨w,hw',z⟩
 ·omega
 ·omega
 ·obtain⟨e,he,rfl⟩:=List.mem_map.mp hw';have:=uV (λp hp=>((hw e he).mono p hp).2.2.1) c z
  unfold okc at this;omega
def hdW(P L:Int):List (List Nat):=if P=0 then[[102,114,97,99,116,105,111,110,115],az L.natAbs] else[[114,101,115,116,115],az P.natAbs,az L.natAbs]
theorem tq(P L:Int):hdR P L=aT 32 (hdW P L):=by
 unfold hdR hdW
 split
 ·rfl
 ·show _=[114,101,115,116,115]++32::(az P.natAbs++32::az L.natAbs);rw[append_assoc]
  rfl
theorem Df{P L:Int}:∀w∈hdW P L,∀c∈w,c≠32/\c≠10/\c<128:=by
 have hf:∀n,∀c∈az n,c≠32/\c≠10/\c<128:=λn c hc=>by have:=cJ hc;omega
 have h1:∀c∈([102,114,97,99,116,105,111,110,115]:List Nat),c≠32/\c≠10/\c<128:=by decide
 have h2:∀c∈([114,101,115,116,115]:List Nat),c≠32/\c≠10/\c<128:=by decide
 intro w hw;unfold hdW at hw
 split at hw
 ·rcases List.mem_cons.mp hw with z|z
  ·rw[z];exact h1
  ·rw[List.mem_singleton.mp z];exact hf _
 ·rcases List.mem_cons.mp hw with z|z
  ·rw[z];exact h2
  ·rcases List.mem_cons.mp z with z|z
   ·rw[z];exact hf _
   ·rw[List.mem_singleton.mp z];exact hf _
theorem zJ{cs:List Int}:∀w∈([99,111,108,117,109,110,115]:List Nat)::cs.map cI,∀c∈w,c≠32/\c≠10/\c<128:=λw hw=>by
 rcases List.mem_cons.mp hw with z|z
 ·rw[z]
  decide
 ·obtain⟨c,_,rfl⟩:=List.mem_map.mp z;intro x hx;have:=DU x hx;omega
theorem uo{P L:Int}{cs:List Int}{rows:List (List (List aw))}(hw:∀row∈rows,∀e∈row,Gc P L e):∀w∈hdR P L::aZ cs::rows.map (shR P),∀c∈w,c≠10/\c<128:=λw hw' c hc=>by
 rcases List.mem_cons.mp hw' with z|z
 ·rw[z,tq] at hc
  rcases ki hc with z|⟨u,hu,z⟩
  ·omega
  ·exact(Df u hu c z).2
 ·rcases List.mem_cons.mp z with z|z
  ·rw[z] at hc
   rcases ki hc with z|⟨u,hu,z⟩
   ·omega
   ·exact(zJ u hu c z).2
  ·obtain⟨r,hr,rfl⟩:=List.mem_map.mp z;exact Fn (hw r hr) c hc
theorem tF(c:Nat):∀ls:List (List Nat),ls≠[]->spl c (aT c ls)=ls.flatMap (spl c)
 |[],h=>absurd rfl h
 |[w],_=>by simp[aT]
 |w::v::ws,_=>by
  show spl c (w++c::aT c (v::ws))=_;rw[vb,tF c (v::ws) (by simp)]
  rfl
theorem jw{c:Nat}:∀{ls:List (List Nat)},(∀w∈ls,c∉w)->ls.flatMap (spl c)=ls
 |[],_=>rfl
 |w::ws,h=>by
  rw[flatMap_cons,dm c w (h w mem_cons_self),jw λu hu=>h u (mem_cons_of_mem _ hu)]
  rfl
theorem CO{P L:Int}{cs:List Int}{rows:List (List (List aw))}(h:tw P L cs rows):spl 10 (shT P L cs rows)=hdR P L::aZ cs::rows.map (shR P):=f6 10 _ (by simp) λw hw z=>(uo (λr hr=>(h.2.2.2.2.2 r hr).1.1) w hw 10 z).1 rfl
theorem vE(c:Int):wI (cI c)=c:=by
 unfold wI cI
 by_cases h:c<0
 ·rw[if_pos h];show -((PySem.NumText.digitsVal (az c.natAbs):Nat):Int)=c;rw[db];omega
 ·rw[if_neg h,if_neg (λz=>dD (c:=45) (by decide) (mem_of_getElem? z)),db]
  omega
theorem gC(cs:List Int):spl 32 (aZ cs)=[99,111,108,117,109,110,115]::cs.map cI:=f6 32 _ (by simp) λw hw z=>(zJ w hw 32 z).1 rfl
theorem zM{cs cs':List Int}(h:aZ cs=aZ cs'):cs=cs':=by
 have e:=congrArg (spl 32) h;rw[gC,gC] at e;injection e with _ e
 have e:=congrArg (List.map wI) e;rw[map_map,map_map,show wI ∘ cI=id from funext vE,map_id,map_id] at e
 exact e
theorem iH(P L:Int):spl 32 (hdR P L)=hdW P L:=by
 rw[tq];exact f6 32 _ (by unfold hdW;split<;>simp) λw hw z=>(Df w hw 32 z).1 rfl
theorem B7{P L P' L':Int}(hP:F0 P)(hP':F0 P')(hL:1<=L)(hL':1<=L')(h:hdR P L=hdR P' L'):P=P'/\L=L':=by
 have e:=congrArg (spl 32) h;rw[iH,iH] at e;have hB:=hP.b;have hB':=hP'.b;have fi:∀{a b:Int},0<=a->0<=b->az a.natAbs=az b.natAbs->a=b:=λ{a b} ha hb z=>by
  have z:=congrArg PySem.NumText.digitsVal z;rw[db,db] at z;omega
 unfold hdW at e
 split at e
 ·rename_i h0
  split at e
  ·rename_i h1;injection e with _ e
   injection e with e _
   exact⟨h0.trans h1.symm,fi (by omega) (by omega) e⟩
  ·have:=congrArg List.length e;simp at this
 ·split at e
  ·have:=congrArg List.length e;simp at this
  ·injection e with _ e
   injection e with e1 e
   injection e with e2 _
   exact⟨fi (by omega) (by omega) e1,fi (by omega) (by omega) e2⟩
def ckH(l:List Nat):Bool:=match spl 32 l with
 |[a,b]=>decide (a=[102,114,97,99,116,105,111,110,115])&&[1,2,3,4].any λn=>decide (az n=b)
 |[a,b,c]=>decide (a=[114,101,115,116,115])&&(decide (az (PySem.NumText.digitsVal b)=b)&&(decide (2<=PySem.NumText.digitsVal b/\PySem.NumText.digitsVal b<=9973)&&(gP (PySem.NumText.digitsVal b:Nat)&&[1,2,3,4].any λn=>decide (az n=c))))
 |_=>false
theorem Bt{P L:Int}(hP:F0 P)(h1:1<=L)(h4:L<=4):ckH (hdR P L)=true:=by
 unfold ckH;rw[iH];have an:([1,2,3,4].any λn=>decide (az n=az L.natAbs))=true:=List.any_eq_true.mpr ⟨L.natAbs,by
  have:L.natAbs=1\/L.natAbs=2\/L.natAbs=3\/L.natAbs=4:=by omega
  rcases this with h|h|h|h<;>rw[h]<;>simp,decide_eq_true rfl⟩
 by_cases h0:P=0
 ·rw[show hdW P L=[[102,114,97,99,116,105,111,110,115],az L.natAbs] from if_pos h0]
  exact an
 ·rw[show hdW P L=[[114,101,115,116,115],az P.natAbs,az L.natAbs] from if_neg h0]
  rcases hP with z|⟨p1,p2,p3⟩
  ·exact absurd z h0
  ·show(decide _&&(decide (az (PySem.NumText.digitsVal (az P.natAbs))=az P.natAbs)&&(decide (2<=PySem.NumText.digitsVal (az P.natAbs)/\PySem.NumText.digitsVal (az P.natAbs)<=9973)&&(gP (PySem.NumText.digitsVal (az P.natAbs):Nat)&&_))))=true;rw[db,decide_eq_true rfl,decide_eq_true rfl,decide_eq_true (show 2<=P.natAbs/\P.natAbs<=9973 by omega),show((P.natAbs:Nat):Int)=P by omega,p3]
   rw[an]
   rfl
def ckC(l:List Nat):Bool:=match spl 32 l with
 |w::ws=>decide (w=[99,111,108,117,109,110,115])&&(decide (1<=ws.length/\ws.length<=3)&&ws.all λu=>decide (cI (wI u)=u))
 |[]=>false
theorem As{cs:List Int}(h1:1<=cs.length)(h3:cs.length<=3):ckC (aZ cs)=true:=by
 unfold ckC;rw[gC];show(decide _&&(decide _&&_))=true;rw[decide_eq_true rfl,decide_eq_true (show 1<=(cs.map cI).length/\(cs.map cI).length<=3 by rw[length_map];exact⟨h1,h3⟩),List.all_eq_true.mpr]
 ·rfl
 ·intro u hu;obtain⟨c,_,rfl⟩:=List.mem_map.mp hu;exact decide_eq_true (by rw[vE])
def rY(n:Nat):List (List Nat):=(((["fractions", "fractions 0", "fractions 5", "fractions -1", "fractions x"].map sg++[sg "fractions  " ++ az n]) ++
 [sg "Fractions " ++ az n,sg "rests 4 " ++ az n,sg "rests " ++ az n,sg "rests 1 " ++ az n,sg "rests 0 " ++ az n]) ++
 [sg "rests 9409 " ++ az n,sg "rests 10007 " ++ az n,sg "rests -3 " ++ az n,sg "rests 7 0",sg "rests 07 " ++ az n]) ++
 [sg "fractions " ++ az n++sg " ",sg " fractions " ++ az n,sg "fractions 0" ++ az n,sg "",sg "rests 7 5",sg "table"]
def okL(l:List Nat):Bool:=decide (l.length<=40)&&l.all λc=>decide (c<128)&&decide (c≠10)
theorem pC:([1,2,3,4].all λn=>(rY n).all λb=>!ckH b&&okL b)=true:=by decide +kernel
def j6:List (List Nat):=["columns", "columns ", "columns 1 2 3 4", "columns 01", "columns x", "column 0", "columns  0", "columns 0 "].map sg
def nJ:List (List Nat):=["columns -0", "columns 1,2", "Columns 0", "", "0", "columns 1.5", "columns +1", " columns 0"].map sg
def clB(l:List Nat):Bool:=match spl 32 l with
 |w::ws=>decide (w≠[99,111,108,117,109,110,115]) || ws.all λu=>!isF (sgl u) || decide ((sgl u).length<=2)
 |[]=>false
theorem oJ:((j6++nJ).all λb=>!ckC b&&(okL b&&clB b))=true:=by decide +kernel
theorem Em{l:List Nat}(h:clB l=true)(hl:l.length<=49):gG l:=by
 refine⟨hl,λws e w hw hf=>?_⟩
 unfold clB at h;rw[e] at h;have h:(decide (([99,111,108,117,109,110,115]:List Nat)≠[99,111,108,117,109,110,115]) || ws.all λu=>!isF (sgl u) || decide ((sgl u).length<=2))=true:=h
 rw[decide_eq_false (by simp),Bool.false_or] at h
 have:=List.all_eq_true.mp h w hw;rw[hf] at this;exact of_decide_eq_true this
theorem j4{l:List Nat}(h:okL l=true):l.length<=40/\∀c∈l,c<128/\c≠10:=by
 obtain⟨a,b⟩:=Bool.and_eq_true _ _▸h;refine⟨of_decide_eq_true a,λc hc=>?_⟩
 have:=List.all_eq_true.mp b c hc;exact⟨of_decide_eq_true (Bool.and_eq_true _ _▸this).1,of_decide_eq_true (Bool.and_eq_true _ _▸this).2⟩
def iS(l:List Nat):Prop:=(∀c∈l,c<128)/\l.length<=1000/\(spl 10 l).length<=7/\(∀a r,spl 10 l=a::r->a.length<=49/\∀b s,r=b::s->gG b/\((∃ws,spl 32 b=[99,111,108,117,109,110,115]::ws)->∀y∈s,fw y))/\∀P L cs rows,tw P L cs rows->shT P L cs rows≠l
theorem BE{ls fs:List (List Nat)}(h0:ls≠[])(hw:∀w∈ls,w.length<=41/\∀c∈w,c<128)(hl:ls.length<=7)(e:ls.flatMap (spl 10)=fs)(f7:fs.length<=7)(hf:∀a r,fs=a::r->a.length<=49/\∀b s,r=b::s->gG b/\((∃ws,spl 32 b=[99,111,108,117,109,110,115]::ws)->∀y∈s,fw y))(no:∀P L cs rows,tw P L cs rows->hdR P L::aZ cs::rows.map (shR P)≠fs):iS (aT 10 ls):=by
 have es:spl 10 (aT 10 ls)=fs:=(tF 10 ls h0).trans e;refine⟨λc hc=>?_,?_,by rw[es];exact f7,by rw[es];exact hf,λP L cs rows ht z=>no P L cs rows ht ?_⟩
 ·rcases ki hc with z|⟨w,h,z⟩
  ·omega
  ·exact(hw w h).2 c z
 ·have:=dj 10 (B:=41) ls λw h=>(hw w h).1
  have:ls.length*(41+1)<=7*42:=Nat.mul_le_mul_right _ hl;omega
 ·rw[<- CO ht,z,es]
theorem eG{P L:Int}(hP:F0 P)(h1:1<=L)(h4:L<=4):(hdR P L).length<=40/\∀c∈hdR P L,c<128/\c≠10:=by
 have hB:=hP.b;refine⟨?_,λc hc=>?_⟩
 ·have l1:(az L.natAbs).length<=1:=bh (by decide) (by omega)
  have l2:(az P.natAbs).length<=4:=bh (by decide) (by omega)
  unfold hdR
  split<;>simp<;>omega
 ·have:=uo (P:=P) (L:=L) (cs:=[]) (rows:=[]) (λ_ h=>nomatch h) (hdR P L) (by simp) c hc
  exact⟨this.2,this.1⟩
theorem uO{c:Int}(h:c.natAbs<100):(az c.natAbs).length<=2/\(cI c).length<=3:=by
 have:=bh (k:=2) (n:=c.natAbs) (by decide) (by omega)
 refine⟨this,?_⟩;unfold cI
 split
 ·rw[length_cons];omega
 ·omega
theorem fE{cs:List Int}(h:fY cs):(aZ cs).length<=40/\∀c∈aZ cs,c<128/\c≠10:=by
 refine⟨?_,λc hc=>?_⟩
 ·have:=dj 32 (B:=7) ([99,111,108,117,109,110,115]::cs.map cI) λw hw=>by
   rcases List.mem_cons.mp hw with z|z
   ·rw[z];decide
   ·obtain⟨c,hc,rfl⟩:=List.mem_map.mp z;have:=(uO (h.2.2 c hc)).2;omega
  rw[length_cons,length_map] at this;have:=h.2.1;unfold aZ;omega
 ·have:=uo (P:=0) (L:=0) (cs:=cs) (rows:=[]) (λ_ h=>nomatch h) (aZ cs) (by simp) c hc
  exact⟨this.2,this.1⟩
theorem ug{cs:List Int}(h:fY cs):gG (aZ cs):=by
 refine⟨by have:=(fE h).1;omega,λws e w hw _=>?_⟩
 rw[gC] at e;injection e with _ e
 rw[<- e] at hw;obtain⟨c,hc,rfl⟩:=List.mem_map.mp hw;have h2:=(uO (h.2.2 c hc)).1;unfold sgl cI
 by_cases hn:c<0
 ·rw[if_pos hn];exact h2
 ·rw[if_neg hn,if_neg (λz=>dD (c:=45) (by decide) (mem_of_getElem? z))]
  exact h2
theorem tj(P L:Int):∀ws,spl 32 (hdR P L)≠[99,111,108,117,109,110,115]::ws:=λws e=>by
 rw[iH] at e;unfold hdW at e
 split at e
 ·injection e with e _
  exact absurd e (by decide)
 ·injection e with e _
  exact absurd e (by decide)
theorem C6{P L:Int}(hP:F0 P)(h1:1<=L)(h4:L<=4):gG (hdR P L):=⟨by have:=(eG hP h1 h4).1;omega,λws e=>absurd e (tj P L ws)⟩
def bA(n:Nat):List Nat:=aN 44 32 (W1 n 0 [120])
theorem AW:([1,2,3].all λn=>okL (bA n)&&rq (bA n))=true:=by decide +kernel
theorem iD{n:Nat}(n1:1<=n)(n3:n<=3):((bA n).length<=40/\∀c∈bA n,c<128/\c≠10)/\fw (bA n):=by
 have:=List.all_eq_true.mp AW n (by
  have:n=1\/n=2\/n=3:=by omega
  rcases this with rfl|rfl|rfl<;>simp)
 obtain⟨a,b⟩:=Bool.and_eq_true _ _▸this;exact⟨j4 a,iu b⟩
def Ba(P L:Int)(cs:List Int)(y:List Nat):Prop:=∀row,(∀e∈row,Gc P L e)->row.map (shS P)=bZ 44 32 y->jI cs row=true->(b5 cs row).isSome=true->False
theorem EA{P L:Int}{cs:List Int}(hP:F0 P)(h1:1<=L)(hcs:fY cs){r:List (List Nat)}(h:∃y∈r,Ba P L cs y):∀P' L' cs' rows,tw P' L' cs' rows->hdR P' L'::aZ cs'::rows.map (shR P')≠hdR P L::aZ cs::r:=λP' L' cs' rows ht e=>by
 injection e with e1 e
 injection e with e2 e
 obtain⟨rfl,rfl⟩:=B7 ht.1 hP ht.2.1 h1 e1;have e2:=zM e2;subst e2;obtain⟨y,hy,no⟩:=h;rw[<- e] at hy;obtain⟨row,hr,ey⟩:=List.mem_map.mp hy;obtain⟨⟨hw,hB⟩,hl⟩:=ht.2.2.2.2.2 row hr;refine no row hw ?_ hB hl;rw[<- ey];refine(fZ (row.map (shS P')) (λz=>?_) λw hw' z=>?_).symm
 ·have l1:=jN hB;have l2:=hcs.1;rw[List.map_eq_nil_iff.mp z] at l1;have l1:0=cs'.length:=l1;omega
 ·obtain⟨e,he,rfl⟩:=List.mem_map.mp hw';have:=uV (λp hp=>((hw e he).mono p hp).2.2.1) 44 z
  unfold okc at this;omega
theorem rT{P L:Int}{cs:List Int}(hP:F0 P)(h1:1<=L)(h4:L<=4)(hcs:fY cs){a m:Nat}(ham:a<=m)(hm:m<=3){b:List Nat}(hb:b.length<=40/\∀c∈b,c<128)(sb:(spl 10 b).length<=2)(lb:∀y∈spl 10 b,fw y)(no:∃y∈spl 10 b,Ba P L cs y) :
  iS (aT 10 (hdR P L::aZ cs::((List.replicate a (bA cs.length)++[b])++List.replicate (m-a) (bA cs.length)))):=by
 obtain⟨hl,hc⟩:=eG hP h1 h4;obtain⟨cl,cc⟩:=fE hcs;obtain⟨⟨gl,gc⟩,gk⟩:=iD hcs.1 hcs.2.1;have rep:∀k,(List.replicate k (bA cs.length)).flatMap (spl 10)=List.replicate k (bA cs.length):=λk=>jw λw hw z=>by
  rw[eq_of_mem_replicate hw] at z;exact(gc _ z).2 rfl
 refine BE (fs:=hdR P L::aZ cs::((List.replicate a (bA cs.length)++spl 10 b)++List.replicate (m-a) (bA cs.length))) (by simp) (λw hw=>?_) ?_ ?_ ?_ (λx r e=>?_) (EA hP h1 hcs ?_)
 ·rcases List.mem_cons.mp hw with z|hw
  ·rw[z];exact⟨by omega,λc h=>(hc c h).1⟩
  ·rcases List.mem_cons.mp hw with z|hw
   ·rw[z];exact⟨by omega,λc h=>(cc c h).1⟩
   ·rcases List.mem_append.mp hw with hw|hw
    ·rcases List.mem_append.mp hw with hw|hw
     ·rw[eq_of_mem_replicate hw];exact⟨by omega,λc h=>(gc c h).1⟩
     ·rw[List.mem_singleton.mp hw];exact⟨by omega,hb.2⟩
    ·rw[eq_of_mem_replicate hw];exact⟨by omega,λc h=>(gc c h).1⟩
 ·simp;omega
 ·rw[flatMap_cons,flatMap_cons,dm 10 _ (λz=>(hc _ z).2 rfl),dm 10 _ (λz=>(cc _ z).2 rfl),flatMap_append,flatMap_append,rep,rep]
  simp
 ·simp;omega
 ·injection e with e1 e
  subst e1;refine⟨by omega,λy s e2=>?_⟩
  rw[e2] at e;injection e with e1 e
  subst e1;refine⟨ug hcs,λ_ y hy=>?_⟩
  rw[<- e] at hy
  rcases List.mem_append.mp hy with hy|hy
  ·rcases List.mem_append.mp hy with hy|hy
   ·rw[eq_of_mem_replicate hy];exact gk
   ·exact lb y hy
  ·rw[eq_of_mem_replicate hy];exact gk
 ·obtain⟨y,hy,ny⟩:=no;exact⟨y,by simp[hy],ny⟩
theorem rm{P L:Int}{cs:List Int}(hP:F0 P)(h1:1<=L)(h4:L<=4)(hcs:fY cs){a m:Nat}(ham:a<=m)(hm:m<=3){b:List Nat}(hb:oB P L cs b):iS (aT 10 (hdR P L::aZ cs::((List.replicate a (bA cs.length)++[b])++List.replicate (m-a) (bA cs.length)))):=by
 obtain⟨c1,c2,_,_,t1,t2,y,hy,ny⟩:=hb;exact rT hP h1 h4 hcs ham hm ⟨c2,c1⟩ t1 t2 ⟨y,hy,λrow hw e hB _=>ny row hw e hB⟩
theorem wx{P L:Int}{cs:List Int}(hP:F0 P)(h1:1<=L)(h4:L<=4)(hcs:fY cs){a m:Nat}(ham:a<=m)(hm:m<=3):iS (aT 10 (hdR P L::aZ cs::((List.replicate a (bA cs.length)++[[]])++List.replicate (m-a) (bA cs.length)))):=
 rm hP h1 h4 hcs ham hm (jF h1 h4 (by decide +kernel))
theorem xD{P L:Int}{cs:List Int}(hP:F0 P)(h1:1<=L)(h4:L<=4)(hcs:fY cs){a m:Nat}(ham:a<=m)(hm:m<=3):iS (aT 10 (hdR P L::aZ cs::((List.replicate a (bA cs.length)++[aN 44 32 (List.replicate cs.length [48])])++List.replicate (m-a) (bA cs.length)))):=by
 have hz:([1,2,3].all λn=>okL (aN 44 32 (List.replicate n [48]))&&rq (aN 44 32 (List.replicate n [48])))=true:=by decide +kernel
 have:=List.all_eq_true.mp hz cs.length (by
  have h1:=hcs.1;have h2:=hcs.2.1;have:cs.length=1\/cs.length=2\/cs.length=3:=by omega
  rcases this with h|h|h<;>rw[h]<;>simp)
 obtain⟨x,y⟩:=Bool.and_eq_true _ _▸this;obtain⟨x1,x2⟩:=j4 x;have e10:=dm 10 (aN 44 32 (List.replicate cs.length [48])) λz=>(x2 _ z).2 rfl
 refine rT hP h1 h4 hcs ham hm ⟨x1,λc hc=>(x2 c hc).1⟩ (by rw[e10];exact Nat.le_succ 1) (by rw[e10];intro y' hy;rw[List.mem_singleton.mp hy];exact iu y) ⟨_,by rw[e10];exact List.mem_singleton.mpr rfl,λrow hw e hB hl=>?_⟩
 rw[fZ _ (λz=>by have:=congrArg List.length z;rw[length_replicate] at this;have h1:=hcs.1;have this:cs.length=0:=this;omega) (λw h=>by rw[eq_of_mem_replicate h];decide)] at e
 have en:∀e∈row,e=[]:=λe' he=>by
  have m:shS P e'∈row.map (shS P):=List.mem_map.mpr ⟨e',he,rfl⟩;rw[e] at m;have:=yi h1 h4 C2 (hw e' he) (eq_of_mem_replicate m);exact List.map_eq_nil_iff.mp this
 rw[(tL (jN hB)).mpr en] at hl;exact Bool.false_ne_true hl
theorem jf{x y:List Nat}{n m:Nat}(n1:1<=n)(n3:n<=3)(hm:m<=3)(hx:x.length<=41/\∀c∈x,c<128/\c≠10)(hy:y.length<=40/\∀c∈y,c<128/\c≠10)(cy:gG y)(no:∀P L cs,F0 P->1<=L->L<=4->fY cs->hdR P L=x->aZ cs=y->False):iS (aT 10 (x::y::List.replicate m (bA n))):=by
 obtain⟨⟨gl,gc⟩,gk⟩:=iD n1 n3;refine BE (fs:=x::y::List.replicate m (bA n)) (by simp) (λw hw=>?_) (by simp;omega) (jw λw hw z=>?_) (by simp;omega) (λa r e=>?_) λP L cs rows ht e=>?_
 ·rcases List.mem_cons.mp hw with z|hw
  ·rw[z];exact⟨hx.1,λc h=>(hx.2 c h).1⟩
  ·rcases List.mem_cons.mp hw with z|hw
   ·rw[z];exact⟨by omega,λc h=>(hy.2 c h).1⟩
   ·rw[eq_of_mem_replicate hw];exact⟨by omega,λc h=>(gc c h).1⟩
 ·rcases List.mem_cons.mp hw with h|hw
  ·rw[h] at z;exact(hx.2 _ z).2 rfl
  ·rcases List.mem_cons.mp hw with h|hw
   ·rw[h] at z;exact(hy.2 _ z).2 rfl
   ·rw[eq_of_mem_replicate hw] at z;exact(gc _ z).2 rfl
 ·injection e with e1 e
  subst e1;refine⟨by omega,λb s e2=>?_⟩
  rw[e2] at e;injection e with e1 e
  subst e1;exact⟨cy,λ_ y hy=>by rw[<- e] at hy;rw[eq_of_mem_replicate hy];exact gk⟩
 ·injection e with e1 e
  injection e with e2 _
  exact no P L cs ht.1 ht.2.1 ht.2.2.1 ht.2.2.2.1 e1 e2
theorem wH{L:Int}{cs:List Int}(h1:1<=L)(h4:L<=4)(hcs:fY cs){m:Nat}(hm:m<=3){b:List Nat}(hb:b∈rY L.toNat):iS (aT 10 (b::aZ cs::List.replicate m (bA cs.length))):=by
 have:=List.all_eq_true.mp (kN pC (n:=L.toNat) (by omega) (by omega)) b hb
 obtain⟨a,c⟩:=Bool.and_eq_true _ _▸this;obtain⟨k1,k2⟩:=j4 c;refine jf hcs.1 hcs.2.1 hm ⟨by omega,k2⟩ (fE hcs) (ug hcs) λP L cs hP p1 p4 _ e _=>?_
 rw[<- e,Bt hP p1 p4] at a;exact absurd a (by decide)
theorem xU{P L:Int}{cs:List Int}(hP:F0 P)(h1:1<=L)(h4:L<=4)(hcs:fY cs){m:Nat}(hm:m<=3){b:List Nat}(hb:b∈j6++nJ):iS (aT 10 (hdR P L::b::List.replicate m (bA cs.length))):=by
 have:=List.all_eq_true.mp oJ b hb;obtain⟨a,c⟩:=Bool.and_eq_true _ _▸this;obtain⟨c,d⟩:=Bool.and_eq_true _ _▸c;obtain⟨k1,k2⟩:=j4 c;obtain⟨hl,hc⟩:=eG hP h1 h4;refine jf hcs.1 hcs.2.1 hm ⟨by omega,hc⟩ ⟨k1,k2⟩ (Em d (by omega)) λP L cs hP p1 p4 hc _ e=>?_
 rw[<- e,As hc.1 hc.2.1] at a;exact absurd a (by decide)
theorem mQ(P L:Int):(hdR P L)[0]? = some 102\/(hdR P L)[0]? = some 114:=by
 unfold hdR
 split
 ·exact .inl rfl
 ·exact .inr rfl
theorem wK{P L:Int}{cs:List Int}(hP:F0 P)(h1:1<=L)(h4:L<=4)(hcs:fY cs){m:Nat}(hm:m<=3):iS (aT 10 (aZ cs::hdR P L::List.replicate m (bA cs.length))):=by
 obtain⟨k1,k2⟩:=fE hcs;refine jf hcs.1 hcs.2.1 hm ⟨by omega,k2⟩ (eG hP h1 h4) (C6 hP h1 h4) λP' L' cs' _ _ _ _ e _=>?_
 have f:=mQ P' L';rw[e,show(aZ cs)[0]? = some 99 from jp 32 (by simp)] at f
 rcases f with z|z<;>cases z
theorem uC{P L:Int}{cs:List Int}(hP:F0 P)(h1:1<=L)(h4:L<=4)(hcs:fY cs){m:Nat}(hm:m<=3):iS (aT 10 ((32::hdR P L)::aZ cs::List.replicate m (bA cs.length))):=by
 obtain⟨k1,k2⟩:=eG hP h1 h4;refine jf hcs.1 hcs.2.1 hm ⟨by rw[length_cons];omega,λc hc=>?_⟩ (fE hcs) (ug hcs) λP' L' cs' _ _ _ _ e _=>?_
 ·rcases List.mem_cons.mp hc with z|z
  ·omega
  ·exact k2 c z
 ·have f:=mQ P' L';rw[e] at f
  rcases f with z|z<;>cases z
theorem AZ{P L:Int}(hP:F0 P)(h1:1<=L)(h4:L<=4):iS (hdR P L):=by
 obtain⟨k1,k2⟩:=eG hP h1 h4;refine BE (ls:=[hdR P L]) (fs:=[hdR P L]) (by simp) (λw hw=>?_) (by simp) (jw λw hw z=>?_) (by simp) (λa r e=>?_) λP L cs rows ht e=>?_
 ·rw[List.mem_singleton.mp hw];exact⟨by omega,λc h=>(k2 c h).1⟩
 ·rw[List.mem_singleton.mp hw] at z;exact(k2 _ z).2 rfl
 ·injection e with e1 e
  subst e1;exact⟨by omega,λb s e2=>by rw[e2] at e;cases e⟩
 ·injection e with _ e
  cases e
theorem tZ{P L:Int}{cs:List Int}(hP:F0 P)(h1:1<=L)(h4:L<=4)(hcs:fY cs){m:Nat}(hm:m<=3):iS (aT 10 ([]::hdR P L::aZ cs::List.replicate m (bA cs.length))):=by
 obtain⟨hl,hc⟩:=eG hP h1 h4;obtain⟨cl,cc⟩:=fE hcs;obtain⟨⟨gl,gc⟩,gk⟩:=iD hcs.1 hcs.2.1;have all:∀w∈[]::hdR P L::aZ cs::List.replicate m (bA cs.length),w.length<=41/\∀c∈w,c<128/\c≠10:=λw hw=>by
  rcases List.mem_cons.mp hw with z|hw
  ·rw[z];exact⟨by decide,λc h=>nomatch h⟩
  ·rcases List.mem_cons.mp hw with z|hw
   ·rw[z];exact⟨by omega,hc⟩
   ·rcases List.mem_cons.mp hw with z|hw
    ·rw[z];exact⟨by omega,cc⟩
    ·rw[eq_of_mem_replicate hw];exact⟨by omega,gc⟩
 refine BE (by simp) (λw hw=>⟨(all w hw).1,λc h=>((all w hw).2 c h).1⟩) (by simp;omega) (jw λw hw z=>((all w hw).2 _ z).2 rfl) (by simp;omega) (λa r e=>?_) λP L cs rows ht e=>?_
 ·injection e with e1 e
  subst e1;refine⟨by decide,λb s e2=>?_⟩
  rw[e2] at e;injection e with e1 e
  subst e1;exact⟨C6 hP h1 h4,λ⟨ws,z⟩=>absurd z (tj P L ws)⟩
 ·injection e with e _
  have f:=mQ P L;rw[e] at f
  rcases f with z|z<;>cases z
def Cj:=qE▸@Ea
def vk:Sp:=λvs H Q _=>vs=[]/\∀(d:Addr) (H':Hp),H d=none->FX H H'->H' d=some (.lst (tv (j6++nJ)))->Q (.ref d) H'
def v7:Sp:=λvs H Q _=>∃L:Int,vs=[.int L]/\1<=L/\L<=4/\∀(d:Addr) (H':Hp),H d=none->FX H H'->H' d=some (.lst (tv (rY L.toNat)))->Q (.ref d) H'
theorem fP(s:String)(f:List Nat):Str.ofString s++tx f=tx (sg s++f):=bq (sg s) f
theorem Et(l:List Nat)(s:String):tx l++Str.ofString s=tx (l++sg s):=bq l (sg s)
theorem GE:FZ ["_law_some"] [] (ah cY):=.i
theorem yq{f:Addr}{fd:FuncData}(F:Fun K "_law_other_columns" "_law_other_columns" cY f fd):F2 P w K mg base CX0 1 f fd [] vk:=by
 refine F.o GE λ_ _ _ _ H _ Q _ hr h=>?_
 ·obtain⟨rfl,q⟩:=h;refine exQ ⟨_,(am (aP (i:=0) GE.nd rfl (Or.inl rfl) (aO (eN (.cons (.cons (.cons (.cons (.cons (.cons (.cons (.cons .nil)))))))))))
(aU (bP (aJ bj (qpv 0) (aO (eN (.cons (.cons (.cons (.cons (.cons (.cons (.cons (.cons .nil)))))))))))))),?_⟩
  refine⟨zl,λl1 n1=>?_⟩
  generalize e1:upd H l1 _=H1;have s1:FX H H1:=e1▸FX.new n1;have h1:H1 l1=some (.lst (tv j6)):=by rw[<- e1];exact FY
  refine⟨_,rfl,zl,λa na=>⟨l1,a,_,_,rfl,rfl,(FX.new na) _ _ h1,FY,by decide +kernel,λb nb=>?_⟩⟩
  exact q b _ (s1.free ((FX.new na).free nb)) (s1.trans ((FX.new na).trans (FX.new nb))) (FY.trans rfl)
theorem Gr:FZ ["_law_letters", "_law_many", "_law_some"] ["_law_letters"] (ah gz):=.i
theorem yf{f:Addr}{fd:FuncData}(F:Fun K "_law_heads" "_law_heads" gz f fd)(nstr:mg "str" = none):F2 P w K mg base CX0 1 f fd ["_law_letters"] v7:=by
 refine F.o Gr λ_ _ _ _ H _ Q _ hr h=>?_
 ·obtain⟨L,rfl,h1,h4,q⟩:=h;have lg:L.natAbs.log2<1920:=dv (Nat.lt_of_le_of_lt (show L.natAbs<=4 by omega) (by decide +kernel))
  refine exQ ⟨_,(am (aP (i:=1) Gr.nd rfl (Or.inl rfl) (cW aX (by rfl) nstr bO (ac (qpv 0) ak)))
(am (aP (i:=2) Gr.nd rfl (Or.inl rfl) (aO (ac aq (ac aq (ac aq (ac aq (ac aq (ac (by exact(aJ aE aq (qpv 1))) ak))))))))
(am (aP (i:=2) Gr.nd rfl (Or.inl rfl) (aJ bj (qpv 2) (aO (ac (by exact(aJ aE aq (qpv 1))) (ac (by exact(aJ aE aq (qpv 1))) (ac (by exact(aJ aE aq (qpv 1))) (ac (by exact(aJ aE aq (qpv 1))) (ac (by exact(aJ aE aq (qpv 1))) ak))))))))
(am (aP (i:=2) Gr.nd rfl (Or.inl rfl) (aJ bj (qpv 2) (aO (ac (by exact(aJ aE aq (qpv 1))) (ac (by exact(aJ aE aq (qpv 1))) (ac (by exact(aJ aE aq (qpv 1))) (ac aq (ac (by exact(aJ aE aq (qpv 1))) ak))))))))
(aU (bP (aJ bj (qpv 2) (aO (ac (by exact(aJ aE (aJ aE aq (qpv 1)) aq)) (ac (by exact(aJ aE aq (qpv 1))) (ac (by exact(aJ aE aq (qpv 1))) (ac aq (ac aq (ac aq ak)))))))))))))),?_⟩
  refine⟨_,rfl,_,rfl,lg,?_⟩;rw[cR (by omega)]
  have en:L.toNat=L.natAbs:=by omega
  rw[en] at q;have lf:(az L.natAbs).length<=1:=bh (by decide) (by omega)
  generalize L.natAbs=n at *;have bn:∀s:Str,s.length<=20->s.length+(tx (az n)).length<=sizeLine:=λs hs=>by rw[aK,sizeLine_eq];omega
  refine⟨_,rfl,_,_,rfl,rfl,bn _ (by decide +kernel),zl,λl1 n1=>?_⟩
  rw[fP];generalize e1:upd H l1 _=H1;have s1:FX H H1:=e1▸FX.new n1;have h1:H1 l1=some (.lst (tv (["fractions", "fractions 0", "fractions 5", "fractions -1", "fractions x"].map sg++[sg "fractions  " ++ az n]))):=by rw[<- e1];exact FY
  clear e1;refine⟨_,rfl,_,rfl,_,_,rfl,rfl,bn _ (by decide +kernel),_,rfl,_,_,rfl,rfl,bn _ (by decide +kernel),_,rfl,_,_,rfl,rfl,bn _ (by decide +kernel),_,rfl,_,_,rfl,rfl,bn _ (by decide +kernel),_,rfl,_,_,rfl,rfl,bn _ (by decide +kernel),zl,λa2 m2=>?_⟩
  rw[fP,fP,fP,fP,fP];generalize e2:upd H1 a2 _=H2;have s2:FX H1 H2:=e2▸FX.new m2;have h2:H2 a2=some (.lst (tv [sg "Fractions " ++ az n,sg "rests 4 " ++ az n,sg "rests " ++ az n,sg "rests 1 " ++ az n,sg "rests 0 " ++ az n])):=by rw[<- e2];exact FY
  clear e2;refine⟨l1,a2,_,_,rfl,rfl,s2 _ _ h1,h2,zl,λl3 n3=>?_⟩
  generalize e3:upd H2 l3 _=H3;have s3:FX H2 H3:=e3▸FX.new n3;have h3:=(show H3 l3=_ from by rw[<- e3,FY,dA])
  clear e3;refine⟨_,rfl,_,rfl,_,_,rfl,rfl,bn _ (by decide +kernel),_,rfl,_,_,rfl,rfl,bn _ (by decide +kernel),_,rfl,_,_,rfl,rfl,bn _ (by decide +kernel),_,rfl,_,_,rfl,rfl,bn _ (by decide +kernel),zl,λa4 m4=>?_⟩
  rw[fP,fP,fP,fP];generalize e4:upd H3 a4 _=H4;have s4:FX H3 H4:=e4▸FX.new m4;have h4:H4 a4=some (.lst (tv [sg "rests 9409 " ++ az n,sg "rests 10007 " ++ az n,sg "rests -3 " ++ az n,sg "rests 7 0",sg "rests 07 " ++ az n])):=by rw[<- e4];exact FY
  clear e4;refine⟨l3,a4,_,_,rfl,rfl,s4 _ _ h3,h4,zl,λl5 n5=>?_⟩
  generalize e5:upd H4 l5 _=H5;have s5:FX H4 H5:=e5▸FX.new n5;have h5:=(show H5 l5=_ from by rw[<- e5,FY,dA])
  clear e5;refine⟨_,rfl,_,rfl,_,_,rfl,rfl,bn _ (by decide +kernel),_,_,rfl,rfl,?_,_,rfl,_,_,rfl,rfl,bn _ (by decide +kernel),_,rfl,_,_,rfl,rfl,bn _ (by decide +kernel),zl,λa6 m6=>?_⟩
  ·rw[fP,aK,length_append,sizeLine_eq];show 10+_+1<=_;omega
  rw[fP,Et,fP,fP];generalize e6:upd H5 a6 _=H6;have s6:FX H5 H6:=e6▸FX.new m6;have h6:H6 a6=some (.lst (tv [sg "fractions " ++ az n++sg " ",sg " fractions " ++ az n,sg "fractions 0" ++ az n,sg "",sg "rests 7 5",sg "table"])):=by rw[<- e6];exact FY
  clear e6;refine⟨l5,a6,_,_,rfl,rfl,s6 _ _ h5,h6,zl,λl7 n7=>?_⟩
  have sa:=s1.trans (s2.trans (s3.trans (s4.trans (s5.trans s6))));refine q l7 _ (sa.free n7) (sa.trans (FX.new n7)) (FY.trans ?_);rw[dA]
  rfl
theorem Ft:(["_law_k", "_law_good"]:List Str).Nodup:=by decide +kernel
def zm:Sp:=λvs H Q _=>∃(L P:Int) (c p:Addr) (cs:List Int) (a b:Int) (k:Nat),vs=[.int L,.int P,.ref c,.ref p]/\1<=L/\L<=4/\F0 P/\H c=some (.lst (cs.map V.int))/\fY cs/\c≠p/\H p=some (.lst [.int a,.int b])/\Gm a b k/\k<=800/\
 ∀(l:List Nat) (a' b':Int) (H':Hp),iS l->H' p=some (.lst [.int a',.int b'])->Gm a' b' (k+10)->(∀d o,H d=some o->d≠p->H' d=some o)->Q (.str (tx l)) H'
theorem Bb(xs:List V)(i:Nat):jH xs none (some (i:Int))=xs.take i:=by
 unfold jH;simp[HT.sIx];rw[if_neg (by omega)]
 omega
theorem gf(xs:List V)(i:Nat):jH xs (some (i:Int)) none=xs.drop i:=by
 unfold jH;simp[HT.sIx];rw[if_neg (by omega),take_of_length_le (by rw[length_drop];omega)]
 by_cases h:i<=xs.length
 ·rw[Nat.min_eq_left h]
 ·rw[Nat.min_eq_right (by omega),drop_of_length_le (Nat.le_refl _),drop_of_length_le (by omega)]
def Fi:=qE▸qA▸@bmA
theorem BY(ws:List (List Nat))(j:Nat):(tv ws).take j=tv (ws.take j):=List.map_take.symm
theorem lv(ws:List (List Nat))(j:Nat):(tv ws).drop j=tv (ws.drop j):=List.map_drop.symm
theorem ut{K:Frag}{te:TE}{σ:L2.St}{H:Hp}{ln:Addr}{ls:List (List Nat)}{j:Nat}{R:VK}(h4:σ[4]? = some (some (.ref ln)))(h7:σ[7]? = some (some (.int (j:Int))))(hl:H ln=some (.lst (tv ls)))(hn:ls.length<=100)
  (hx:∀l6 H1,H l6=none->FX H H1->H1 l6=some (.lst (tv (ls.take j)))->∀Z:VK,(∀b H2,H2 l6=some (.lst (tv (ls.take j)))->H2 ln=some (.lst (tv ls))->(∀d H3,FX H2 H3->H3 d=some (.lst (tv (ls.take j++[b]++ls.drop j)))->R (.ref d) H3)->Z (.str (tx b)) H2)->te σ H1 Z) :
  tOp Cd (tOp Cd (tSl (Cq K) (uE 4) qz (yL (uE 7))) (Ei (dO te fT))) (tSl (Cq K) (uE 4) (yL (uE 7)) qz) σ H R:=by
 refine⟨_,h4,_,h7,_,rfl,ln,_,rfl,SqL.of hl,λl6 n6=>?_⟩
 rw[Bb,BY];refine hx l6 _ n6 (FX.new n6) FY _ λb H2 h6 hln k=>⟨zl,λl7 n7=>?_⟩
 generalize e0:upd H2 l7 _=H7;obtain⟨s7,e7⟩:=un e0 n7;have e7:H7 l7=some (.lst (tv [b])):=e7;clear e0;have lt:(ls.take j).length<=100:=Nat.le_trans (List.length_take_le' ..) hn;have ld:(ls.drop j).length<=100:=by rw[length_drop];omega
 refine⟨l6,l7,_,_,rfl,rfl,s7 _ _ h6,e7,by rw[aS,aS,sizeLine_eq];show _+1<=_;omega,λl8 n8=>?_⟩
 rw[dA];generalize e0:upd H7 l8 _=H8;obtain⟨s8,e8⟩:=un e0 n8;clear e0;refine⟨_,h4,_,h7,_,rfl,ln,_,rfl,SqL.of (s8 _ _ (s7 _ _ hln)),λl9 n9=>?_⟩
 rw[gf,lv];refine⟨l8,l9,_,_,rfl,rfl,(FX.new n9) _ _ e8,FY,by rw[aS,aS,length_append,sizeLine_eq];show _+1+_<=_;omega,λl10 n10=>?_⟩
 exact k l10 _ (s7.trans (s8.trans ((FX.new n9).trans (FX.new n10)))) (by rw[FY,dA])
theorem qU{x y g b:List Nat}{a m:Nat}(h:a<=m):(x::y::List.replicate m g).take (2+a)++[b]++(x::y::List.replicate m g).drop (2+a)=x::y::((List.replicate a g++[b])++List.replicate (m-a) g):=by
 rw[Nat.add_comm 2 a];simp[List.take_replicate,List.drop_replicate,Nat.min_eq_left h]
theorem iV(ws:List (List Nat)):Txt.join (Str.ofString "\n") (ws.map tx)=tx (aT 10 ws):=fo 10 ws
theorem Ga:FZ ["_law_letters", "_law_prime_here", "_law_columns", "_law_bag_here", "_law_lines", "_law_good", "_law_way", "_law_at", "_law_heads_here"] ["_law_letters", "_law_prime_here", "_law_columns", "_law_bag_here"] (ah dW):=.i
set_option maxHeartbeats 1000000 in
theorem zV{f:Addr}{fd:FuncData}(F:Fun K "_law_bad_table" "_law_bad_table" dW f fd)(T:Blt mg)(nstr:mg "str" = none)(Ho:FnB P w K mg base 1 "_law_take" mL)(KB:FnB P w K mg base 1 "_law_heads" v7)(Iw:FnB P w K mg base 1 "_law_other_columns" vk)(HR:FnB P w K mg base 2 "_law_bad_row" uw):F2 P w K mg base CX0 3 f fd ["_law_letters", "_law_prime_here", "_law_columns", "_law_bag_here"] zm:=by
 refine F.o Ga λ_ _ _ _ H _ Q _ hr h=>?_
 ·obtain⟨L,P,c,p,cs,a,b,k,rfl,hL1,hL4,hP,hc,hcs,cp,hp,hb,hk,q⟩:=h;refine exQ ⟨_,(am (aP (i:=4) Ga.nd rfl (Or.inl rfl) (aO (ac (by exact(aJ aE (bX (ay K rfl) (aO (ac (by exact(aJ aE (aJ aE aq (cW aX (by rfl) nstr bO (ac (qpv 1) ak))) aq)) (ac aq ak))) (cW pN (by rfl) T.int fm (ac (hW ba (qpv 1) aC (ao _)) ak)) (λ_ _=>rfl)) (cW aX (by rfl) nstr bO (ac (qpv 0) ak)))) ak)))
(am (lZ (Fi K rfl (qpv 4) (ac (by exact(aJ aE aq (cQ PySem.F.plainAttrs_str PySem.F.slot_str_join PySem.F.type_str_join bo aq (ac (by exact f8 (N:=["_law_column"]) (src:=[none]) rfl rfl rfl (by exact(ft K rfl (qpv 2))) (λ_ _ _=>by exact⟨by exact(cv (i:=0) rf rfl rfl),bi,by exact(cW aX (by rfl) nstr bO (ac (qpv 0) ak))⟩)) ak)))) ak)))
(am (aP (i:=5) Ga.nd rfl (Or.inr rfl) (cQ PySem.F.plainAttrs_str PySem.F.slot_str_join PySem.F.type_str_join bo aq (ac (by exact(aJ bj (aO (ac aq ak)) (by exact f8 (N:=["_law_column"]) (src:=[none]) rfl rfl rfl (by exact(ft K rfl (cw (bu K rfl) (qpv 2) (cV aC) bE))) (λ_ _ _=>by exact⟨by exact(cv (i:=0) rf rfl rfl),bi,by exact aq⟩)))) ak)))
(am (aP (i:=4) Ga.nd rfl (Or.inl rfl) (aJ bj (qpv 4) (by exact f8 (N:=["_law_k", "_law_good"]) (src:=[none,some 5]) rfl rfl rfl (by exact(gE rfl T.range (ac (by exact(br Ho hr.m (ac (qpv 3) (ac aC ak)))) ak))) (λ_ _ _=>by exact⟨by exact(cv (i:=0) Ft rfl rfl),bi,by exact(qpv 1)⟩))))
(am (aP (i:=6) Ga.nd rfl (Or.inl rfl) (br Ho hr.m (ac (qpv 3) (ac aC ak))))
(am (aP (i:=7) Ga.nd rfl (Or.inl rfl) (aJ cN aC (br Ho hr.m (ac (qpv 3) (ac (by exact(aJ kq (eJ K T (qpv 4)) aC)) ak)))))
(am (cT (bB ba (qpv 6) aC (ao _))
(aU (bP (cQ PySem.F.plainAttrs_str PySem.F.slot_str_join PySem.F.type_str_join bo aq (ac (by exact(aJ bj (aJ bj (cw (bu K rfl) (qpv 4) bE (cV (qpv 7))) (aO (ac (by exact(cQ PySem.F.plainAttrs_str PySem.F.slot_str_join PySem.F.type_str_join bo aq (ac (by exact f8 (N:=["_law_column"]) (src:=[none]) rfl rfl rfl (by exact(ft K rfl (qpv 2))) (λ_ _ _=>by exact⟨by exact(cv (i:=0) rf rfl rfl),bi,by exact aq⟩)) ak))) ak))) (cw (bu K rfl) (qpv 4) (cV (qpv 7)) bE))) ak))))
bJ)
(am (cT (bB ba (qpv 6) aC (ao _))
(aU (bP (cQ PySem.F.plainAttrs_str PySem.F.slot_str_join PySem.F.type_str_join bo aq (ac (by exact(aJ bj (aJ bj (cw (bu K rfl) (qpv 4) bE (cV (qpv 7))) (aO (ac aq ak))) (cw (bu K rfl) (qpv 4) (cV (qpv 7)) bE))) ak))))
bJ)
(am (cT (bB ba (qpv 6) aC (ao _))
(aU (bP (bX (ay K rfl) (qpv 4) aC (λ_ _=>rfl))))
bJ)
(am (cT (bB ba (qpv 6) aC (ao _))
(aU (bP (cQ PySem.F.plainAttrs_str PySem.F.slot_str_join PySem.F.type_str_join bo aq (ac (by exact(aJ bj (aO (ac (bX (ay K rfl) (qpv 4) aC (λ_ _=>rfl)) (ac (bX (ay K rfl) (qpv 4) aC (λ_ _=>rfl)) ak))) (cw (bu K rfl) (qpv 4) (cV aC) bE))) ak))))
bJ)
(am (cT (bB ba (qpv 6) aC (ao _))
(am (aP (i:=8) Ga.nd rfl (Or.inl rfl) (br KB hr.m (ac (qpv 0) ak)))
(aU (bP (cQ PySem.F.plainAttrs_str PySem.F.slot_str_join PySem.F.type_str_join bo aq (ac (by exact(aJ bj (aO (ac (bX (ay K rfl) (qpv 8) (br Ho hr.m (ac (qpv 3) (ac (by exact(eJ K T (qpv 8))) ak))) (λ_ _=>rfl)) ak)) (cw (bu K rfl) (qpv 4) (cV aC) bE))) ak)))))
bJ)
(am (cT (bB ba (qpv 6) aC (ao _))
(am (aP (i:=8) Ga.nd rfl (Or.inl rfl) (Cj Iw hr.m))
(aU (bP (cQ PySem.F.plainAttrs_str PySem.F.slot_str_join PySem.F.type_str_join bo aq (ac (by exact(aJ bj (aO (ac (bX (ay K rfl) (qpv 4) aC (λ_ _=>rfl)) (ac (bX (ay K rfl) (qpv 8) (br Ho hr.m (ac (qpv 3) (ac (by exact(eJ K T (qpv 8))) ak))) (λ_ _=>rfl)) ak))) (cw (bu K rfl) (qpv 4) (cV aC) bE))) ak)))))
bJ)
(am (cT (bB ba (qpv 6) aC (ao _))
(aU (bP (aJ aE (bX (ay K rfl) (aO (ac aq (ac aq ak))) (br Ho hr.m (ac (qpv 3) (ac aC ak))) (λ_ _=>rfl)) (cQ PySem.F.plainAttrs_str PySem.F.slot_str_join PySem.F.type_str_join bo aq (ac (qpv 4) ak)))))
bJ)
(aU (bP (cQ PySem.F.plainAttrs_str PySem.F.slot_str_join PySem.F.type_str_join bo aq (ac (by exact(aJ bj (aJ bj (cw (bu K rfl) (qpv 4) bE (cV (qpv 7))) (aO (ac (by exact(br HR hr.m (ac (qpv 0) (ac (qpv 1) (ac (qpv 2) (ac (qpv 3) ak)))))) ak))) (cw (bu K rfl) (qpv 4) (cV (qpv 7)) bE))) ak))))))))))))))))),?_⟩
  have hB:=hP.b;have n1:=hcs.1;have n3:=hcs.2.1;have lc:(cs.map V.int).length=cs.length:=length_map _;have lgL:L.natAbs.log2<1920:=dv (Nat.lt_of_le_of_lt (show L.natAbs<=4 by omega) (by decide +kernel))
  have lgP:P.natAbs.log2<1920:=dv (Nat.lt_of_le_of_lt (show P.natAbs<=9973 by omega) (by decide +kernel))
  have l1:(az L.natAbs).length<=20:=bh (by decide) (Nat.lt_of_le_of_lt (show L.natAbs<=4 by omega) (by decide +kernel))
  have l2:(az P.natAbs).length<=20:=bh (by decide) (Nat.lt_of_le_of_lt (show P.natAbs<=9973 by omega) (by decide +kernel))
  refine sq6 λR0 hR0=>?_
  refine⟨_,rfl,_,rfl,lgP,?_⟩;have e1:Str.ofString "rests " ++ Str.ofString (toString P)=tx ([114,101,115,116,115,32]++az P.natAbs):=by rw[cR (show 0<=P by omega)];exact bq [114,101,115,116,115,32] _
  have e2:tx ([114,101,115,116,115,32]++az P.natAbs)++Str.ofString " " = tx ([114,101,115,116,115,32]++az P.natAbs++[32]):=bq _ [32];refine⟨_,_,rfl,rfl,?_,?_⟩
  ·rw[cR (show 0<=P by omega),aK,sizeLine_eq]
   show 6+_<=_;omega
  rw[e1];refine⟨_,_,rfl,rfl,?_,?_⟩
  ·rw[aK,length_append,sizeLine_eq];show 6+_+1<=_;omega
  rw[e2];refine⟨zl,λl0 n0=>?_⟩
  generalize e0:upd H l0 _=H0;obtain⟨s0,h0⟩:=un e0 n0;clear e0;have mv:atI [V.str (tx ([114,101,115,116,115,32]++az P.natAbs++[32])),V.str (Str.ofString "fractions ")] (if (decide (V.int P=V.int 0))=true then 1 else 0)=some (V.str (tx (if P=0 then[102,114,97,99,116,105,111,110,115,32] else[114,101,115,116,115,32]++az P.natAbs++[32]))):=by
   by_cases hp:P=0
   ·rw[decide_eq_true (congrArg V.int hp),if_pos rfl,if_pos hp];exact aB (j:=1) rfl
   ·rw[decide_eq_false (show ¬V.int P=V.int 0 from λz=>hp (by injection z)),if_neg (by decide),if_neg hp]
    exact aB (j:=0) rfl
  have ehd:tx (if P=0 then[102,114,97,99,116,105,111,110,115,32] else[114,101,115,116,115,32]++az P.natAbs++[32])++tx (az L.natAbs)=tx (hdR P L):=by
   rw[bq];unfold hdR
   split
   ·rfl
   ·rw[append_assoc]
    rfl
  have lhd:(if P=0 then[102,114,97,99,116,105,111,110,115,32] else[114,101,115,116,115,32]++az P.natAbs++[32]:List Nat).length<=40:=by
   split
   ·decide
   ·rw[length_append,length_append];show 6+_+1<=_;omega
  refine⟨_,rfl,rfl,.inr ⟨_,rfl,l0,_,_,_,rfl,rfl,SqL.of h0,mv,?_⟩⟩;refine⟨_,rfl,_,rfl,lgL,?_⟩;rw[cR (show 0<=L by omega)]
  refine⟨_,_,rfl,rfl,by rw[aK,aK,sizeLine_eq];omega,?_⟩
  rw[ehd];refine⟨zl,λln nln=>?_⟩
  have s1:=s0.trans (FX.new (o:=.lst [V.str (tx (hdR P L))]) nln);have h1:(upd H0 ln (.lst [V.str (tx (hdR P L))])) ln=some (.lst [V.str (tx (hdR P L))]):=FY;have nln:H ln=none:=s0.free nln;generalize upd H0 ln (.lst [V.str (tx (hdR P L))])=H1 at *;refine⟨_,rfl,.inl ⟨rfl,_,SqL.of h1⟩,rfl,_,rfl,c,rfl,⟨_,SqL.of (s1 _ _ hc)⟩,bU (rest:=[]) rfl (λi=>.str (tx (cI (cs.getD i 0)))) (s1 _ _ hc) (by omega) (λi v H2 R hv s2 hR=>?_) λacc H2 nacc s2 hacc=>?_⟩
  ·obtain⟨z,ez,rfl⟩:=iI hv;rw[fg ez] at hR;refine⟨_,rfl,_,rfl,dv (Nat.lt_trans (hcs.2.2 z (mem_of_getElem? ez)) (by decide +kernel)),?_⟩
   rw[nG];exact hR H2 (FX.refl _)
  rw[lc,ff cs 0 λc=>V.str (tx (cI c))] at hacc
  have hacc:H2 acc=some (.lst (tv (cs.map cI))):=by
   rw[hacc];unfold tv;rw[map_map]
   rfl
  have sB:∀w∈cs.map cI,w.length<=40:=λw hw'=>by
   obtain⟨c,hc',rfl⟩:=List.mem_map.mp hw';have:=(uO (hcs.2.2 c hc')).2;omega
  refine⟨_,acc,_,rfl,rfl,hv hacc,eM (by decide +kernel) sB (by rw[length_map];omega),?_⟩
  have ej:Txt.join (Str.ofString " ") ((cs.map cI).map tx)=tx (aT 32 (cs.map cI)):=fo 32 _;have ecol:Str.ofString "columns " ++ tx (aT 32 (cs.map cI))=tx (aZ cs):=by
   show tx [99,111,108,117,109,110,115,32]++_=_;rw[bq];unfold aZ;rw[iE 32 _ (λz=>by rw[List.map_eq_nil_iff.mp z] at n1;exact absurd n1 (by decide))]
   rfl
  have lcol:=(fE hcs).1;rw[ej];refine⟨_,_,rfl,rfl,?_,?_⟩
  ·have:=dj 32 (B:=40) (cs.map cI) sB;rw[length_map] at this;have h2:cs.length*(40+1)<=3*41:=Nat.mul_le_mul_right _ n3;rw[aK,sizeLine_eq];show 8+_<=_;omega
  rw[ecol];have s2':=s1.trans s2;have h2:=s2 _ _ h1;refine⟨ln,_,_,rfl,rfl,h2,(by show 1<sizeLine;decide),?_⟩
  have kp3:∀d o,H d=some o->(upd H2 ln (.lst ([V.str (tx (hdR P L))]++[V.str (tx (aZ cs))]))) d=some o:=λd o e=>by rw[ar (al e nln)];exact s2' _ _ e
  have h3:(upd H2 ln (.lst ([V.str (tx (hdR P L))]++[V.str (tx (aZ cs))]))) ln=some (.lst (tv [hdR P L,aZ cs])):=FY;generalize upd H2 ln (.lst ([V.str (tx (hdR P L))]++[V.str (tx (aZ cs))]))=H3 at *;refine⟨rfl,zl,λl4 n4=>?_⟩
  generalize e0:upd H3 l4 _=H4;obtain⟨s4,h4⟩:=un e0 n4;have h4:H4 l4=some (.lst (tv [[120]])):=h4;clear e0;refine⟨_,rfl,_,rfl,c,_,rfl,SqL.of (s4 _ _ (kp3 _ _ hc)),λl5 n5=>?_⟩
  rw[show(1:Int)=((1:Nat):Int) from rfl,gf]
  generalize e0:upd H4 l5 _=H5;obtain⟨s5,h5⟩:=un e0 n5;clear e0;have ld:((cs.map V.int).drop 1).length=cs.length-1:=by rw[length_drop,lc]
  refine⟨l5,rfl,⟨_,SqL.of h5⟩,bU (rest:=[]) rfl (λ_=>.str (tx [48])) h5 (by omega) (λi v H6 R hv sm hR=>hR H6 (FX.refl _)) λl6 H6 n6 s6 h6=>?_⟩
  have h6:H6 l6=some (.lst (tv (List.replicate (cs.length-1) [48]))):=by
   rw[h6,ld];unfold tv;rw[map_replicate,map_const',length_range]
  refine⟨l4,l6,_,_,rfl,rfl,s6 _ _ (s5 _ _ h4),h6,by rw[aS,aS,length_replicate,sizeLine_eq];show 1+_<=_;omega,λl7 n7=>?_⟩
  have eg:[120]::List.replicate (cs.length-1) [48]=W1 cs.length 0 [120]:=by
   unfold W1;obtain⟨n,en⟩:∃n,cs.length=n+1:=⟨cs.length-1,by omega⟩
   rw[en]
   rfl
  rw[dA,show[[120]]++List.replicate (cs.length-1) [48]=W1 cs.length 0 [120] from eg]
  generalize e0:upd H6 l7 _=H7;obtain⟨s7,h7⟩:=un e0 n7;clear e0;refine⟨_,l7,_,rfl,rfl,hv h7,eM (by decide +kernel) (CC (by decide)) (by rw[cM];omega),?_⟩
  rw[jm];have s37:=s4.trans (s5.trans (s6.trans s7));have kp7:∀d o,H d=some o->H7 d=some o:=λd o e=>s37 _ _ (kp3 _ _ e)
  have h7':H7 ln=some (.lst (tv [hdR P L,aZ cs])):=s37 _ _ h3;clear s0 s1 s2 s2' h0 h1 h2 h3 h4 h5 h6 h7 s4 s5 s6 s7 s37 kp3 n0 n4 n5 n6 n7 nacc hacc mv ehd lhd e1 e2 ej ecol;refine⟨_,rfl,_,rfl,p,a,b,4,k,rfl,kp7 _ _ hp,hb,by omega,by decide,bg (by decide) (by decide),λr a8 b8 r0 r1 hb8=>?_⟩
  obtain⟨m,rfl⟩:=Int.eq_ofNat_of_zero_le r0;have hm:m<=3:=by omega
  have lp:ln≠p:=(al hp nln).symm;have kp8:∀d o,H d=some o->d≠p->(upd H7 p (.lst [.int a8,.int b8])) d=some o:=λd o e hd=>by rw[ar hd];exact kp7 _ _ e
  have hp8:(upd H7 p (.lst [.int a8,.int b8])) p=some (.lst [.int a8,.int b8]):=FY;have h8:(upd H7 p (.lst [.int a8,.int b8])) ln=some (.lst (tv [hdR P L,aZ cs])):=by rw[ar lp];exact h7'
  generalize upd H7 p (.lst [.int a8,.int b8])=H8 at *;have eg8:tx (aN 44 32 (W1 cs.length 0 [120]))=tx (bA cs.length):=rfl;rw[eg8];refine⟨_,rfl,by omega,by omega,pO (rest:=[some (.str (tx (bA cs.length)))]) rfl (λ_=>.str (tx (bA cs.length))) (by omega) (λi H9 R hi sm hR=>⟨_,rfl,hR H9 (FX.refl _)⟩) λl9 H9 n9 s9 h9=>?_⟩
  have h9:H9 l9=some (.lst (tv (List.replicate m (bA cs.length)))):=by
   rw[h9,Int.toNat_natCast];unfold tv;rw[map_replicate,map_const',length_range]
  refine⟨ln,l9,_,_,rfl,rfl,s9 _ _ h8,h9,by rw[aS,aS,length_replicate,sizeLine_eq];show 2+_<=_;omega,λlt n10=>?_⟩
  rw[dA,show[hdR P L,aZ cs]++List.replicate m (bA cs.length)=hdR P L::aZ cs::List.replicate m (bA cs.length) from rfl]
  have s10:=FX.new (o:=.lst (tv (hdR P L::aZ cs::List.replicate m (bA cs.length)))) n10;have h10:(upd H9 lt (.lst (tv (hdR P L::aZ cs::List.replicate m (bA cs.length))))) lt=some (.lst (tv (hdR P L::aZ cs::List.replicate m (bA cs.length)))):=FY;have lp:lt≠p:=(al (s9 _ _ hp8) n10).symm;generalize upd H9 lt (.lst (tv (hdR P L::aZ cs::List.replicate m (bA cs.length))))=H10 at *;have s810:=s9.trans s10;refine⟨_,rfl,p,a8,b8,9,_,rfl,s810 _ _ hp8,hb8,by omega,by decide,bg (by decide) (by decide),λway a11 b11 w0 w1 hb11=>?_⟩
  have kp11:∀d o,H d=some o->d≠p->(upd H10 p (.lst [.int a11,.int b11])) d=some o:=λd o e hd=>by rw[ar hd];exact s810 _ _ (kp8 _ _ e hd)
  have hp11:(upd H10 p (.lst [.int a11,.int b11])) p=some (.lst [.int a11,.int b11]):=FY;have h11:(upd H10 p (.lst [.int a11,.int b11])) lt=some (.lst (tv (hdR P L::aZ cs::List.replicate m (bA cs.length)))):=by rw[ar lp];exact h10
  generalize upd H10 p (.lst [.int a11,.int b11])=H11 at *;have lls:(hdR P L::aZ cs::List.replicate m (bA cs.length)).length=m+2:=by rw[length_cons,length_cons,length_replicate]
  have lw:∀w∈hdR P L::aZ cs::List.replicate m (bA cs.length),w.length<=40:=λw hw=>by
   rcases List.mem_cons.mp hw with z|hw
   ·rw[z];exact(eG hP hL1 hL4).1
   ·rcases List.mem_cons.mp hw with z|hw
    ·rw[z];exact lcol
    ·rw[eq_of_mem_replicate hw];exact(iD n1 n3).1.1
  refine⟨_,rfl,_,rfl,lt,_,rfl,.inl (SqL.of h11),_,_,rfl,rfl,p,a11,b11,_,_,rfl,hp11,hb11,by omega,by rw[aS,lls];omega,bg (by rw[aS,lls];omega) (by rw[aS,lls];omega),λr a12 b12 r0 r1 hb12=>⟨_,_,rfl,rfl,?_⟩⟩
  obtain⟨j,rfl⟩:=Int.eq_ofNat_of_zero_le r0;have hj:j<=m:=by rw[aS,lls] at r1;omega
  dsimp only;rw[show(2:Int)+(j:Int)=((2+j:Nat):Int) by omega]
  have kp12:∀d o,H d=some o->d≠p->(upd H11 p (.lst [.int a12,.int b12])) d=some o:=λd o e hd=>by rw[ar hd];exact kp11 _ _ e hd
  have hp12:(upd H11 p (.lst [.int a12,.int b12])) p=some (.lst [.int a12,.int b12]):=FY;have h12:(upd H11 p (.lst [.int a12,.int b12])) lt=some (.lst (tv (hdR P L::aZ cs::List.replicate m (bA cs.length)))):=by rw[ar lp];exact h11
  generalize upd H11 p (.lst [.int a12,.int b12])=H12 at *;have hb12:Gm a12 b12 (k+3):=hb12;clear kp7 kp8 kp11 hp8 hp11 h8 h9 h10 h11 s9 s10 s810 hb8 hb11 h7' n9 n10;have nlt:∀d o,H d=some o->d≠p->H12 d=some o:=kp12
  have hc12:=kp12 _ _ hc cp;subst hR0;have l100:(hdR P L::aZ cs::List.replicate m (bA cs.length)).length<=100:=by omega
  have lI:∀(b:List Nat),b.length<=40->(∀w∈hdR P L::aZ cs::((List.replicate j (bA cs.length)++[b])++List.replicate (m-j) (bA cs.length)),w.length<=40)/\(hdR P L::aZ cs::((List.replicate j (bA cs.length)++[b])++List.replicate (m-j) (bA cs.length))).length<=8:=λb hb=>by
   refine⟨λw hw=>?_,by simp;omega⟩
   rw[<- qU hj] at hw
   rcases List.mem_append.mp hw with hw|hw
   ·rcases List.mem_append.mp hw with hw|hw
    ·exact lw w (mem_of_mem_take hw)
    ·rw[List.mem_singleton.mp hw];exact hb
   ·exact lw w (mem_of_mem_drop hw)
  refine⟨_,rfl,rfl,_,rfl,bt (λh=>?_) (λh=>?_)⟩
  ·refine⟨rfl,ut rfl rfl h12 l100 λl6 H1 n6 s1 h6 Z hZ=>?_⟩
   refine⟨rfl,_,rfl,c,rfl,⟨_,SqL.of (s1 _ _ hc12)⟩,bU (rest:=[]) rfl (λ_=>.str (tx [48])) (s1 _ _ hc12) (by omega) (λi v H2 R hv sm hR=>hR H2 (FX.refl _)) λacc H2 nacc s2 hacc=>?_⟩
   have hacc:H2 acc=some (.lst (tv (List.replicate cs.length [48]))):=by
    rw[hacc,lc];unfold tv;rw[map_replicate,map_const',length_range]
   refine⟨_,acc,_,rfl,rfl,hv hacc,eM (by decide +kernel) (λw hw=>by rw[eq_of_mem_replicate hw];decide) (by rw[length_replicate];omega),?_⟩
   rw[jm];refine hZ _ H2 (s2 _ _ h6) (s2 _ _ (s1 _ _ h12)) λd H3 s3 hd=>?_
   have lz:(aN 44 32 (List.replicate cs.length [48])).length<=40:=by
    have:=fj 44 32 (B:=1) (List.replicate cs.length [48]) λw hw=>by rw[eq_of_mem_replicate hw];decide
    rw[length_replicate] at this;omega
   rw[qU hj] at hd;refine⟨_,d,_,rfl,rfl,hv hd,eM (by decide +kernel) (lI _ lz).1 (lI _ lz).2,?_⟩
   rw[iV];have s13:=s1.trans (s2.trans s3);exact q _ a12 b12 _ (xD hP hL1 hL4 hcs hj hm) (s13 _ _ hp12) (hb12.mono (by omega)) λd o e hd=>s13 _ _ (kp12 _ _ e hd)
  refine⟨_,rfl,rfl,_,rfl,bt (λh=>?_) (λh=>?_)⟩
  ·refine⟨rfl,ut rfl rfl h12 l100 λl6 H1 n6 s1 h6 Z hZ=>?_⟩
   refine hZ [] H1 h6 (s1 _ _ h12) λd H3 s3 hd=>?_
   rw[qU hj] at hd;refine⟨_,d,_,rfl,rfl,hv hd,eM (by decide +kernel) (lI [] (by decide)).1 (lI [] (by decide)).2,?_⟩
   rw[iV];have s13:=s1.trans s3;exact q _ a12 b12 _ (wx hP hL1 hL4 hcs hj hm) (s13 _ _ hp12) (hb12.mono (by omega)) λd o e hd=>s13 _ _ (kp12 _ _ e hd)
  have lR:∀w∈List.replicate m (bA cs.length),w.length<=40:=λw hw=>lw w (by simp[hw])
  refine⟨_,rfl,rfl,_,rfl,bt (λh=>?_) (λh=>?_)⟩
  ·exact⟨_,rfl,lt,_,_,_,rfl,rfl,SqL.of h12,aB (j:=0) rfl,q _ a12 b12 _ (AZ hP hL1 hL4) hp12 (hb12.mono (by omega)) kp12⟩
  refine⟨_,rfl,rfl,_,rfl,bt (λh=>?_) (λh=>?_)⟩
  ·refine⟨rfl,_,rfl,lt,_,_,_,rfl,rfl,SqL.of h12,aB (j:=1) rfl,_,rfl,lt,_,_,_,rfl,rfl,SqL.of h12,aB (j:=0) rfl,zl,λl7 n7=>?_⟩
   generalize e0:upd H12 l7 _=H7;obtain⟨s7,h7⟩:=un e0 n7;have h7:H7 l7=some (.lst (tv [aZ cs,hdR P L])):=h7;clear e0;refine⟨_,rfl,_,rfl,lt,_,rfl,SqL.of (s7 _ _ h12),λl8 n8=>?_⟩
   rw[show(2:Int)=((2:Nat):Int) from rfl,gf,lv]
   have s8:=FX.new (o:=.lst (tv ((hdR P L::aZ cs::List.replicate m (bA cs.length)).drop 2))) n8;refine⟨l7,l8,_,_,rfl,rfl,s8 _ _ h7,FY,by rw[aS,aS,length_drop,sizeLine_eq];show 2+_<=_;omega,λl9 n9=>?_⟩
   have s9:=s7.trans (s8.trans (FX.new (o:=.lst (tv [aZ cs,hdR P L]++tv ((hdR P L::aZ cs::List.replicate m (bA cs.length)).drop 2))) n9));refine⟨_,l9,_,rfl,rfl,hv (ws:=aZ cs::hdR P L::List.replicate m (bA cs.length)) (by rw[FY,dA];rfl),eM (by decide +kernel) (λw hw=>?_) (by simp;omega),?_⟩
   ·rcases List.mem_cons.mp hw with z|hw
    ·rw[z];exact lcol
    ·rcases List.mem_cons.mp hw with z|hw
     ·rw[z];exact(eG hP hL1 hL4).1
     ·exact lR w hw
   rw[iV];exact q _ a12 b12 _ (wK hP hL1 hL4 hcs hm) (s9 _ _ hp12) (hb12.mono (by omega)) λd o e hd=>s9 _ _ (kp12 _ _ e hd)
  refine⟨_,rfl,rfl,_,rfl,bt (λh=>?_) (λh=>?_)⟩
  ·refine⟨_,rfl,L,rfl,hL1,hL4,λhd8 H7 n7 s7 h7=>?_⟩
   have hdp:hd8≠p:=(al hp12 n7).symm;have lh:(rY L.toNat).length=22:=rfl;refine⟨rfl,_,rfl,_,rfl,_,rfl,hd8,_,rfl,.inl (SqL.of h7),p,a12,b12,_,_,rfl,s7 _ _ hp12,hb12,by omega,by rw[aS,lh];decide,bg (by rw[aS,lh];decide) (by rw[aS,lh];decide),λr a13 b13 r0 r1 hb13=>?_⟩
   obtain⟨i,rfl⟩:=Int.eq_ofNat_of_zero_le r0;obtain⟨v,ev⟩:∃v,(tv (rY L.toNat))[i]? = some v:=⟨_,getElem?_eq_getElem (by omega)⟩
   obtain⟨b,mb,rfl⟩:=kC ev;have kp13:∀d o,H7 d=some o->d≠p->(upd H7 p (.lst [.int a13,.int b13])) d=some o:=λd o e hd=>by rw[ar hd];exact e
   have hp13:(upd H7 p (.lst [.int a13,.int b13])) p=some (.lst [.int a13,.int b13]):=FY;generalize upd H7 p (.lst [.int a13,.int b13])=H13 at *;refine⟨hd8,_,_,_,rfl,rfl,SqL.of (kp13 _ _ h7 hdp),aB ev,zl,λl8 n8=>?_⟩
   have s8:=FX.new (o:=.lst [V.str (tx b)]) n8;have h8:(upd H13 l8 (.lst [V.str (tx b)])) l8=some (.lst (tv [b])):=FY;have h14:=s8 _ _ (kp13 _ _ (s7 _ _ h12) lp);generalize upd H13 l8 (.lst [V.str (tx b)])=H8 at *;refine⟨_,rfl,_,rfl,lt,_,rfl,SqL.of h14,λl9 n9=>?_⟩
   rw[show(1:Int)=((1:Nat):Int) from rfl,gf,lv]
   have s9:=FX.new (o:=.lst (tv ((hdR P L::aZ cs::List.replicate m (bA cs.length)).drop 1))) n9;refine⟨l8,l9,_,_,rfl,rfl,s9 _ _ h8,FY,by rw[aS,aS,length_drop,sizeLine_eq];show 1+_<=_;omega,λl10 n10=>?_⟩
   have s10:=s8.trans (s9.trans (FX.new (o:=.lst (tv [b]++tv ((hdR P L::aZ cs::List.replicate m (bA cs.length)).drop 1))) n10));have lb:b.length<=40:=by
    have:=List.all_eq_true.mp (kN pC (n:=L.toNat) (by omega) (by omega)) b mb
    exact(j4 (Bool.and_eq_true _ _▸this).2).1
   refine⟨_,l10,_,rfl,rfl,hv (ws:=b::aZ cs::List.replicate m (bA cs.length)) (by rw[FY,dA];rfl),eM (by decide +kernel) (λw hw=>?_) (by simp;omega),?_⟩
   ·rcases List.mem_cons.mp hw with z|hw
    ·rw[z];exact lb
    ·rcases List.mem_cons.mp hw with z|hw
     ·rw[z];exact lcol
     ·exact lR w hw
   rw[iV];exact q _ a13 b13 _ (wH hL1 hL4 hcs hm mb) (s10 _ _ hp13) (hb13.mono (by omega)) λd o e hd=>s10 _ _ (kp13 _ _ (s7 _ _ (kp12 _ _ e hd)) hd)
  refine⟨_,rfl,rfl,_,rfl,bt (λh=>?_) (λh=>?_)⟩
  ·refine⟨rfl,λhd8 H7 n7 s7 h7=>?_⟩
   have hdp:hd8≠p:=(al hp12 n7).symm;have lh:(j6++nJ).length=16:=rfl;refine⟨rfl,_,rfl,lt,_,_,_,rfl,rfl,SqL.of (s7 _ _ h12),aB (j:=0) rfl,_,rfl,_,rfl,_,rfl,hd8,_,rfl,.inl (SqL.of h7),p,a12,b12,_,_,rfl,s7 _ _ hp12,hb12,by omega,by rw[aS,lh];decide,bg (by rw[aS,lh];decide) (by rw[aS,lh];decide),λr a13 b13 r0 r1 hb13=>?_⟩
   obtain⟨i,rfl⟩:=Int.eq_ofNat_of_zero_le r0;obtain⟨v,ev⟩:∃v,(tv (j6++nJ))[i]? = some v:=⟨_,getElem?_eq_getElem (by omega)⟩
   obtain⟨b,mb,rfl⟩:=kC ev;have kp13:∀d o,H7 d=some o->d≠p->(upd H7 p (.lst [.int a13,.int b13])) d=some o:=λd o e hd=>by rw[ar hd];exact e
   have hp13:(upd H7 p (.lst [.int a13,.int b13])) p=some (.lst [.int a13,.int b13]):=FY;generalize upd H7 p (.lst [.int a13,.int b13])=H13 at *;refine⟨hd8,_,_,_,rfl,rfl,SqL.of (kp13 _ _ h7 hdp),aB ev,zl,λl8 n8=>?_⟩
   have s8:=FX.new (o:=.lst [V.str (tx (hdR P L)),V.str (tx b)]) n8;have h8:(upd H13 l8 (.lst [V.str (tx (hdR P L)),V.str (tx b)])) l8=some (.lst (tv [hdR P L,b])):=FY;have h14:=s8 _ _ (kp13 _ _ (s7 _ _ h12) lp);generalize upd H13 l8 (.lst [V.str (tx (hdR P L)),V.str (tx b)])=H8 at *;refine⟨_,rfl,_,rfl,lt,_,rfl,SqL.of h14,λl9 n9=>?_⟩
   rw[show(2:Int)=((2:Nat):Int) from rfl,gf,lv]
   have s9:=FX.new (o:=.lst (tv ((hdR P L::aZ cs::List.replicate m (bA cs.length)).drop 2))) n9;refine⟨l8,l9,_,_,rfl,rfl,s9 _ _ h8,FY,by rw[aS,aS,length_drop,sizeLine_eq];show 2+_<=_;omega,λl10 n10=>?_⟩
   have s10:=s8.trans (s9.trans (FX.new (o:=.lst (tv [hdR P L,b]++tv ((hdR P L::aZ cs::List.replicate m (bA cs.length)).drop 2))) n10));have lb:b.length<=40:=by
    have:=List.all_eq_true.mp oJ b mb;exact(j4 (Bool.and_eq_true _ _▸(Bool.and_eq_true _ _▸this).2).1).1
   refine⟨_,l10,_,rfl,rfl,hv (ws:=hdR P L::b::List.replicate m (bA cs.length)) (by rw[FY,dA];rfl),eM (by decide +kernel) (λw hw=>?_) (by simp;omega),?_⟩
   ·rcases List.mem_cons.mp hw with z|hw
    ·rw[z];exact(eG hP hL1 hL4).1
    ·rcases List.mem_cons.mp hw with z|hw
     ·rw[z];exact lb
     ·exact lR w hw
   rw[iV];exact q _ a13 b13 _ (xU hP hL1 hL4 hcs hm mb) (s10 _ _ hp13) (hb13.mono (by omega)) λd o e hd=>s10 _ _ (kp13 _ _ (s7 _ _ (kp12 _ _ e hd)) hd)
  refine⟨_,rfl,rfl,_,rfl,bt (λh=>?_) (λh=>?_)⟩
  ·refine⟨zl,λl7 n7=>?_⟩
   have s7:=FX.new (o:=.lst [V.str (Str.ofString "\n"),V.str (Str.ofString " ")]) n7;have h7:(upd H12 l7 (.lst [V.str (Str.ofString "\n"),V.str (Str.ofString " ")])) l7=some (.lst [V.str (Str.ofString "\n"),V.str (Str.ofString " ")]):=FY;have lp7:l7≠p:=(al hp12 n7).symm;generalize upd H12 l7 (.lst [V.str (Str.ofString "\n"),V.str (Str.ofString " ")])=H7 at *;refine⟨_,rfl,p,a12,b12,2,_,rfl,s7 _ _ hp12,hb12,by omega,by decide,bg (by decide) (by decide),λr a13 b13 r0 r1 hb13=>?_⟩
   obtain⟨i,rfl⟩:=Int.eq_ofNat_of_zero_le r0;have hi:i<2:=by omega
   have kp13:∀d o,H7 d=some o->d≠p->(upd H7 p (.lst [.int a13,.int b13])) d=some o:=λd o e hd=>by rw[ar hd];exact e
   have hp13:(upd H7 p (.lst [.int a13,.int b13])) p=some (.lst [.int a13,.int b13]):=FY;generalize upd H7 p (.lst [.int a13,.int b13])=H13 at *;refine⟨l7,_,_,_,rfl,rfl,SqL.of (kp13 _ _ h7 lp7),aB (tP hi),rfl,_,rfl,?_⟩;refine⟨_,lt,_,rfl,rfl,hv (kp13 _ _ (s7 _ _ h12) lp),eM (by decide +kernel) lw (by omega),?_⟩
   rw[iV];have lg:=dj 10 (B:=40) (hdR P L::aZ cs::List.replicate m (bA cs.length)) lw;have lg2:(hdR P L::aZ cs::List.replicate m (bA cs.length)).length*(40+1)<=5*41:=Nat.mul_le_mul_right _ (by omega)
   have kpz:∀d o,H d=some o->d≠p->H13 d=some o:=λd o e hd=>kp13 _ _ (s7 _ _ (kp12 _ _ e hd)) hd
   by_cases h0:i=0
   ·rw[if_pos h0];refine⟨_,_,rfl,rfl,by rw[aK,sizeLine_eq];show 1+_<=_;omega,?_⟩
    rw[show Str.ofString "\n" = tx [10] from rfl,bq]
    exact q _ a13 b13 _ (tZ hP hL1 hL4 hcs hm) hp13 (hb13.mono (by omega)) kpz
   ·rw[if_neg h0];refine⟨_,_,rfl,rfl,by rw[aK,sizeLine_eq];show 1+_<=_;omega,?_⟩
    rw[show Str.ofString " " = tx [32] from rfl,bq]
    exact q _ a13 b13 _ (uC hP hL1 hL4 hcs hm) hp13 (hb13.mono (by omega)) kpz
  refine⟨rfl,ut rfl rfl h12 l100 λl6 H1 n6 s1 h6 Z hZ=>?_⟩
  refine⟨_,rfl,_,rfl,_,rfl,_,rfl,L,P,c,p,cs,a12,b12,_,rfl,hL1,hL4,hP,s1 _ _ hc12,n1,n3,cp,s1 _ _ hp12,hb12,by omega,λb a13 b13 H2 hB hp2 hb2 kp2=>?_⟩
  have l6p:l6≠p:=(al hp12 n6).symm;refine hZ b H2 (kp2 _ _ h6 l6p) (kp2 _ _ (s1 _ _ h12) lp) λd H3 s3 hd=>?_
  rw[qU hj] at hd;refine⟨_,d,_,rfl,rfl,hv hd,eM (by decide +kernel) (lI b hB.2.1).1 (lI b hB.2.1).2,?_⟩
  rw[iV];exact q _ a13 b13 _ (rm hP hL1 hL4 hcs hj hm hB) (s3 _ _ hp2) (hb2.mono (by omega)) λd o e hd=>s3 _ _ (kp2 _ _ (s1 _ _ (kp12 _ _ e hd)) hd)
theorem zQ(K:Frag)(t:Value):kitOne K t t=some true:=by
 unfold kitOne;rw[if_pos (beq_self_eq_true t)]
def qC(CT:Addr):Sp:=λvs H Q _=>∃e:Addr,vs=[.ref e]/\H e=some (yN e CT)/\∀H',FX H H'->Q (.bl true) H'
theorem GB:FZ ["_law_e", "_law_hits"] ["_law_e"] (ah gu):=.i
theorem zf{f C_NoText Hl Hq JJ Kk C_NoRung C_NoRelation C_NoMap C_NoTurn C_NoName C_TooMany:Addr}{fd:FuncData}(F:Fun K "_law_class" "_law_class" gu f fd)(T:Blt mg)(ANoText:mg "NoText"=some (.ref C_NoText))(ANoNumber:mg "NoNumber"=some (.ref Hl))(ANoRing:mg "NoRing"=some (.ref Hq))(ANoPart:mg "NoPart"=some (.ref JJ))(ANoRow:mg "NoRow"=some (.ref Kk))(ANoRung:mg "NoRung"=some (.ref C_NoRung))(ANoRelation:mg "NoRelation"=some (.ref C_NoRelation))(ANoMap:mg "NoMap"=some (.ref C_NoMap))(ANoTurn:mg "NoTurn"=some (.ref C_NoTurn))(ANoName:mg "NoName"=some (.ref C_NoName))(ATooMany:mg "TooMany"=some (.ref C_TooMany))
  (nValueError:mg "ValueError" = none) (xc:XCl K C_NoText) (kv:kitOne K (.ref C_NoText) (.type "ValueError")=some true) (ko1:kitOne K (.ref C_NoText) (.ref Hl)=some false) (ko2:kitOne K (.ref C_NoText) (.ref Hq)=some false) (ko3:kitOne K (.ref C_NoText) (.ref JJ)=some false) (ko4:kitOne K (.ref C_NoText) (.ref Kk)=some false) (ko5:kitOne K (.ref C_NoText) (.ref C_NoRung)=some false) (ko6:kitOne K (.ref C_NoText) (.ref C_NoRelation)=some false) (ko7:kitOne K (.ref C_NoText) (.ref C_NoMap)=some false) (ko8:kitOne K (.ref C_NoText) (.ref C_NoTurn)=some false) (ko9:kitOne K (.ref C_NoText) (.ref C_NoName)=some false) (ko10:kitOne K (.ref C_NoText) (.ref C_TooMany)=some false) :
  rc P w K mg base 1 f fd ["_law_e"] (qC C_NoText):=by
 refine F.okH GB (λvs H Q E h=>?_) (λcdv A outer s H vs Q E hr h=>?_)
 ·obtain⟨e,rfl,_⟩:=h
  rfl
 ·obtain⟨e,rfl,hx,q⟩:=h;refine⟨_,(af (aD (i:=1) GB.nd rfl (Or.inl rfl) (ci (aa (dq K T (aa (pv 0) (aa (bG (v:=.ref C_NoText) rfl ANoText rfl) ae))) (aa (dq K T (aa (pv 0) (aa (bG (v:=.ref Hl) rfl ANoNumber rfl) ae))) (aa (dq K T (aa (pv 0) (aa (bG (v:=.ref Hq) rfl ANoRing rfl) ae))) (aa (dq K T (aa (pv 0) (aa (bG (v:=.ref JJ) rfl ANoPart rfl) ae))) ae))))))
(af (aD (i:=1) GB.nd rfl (Or.inl rfl) (aH bj (pv 1) (ci (aa (dq K T (aa (pv 0) (aa (bG (v:=.ref Kk) rfl ANoRow rfl) ae))) (aa (dq K T (aa (pv 0) (aa (bG (v:=.ref C_NoRung) rfl ANoRung rfl) ae))) (aa (dq K T (aa (pv 0) (aa (bG (v:=.ref C_NoRelation) rfl ANoRelation rfl) ae))) (aa (dq K T (aa (pv 0) (aa (bG (v:=.ref C_NoMap) rfl ANoMap rfl) ae))) ae)))))))
(af (aD (i:=1) GB.nd rfl (Or.inl rfl) (aH bj (pv 1) (ci (aa (dq K T (aa (pv 0) (aa (bG (v:=.ref C_NoTurn) rfl ANoTurn rfl) ae))) (aa (dq K T (aa (pv 0) (aa (bG (v:=.ref C_NoName) rfl ANoName rfl) ae))) (aa (dq K T (aa (pv 0) (aa (bG (v:=.ref C_TooMany) rfl ATooMany rfl) ae))) ae))))))
(aj (au (df (aG (ay K rfl) (pv 1) ag (λ_ _=>rfl)) (df (bF ba (dQ PySem.F.plainAttrs_list PySem.F.slot_list_count PySem.F.type_list_count Ak (pv 1) (aa fN ae)) ag (ao _)) (du (dq K T (aa (pv 0) (aa (vf (v:=.ty "ValueError") rfl nValueError km rfl) ae))))))))))),?_⟩
  refine⟨_,rfl,e,_,_,true,rfl,hx,xc,.inl ⟨rfl,zQ _ _⟩,_,rfl,e,_,_,false,rfl,hx,xc,.inl ⟨rfl,ko1⟩,_,rfl,e,_,_,false,rfl,hx,xc,.inl ⟨rfl,ko2⟩,_,rfl,e,_,_,false,rfl,hx,xc,.inl ⟨rfl,ko3⟩,zl,λl1 n1=>?_⟩
  generalize e0:upd H l1 _=H1;obtain⟨s1,h1⟩:=un e0 n1;clear e0;have hx1:=s1 _ _ hx;refine⟨_,rfl,_,rfl,e,_,_,false,rfl,hx1,xc,.inl ⟨rfl,ko4⟩,_,rfl,e,_,_,false,rfl,hx1,xc,.inl ⟨rfl,ko5⟩,_,rfl,e,_,_,false,rfl,hx1,xc,.inl ⟨rfl,ko6⟩,_,rfl,e,_,_,false,rfl,hx1,xc,.inl ⟨rfl,ko7⟩,zl,λa2 m2=>⟨l1,a2,_,_,rfl,rfl,(FX.new m2) _ _ h1,FY,zl,λl2 n2=>?_⟩⟩
  generalize e2:upd _ l2 _=H2;have s2:FX H1 H2:=e2▸(FX.new m2).trans (FX.new n2);have h2:H2 l2=some (.lst ([true,false,false,false,false,false,false,false].map V.bl)):=by rw[<- e2];exact FY
  clear e2;have hx2:=s2 _ _ hx1;refine⟨_,rfl,_,rfl,e,_,_,false,rfl,hx2,xc,.inl ⟨rfl,ko8⟩,_,rfl,e,_,_,false,rfl,hx2,xc,.inl ⟨rfl,ko9⟩,_,rfl,e,_,_,false,rfl,hx2,xc,.inl ⟨rfl,ko10⟩,zl,λa3 m3=>⟨l2,a3,_,_,rfl,rfl,(FX.new m3) _ _ h2,FY,zl,λl3 n3=>?_⟩⟩
  generalize e3:upd _ l3 _=H3;have s3:FX H2 H3:=e3▸(FX.new m3).trans (FX.new n3);have h3:H3 l3=some (.lst ([true,false,false,false,false,false,false,false,false,false,false].map V.bl)):=by rw[<- e3];exact FY
  clear e3;have hx3:=s3 _ _ hx2;refine⟨_,rfl,l3,_,_,_,rfl,rfl,SqL.of h3,aB (j:=0) rfl,true,rfl,bC ?_⟩;refine⟨_,rfl,.inl ⟨rfl,_,SqL.of h3⟩,l3,[true,false,false,false,false,false,false,false,false,false,false],rfl,rfl,h3,rfl,true,rfl,bC ?_⟩;exact⟨_,rfl,e,_,_,true,rfl,hx3,xc,.inl ⟨rfl,kv⟩,q _ (s1.trans (s2.trans s3))⟩
def Ac(K:Frag)(CF CR CG:Addr):Sp:=λvs H Q _=>∃(k:Int) (g x c:Addr) (P L:Int) (cs:List Int) (v:V),vs=[.int k,.ref g,.ref c,v]/\F0 P/\cF CG H g x L/\F7 CF CR H x P/\1<=L/\L<=4/\H c=some (.lst (cs.map V.int))/\
 (jW K H v\/∃l:List Nat,v=.str (tx l)/\((k=0/\(∀c∈l,c<128)/\l.length<=7/\NoS P L l)\/(k=1/\oB P L cs l)\/(k≠0/\k≠1/\iS l)))/\∀H',FX H H'->Q (.bl true) H'
theorem sc__law_refused:FZ ["_law_which", "_law_ring", "_law_columns", "_law_thing", "_law_e"] ["_law_which", "_law_ring", "_law_columns", "_law_thing"] (ah fv):=.i
theorem uy{f CT CF CR CG Ir:Addr}{fd:FuncData}(F:Fun K "_law_refused" "_law_refused" fv f fd)(HS:cS P w K mg base 7 "read_sum" (rp K CT CF CR CG))(HU:cS P w K mg base 8 "read_row" (sQ K CT CF CR CG))(KC:cS P w K mg base 9 "read_table" (zS K CT))(KD:BU P w K mg base 1 "_law_class" (qC CT))(ALadderError:mg "LadderError"=some (.ref Ir))(ml:PySem.W.exmOne K (.ref CT) (.ref Ir)=some true):F2 P w K mg base CX0 10 f fd ["_law_which", "_law_ring", "_law_columns", "_law_thing"] (Ac K CF CR CG):=by
 refine F.o sc__law_refused λ_ _ _ _ H _ Q _ hr h=>?_
 ·obtain⟨k,g,x,c,P,L,cs,v,rfl,hP,hG,hN,hL1,hL4,hc,hv,q⟩:=h;refine⟨_,(af (DO (i:=4) rfl sc__law_refused.nd rfl ALadderError (zL (aA ba (pv 0) ag (ao _))
(mF (tT HS hr.m (by exact(aa (pv 1) (aa (pv 3) ae)))))
(zL (aA ba (pv 0) ag (ao _))
(mF (tT HU hr.m (by exact(aa (pv 1) (aa (pv 2) (aa (pv 3) ae))))))
(mF (tT KC hr.m (by exact(aa (pv 3) ae)))))) (λ_=>by exact(aj (au (DQ KD (hr.m.marked _) (aa (pv 4) ae))))))
(aj (au fN))),?_⟩
  refine⟨_,rfl,rfl,_,rfl,bt (λh=>?_) (λh=>?_)⟩
  ·have h:k=0:=by have:=of_decide_eq_true h;injection this
   refine⟨_,rfl,_,rfl,g,x,P,L,v,rfl,?_⟩
   rcases hv with hv|⟨l,rfl,hv⟩
   ·exact .inl ⟨hv,CT,rfl,ml,λe he=>⟨_,rfl,e,rfl,FY,λH3 s3=>q H3 ((FX.new he).trans s3)⟩⟩
   ·rcases hv with⟨_,v1,v2,v3⟩|⟨z,_⟩|⟨z,_⟩
    ·exact .inr ⟨l,rfl,hP,hG,hN,by omega,hL4,v1,v2,λ_ H1 s1=>⟨CT,rfl,ml,λe he=>⟨_,rfl,e,rfl,FY,λH3 s3=>q H3 (s1.trans ((FX.new he).trans s3))⟩⟩,λps hw e=>absurd e (v3 ps hw)⟩
    ·omega
    ·exact absurd h z
  ·have h:k≠0:=λz=>h (decide_eq_true (congrArg V.int z))
   refine⟨_,rfl,rfl,_,rfl,bt (λh1=>?_) (λh1=>?_)⟩
   ·have h1:k=1:=by have:=of_decide_eq_true h1;injection this
    refine⟨_,rfl,_,rfl,_,rfl,g,x,c,P,L,cs,v,rfl,?_⟩
    rcases hv with hv|⟨l,rfl,hv⟩
    ·exact .inl ⟨hv,CT,rfl,ml,λe he=>⟨_,rfl,e,rfl,FY,λH3 s3=>q H3 ((FX.new he).trans s3)⟩⟩
    ·rcases hv with⟨z,_⟩|⟨_,v1,v2,v3,v4,_⟩|⟨_,z,_⟩
     ·exact absurd z h
     ·exact .inr ⟨l,rfl,hP,hG,hN,by omega,hL4,hc,v1,by omega,v3.1,v3.2,λ_ H1 s1=>⟨CT,rfl,ml,λe he=>⟨_,rfl,e,rfl,FY,λH3 s3=>q H3 (s1.trans ((FX.new he).trans s3))⟩⟩,λrow hw e hB=>absurd hB λz=>v4 row hw e z⟩
     ·exact absurd h1 z
   ·have h1:k≠1:=λz=>h1 (decide_eq_true (congrArg V.int z))
    refine⟨_,rfl,v,rfl,?_⟩
    rcases hv with hv|⟨l,rfl,hv⟩
    ·exact .inl ⟨hv,CT,rfl,ml,λe he=>⟨_,rfl,e,rfl,FY,λH3 s3=>q H3 ((FX.new he).trans s3)⟩⟩
    ·rcases hv with⟨z,_⟩|⟨z,_⟩|⟨_,_,v1,v2,v3,v4,v5⟩
     ·exact absurd z h
     ·exact absurd z h1
     ·exact .inr ⟨l,rfl,v1,v2,v3,v4,λH1 s1=>⟨CT,rfl,ml,λe he=>⟨_,rfl,e,rfl,FY,λH3 s3=>q H3 (s1.trans ((FX.new he).trans s3))⟩⟩,v5⟩
def dR(P:Int)(row:List (List aw)):PyData:=.list (row.map (dS P))
def Lay(n:Nat)(d:PyData):Prop:=d.canLay0=true/\d.depth<=n
theorem vU{n:Nat}:∀{ds:List PyData},(∀d∈ds,Lay n d)->PyData.canLayAll0 ds=true/\PyData.depthAll ds<=n
 |[],_=>⟨rfl,by simp[PyData.depthAll]⟩
 |d::r,h=>by
  obtain⟨a,b⟩:=h d mem_cons_self;obtain⟨c,e⟩:=vU λd hd=>h d (mem_cons_of_mem _ hd)
  refine⟨by simp only[PyData.canLayAll0,a,c,Bool.and_true],?_⟩
  simp only[PyData.depthAll];omega
theorem sT{n:Nat}{ds:List PyData}(h:∀d∈ds,Lay n d):Lay (n+1) (.list ds):=by
 obtain⟨a,b⟩:=vU h;refine⟨by simp only[PyData.canLay0,a],?_⟩
 simp only[PyData.depth];omega
theorem Lay.sh{n:Nat}{d:PyData}(h:Lay n d)(k:n<=64):SeqAt.shaped d=true:=by
 unfold SeqAt.shaped;rw[Bool.and_eq_true];exact⟨h.1,decide_eq_true (Nat.le_trans h.2 k)⟩
theorem DF(P:Int)(e:List aw):Lay 3 (dS P e):=sT λd hd=>by
 obtain⟨p,_,rfl⟩:=List.mem_map.mp hd;exact C8 P p
theorem uL(P:Int)(row:List (List aw)):Lay 4 (dR P row):=sT λd hd=>by
 obtain⟨p,_,rfl⟩:=List.mem_map.mp hd;exact DF P p
theorem sf{K:Frag}{P:Int}{H:Hp}:∀{es:List V} {row:List (List aw)},Paired (EntR P H) es row->DRs K H (row.map (dS P)) es
 |_,_,.nil=>.nil
 |_,_,.cons ⟨l,ts,e,h1,h2⟩ r=>by
  rw[e];exact .cons (ir h1 h2) (sf r)
theorem CZ{K:Frag}{P:Int}{H:Hp}{r:Addr}{es:List V}{row:List (List aw)}(hr:H r=some (.lst es))(h:Paired (EntR P H) es row):DR K H (dR P row) (.ref r):=.lst (SqL.of hr) (sf h)
theorem Ah{n:Nat}{d:PyData}(h:Lay n d):PyData.eqv d d=true:=SeqAt.eqv_refl d h.1
def xS(n:Nat):List aw:=[(1::List.replicate (n-1) 0,(1,1))]
def gQ(n m:Nat):List (List aw):=xS n::List.replicate (m-1) []
theorem y3{P:Int}{n:Nat}:¬BX P n [48]:=by
 have h0:rS P n [48]=some []:=by unfold rS;rw[if_pos rfl]
 rintro(h|⟨qs,out,h,is,e⟩)
 ·rw[h0] at h;cases h
 ·rw[h0] at h;cases h;have eo:out=[]:=List.Perm.eq_nil is.1;rw[eo] at e;exact e rfl
theorem n4{n:Nat}(h1:1<=n)(h4:n<=4):n=1\/n=2\/n=3\/n=4:=by omega
theorem rP_x{P:Int}{n:Nat}(h1:1<=n)(h4:n<=4):rP P n [120]=some (1::List.replicate (n-1) 0,(1,1)):=by
 rcases n4 h1 h4 with rfl|rfl|rfl|rfl<;>rfl
theorem yt{P:Int}(hP:F0 P):iL P (1,1) (sg1 P [43])=(1,1):=by
 have e:sg1 P [43]=(1,1):=by
  unfold sg1
  rcases hP with h|⟨h,_⟩
  ·rw[if_pos h]
   rfl
  ·rw[if_neg (by omega)]
   show((1:Int)%P,(1:Int))=_;rw[Int.emod_eq_of_lt (by decide) (by omega)]
 rw[e]
 rcases hP with h|⟨h,_⟩
 ·rw[h]
  decide +kernel
 ·unfold iL;rw[if_neg (by omega)]
  show((1*1:Int)%P,(1:Int))=_;rw[Int.emod_eq_of_lt (by decide) (by omega)]
  rfl
theorem Fo{P:Int}(hP:F0 P){n:Nat}(h1:1<=n)(h4:n<=4):rS P n [120]=some (xS n):=by
 have e:rS P n [120]=(rP P n [120]).map λp:aw=>[]++[(p.1,iL P p.2 (sg1 P [43]))]:=by
  unfold rS;rw[if_neg (by decide)]
  show List.foldlM (rS1 P n) [] [([43],[120])]=_;rw[List.foldlM_cons];unfold rS1;cases rP P n [120] with
  |none=>rfl
  |some p=>rfl
 rw[e,rP_x h1 h4];show some [(_,iL P (1,1) (sg1 P [43]))]=_;rw[yt hP]
 rfl
theorem Ef{P:Int}{n:Nat}(h1:1<=n)(h4:n<=4):shS P (xS n)=[120]:=by
 unfold xS;rw[ie];show hd0 P _=_;unfold hd0;rw[if_neg (by rintro⟨_,h⟩;exact absurd (show(1:Int)<0 from h) (by decide))]
 show prt P _=_;unfold prt;have ea:f9 P (1,1)=(1,1):=by unfold f9;rw[if_neg (by rintro⟨_,h⟩;exact absurd h (by decide))]
 show aT 42 (fac P _ (f9 P (1,1)))=_;rw[ea]
 rcases n4 h1 h4 with rfl|rfl|rfl|rfl<;>rfl
theorem zC{P:Int}(hP:F0 P){n:Nat}(h1:1<=n)(h4:n<=4):¬BX P n [120]:=by
 rintro(h|⟨qs,out,h,is,e⟩)
 ·rw[Fo hP h1 h4] at h;cases h
 ·rw[Fo hP h1 h4] at h;injection h with h
  rw[<- h] at is;have cx:Canon P (n:Int) 110 (xS n):=⟨List.pairwise_singleton _ _,λp hp=>by
   rw[List.mem_singleton.mp hp];refine⟨mj hP,⟨(show(1:Int).natAbs<2^110 by decide +kernel),(show(1:Int).natAbs<2^110 by decide +kernel)⟩,rfl,?_,λe he=>?_⟩
   ·rw[length_cons,length_replicate];omega
   ·rcases List.mem_cons.mp he with z|z
    ·omega
    ·rw[eq_of_mem_replicate z];exact Int.le_refl _⟩
  have eo:out=xS n:=qb is cx.self;rw[eo,Ef h1 h4] at e;exact e rfl
theorem FS:zn4 (λz n=>decide (pS z lT n [120]=some [1::List.replicate (n-1) 0]))=true:=by decide +kernel
theorem Fj{P L:Int}(h1:1<=L)(h4:L<=4){e:List aw}(hw:Gc P L e)(h:shS P e=[120]):e=xS L.toNat:=by
 have k:=tV hw h;rw[of_decide_eq_true (tW FS (decide (P=0)) (n:=L.toNat) (by omega) (by omega))] at k
 injection k with k
 obtain⟨q,rfl⟩:∃q,e=[q]:=by
  have:=congrArg List.length k;rw[length_map] at this;exact List.length_eq_one_iff.mp this.symm
 ·injection k with k _
  have k:1::List.replicate (L.toNat-1) 0=q.1:=k;have hs:q.1.sum≠0:=by
   rw[<- k,sum_cons];have:(List.replicate (L.toNat-1) (0:Int)).sum=0:=by simp
   omega
  rw[ie] at h;have h:hd0 P q=[120]:=h;unfold hd0 at h
  split at h
  ·have:=congrArg (λl:List Nat=>l[0]?) h
   cases this
  ·rename_i hc;rw[nil_append] at h;unfold prt at h;have ea:f9 P q.2=q.2:=by unfold f9;rw[if_neg hc]
   rw[ea] at h;unfold fac at h;rw[if_neg hs] at h
   by_cases h2:q.2=(1,1)
   ·unfold xS;rw[k,<- h2]
   ·rw[if_neg h2,iE 42 _ (i8 (λe he=>(hw.1.2 q (by simp)).2.2.2.2 e he) hs)] at h
    have:(42:Nat)∈([120]:List Nat):=by rw[<- h];simp
    simp at this
theorem FB{P L:Int}(h1:1<=L)(h4:L<=4){e:List aw}(hw:Gc P L e)(h:shS P e=[48]):e=[]:=List.map_eq_nil_iff.mp (yi h1 h4 C2 hw h)
def bY(m:Nat):List (List Nat):=[120]::List.replicate (m-1) [48]
theorem vR{P L:Int}(h1:1<=L)(h4:L<=4){m i:Nat}{e:List aw}(hw:Gc P L e)(h:(bY m)[i]? = some (shS P e)):(gQ L.toNat m)[i]? = some e:=by
 unfold bY at h;unfold gQ;cases i with
 |zero=>
  have h:some [120]=some (shS P e):=h;injection h with h
  show some _=some _;rw[Fj h1 h4 hw h.symm]
 |succ i=>
  rw[List.getElem?_cons_succ,List.getElem?_replicate] at h ⊢
  split at h
  ·rename_i hi;rw[if_pos hi];injection h with h
   rw[FB h1 h4 hw h.symm]
  ·cases h
theorem Ax{P L:Int}(h1:1<=L)(h4:L<=4){m:Nat}{row:List (List aw)}(hw:∀e∈row,Gc P L e)(h:row.map (shS P)=bY m):row=gQ L.toNat m:=by
 have ll:row.length=(gQ L.toNat m).length:=by
  have:=congrArg List.length h;rw[length_map] at this;rw[this];unfold bY gQ;simp
 refine ext_getElem? λi=>?_
 cases hi:row[i]? with
 |some e=>
  refine(vR h1 h4 (hw e (mem_of_getElem? hi)) ?_).symm;rw[<- h,getElem?_map,hi]
  rfl
 |none=>
  have:=List.getElem?_eq_none_iff.mp hi;exact(getElem?_eq_none (by omega)).symm
theorem tE:∀(cs:List Int) (k:Nat),aM cs (List.replicate k [])=[]
 |[],0=>rfl
 |[],_+1=>rfl
 |_::_,0=>rfl
 |c::cs,k+1=>by
  show lv1 c []++aM cs (List.replicate k [])=[];rw[tE cs k]
  rfl
theorem xr{n:Nat}{cs:List Int}(hc:1<=cs.length):jI cs (gQ n cs.length)=true:=by
 unfold jI;obtain⟨c,cr,rfl⟩:∃c r,cs=c::r:=by
  cases cs with
  |nil=>exact absurd hc (by decide)
  |cons c r=>exact⟨c,r,rfl⟩
 have a1:(gQ n (c::cr).length).length=(c::cr).length:=by
  unfold gQ;simp
 have a2:(gQ n (c::cr).length).all lvl=true:=by
  unfold gQ;rw[List.all_cons,List.all_eq_true.mpr λe he=>by rw[eq_of_mem_replicate he];rfl,Bool.and_true]
  exact decide_eq_true rfl
 have a3:ddn (aM (c::cr) (gQ n (c::cr).length))<=1:=by
  have e:aM (c::cr) (gQ n (c::cr).length)=lv1 c (xS n):=by
   show lv1 c (xS n)++aM cr (List.replicate _ [])=_;rw[tE,append_nil]
  rw[e];have k:=mz (ns:=lv1 c (xS n));rw[decide_eq_true (show ∀a∈lv1 c (xS n),∀b∈lv1 c (xS n),a=b from λa ha b hb=>by
   rw[List.mem_singleton.mp (show a∈[_] from ha),List.mem_singleton.mp (show b∈[_] from hb)])] at k
  have:=of_decide_eq_true k;omega
 rw[decide_eq_true a1,a2,decide_eq_true a3]
 rfl
theorem iJ{m:Nat}:∀w∈bY m,w=[120]\/w=[48]:=λw hw=>by
 rcases List.mem_cons.mp hw with z|z
 ·exact .inl z
 ·exact .inr (eq_of_mem_replicate z)
theorem fK(m:Nat):bZ 44 32 (aN 44 32 (bY m))=bY m:=fZ _ (by unfold bY;simp) λw hw=>by
 rcases iJ w hw with rfl|rfl<;>decide
theorem DH{P L:Int}(hP:F0 P)(h1:1<=L)(h4:L<=4){cs:List Int}(hc:1<=cs.length):¬BP P L cs (aN 44 32 (bY cs.length)):=by
 unfold BP;rw[fK];rintro(⟨w,hw,h⟩|⟨row,hw,e,h⟩)
 ·rcases iJ w hw with rfl|rfl
  ·exact zC hP (by omega) (by omega) h
  ·exact y3 h
 ·rw[Ax h1 h4 hw e,xr hc] at h;cases h
theorem Fe:(["_law_place", "_law_bag_here"]:List Str).Nodup:=by decide +kernel
theorem FG:(["_law_word", "_law_ring"]:List Str).Nodup:=by decide +kernel
theorem xI{lo:Int}{n k:Nat}{src:List (Option Nat)}{te:TE}{Q:VK}{σ rest:L2.St}{H0:Hp}{p:Addr}{a0 b0:Int}(hσ:dC src σ=none::rest)(Rel:Int->Prop)(hn:n<=60)(hb:H0 p=some (.lst [.int a0,.int b0]))(hk:Gm a0 b0 k)
  (turn:∀i H a b (R:VK),i<n->H p=some (.lst [.int a,.int b])->Gm a b (k+i)->(∀r a' b',Rel r->Gm a' b' (k+(i+1))->R (.int r) (upd H p (.lst [.int a',.int b'])))->te (some (.int (lo+i))::rest) H R)
  (hd:∀acc (ns:List Int) a b H,H0 acc=none->H acc=some (.lst (ns.map V.int))->ns.length=n->(∀r∈ns,Rel r)->H p=some (.lst [.int a,.int b])->Gm a b (k+n)->(∀c o,H0 c=some o->c≠p->H c=some o)->Q (.ref acc) H) :
  da (Itr lo n) src (di 0) oh te σ H0 Q:=by
 refine fe (n:=n) (σ0:=none::rest) hσ (λacc i zs σ H=>(∃u,σ=u::rest)/\∃(ns:List Int) (a b:Int),zs=ns.map V.int/\ns.length=i/\(∀r∈ns,Rel r)/\H p=some (.lst [.int a,.int b])/\Gm a b (k+i)/\∀c o,H0 c=some o->c≠p->H c=some o) (by rw[sizeLine_eq];omega) (λacc hacc=>⟨⟨none,rfl⟩,[],a0,b0,rfl,rfl,(λr hr=>nomatch hr),by rw[ar (al hb hacc)];exact hb,hk,λc o e _=>by rw[ar (al e hacc)];exact e⟩) ?_ ?_ ?_ ?_
 ·rintro acc i zs σ H hacc hi hz _;exact hi
 ·rintro acc zs σ H hacc hz _;exact Nat.le_refl _
 ·rintro acc i zs σ H x H' hacc hi hz hzl ⟨⟨u,rfl⟩,ns,a,b,rfl,ln,hr,hp,hbk,kp⟩ ⟨rfl,rfl⟩;have pa:p≠acc:=al hb hacc;refine turn i _ a b _ hi hp hbk λr a' b' rr hb'=>?_
  refine⟨ns.map V.int,by rw[ar pa.symm];exact hz,by rw[length_map,sizeLine_eq];omega,_,FY,by rw[length_append,length_map,length_singleton];omega,⟨_,rfl⟩,ns++[r],a',b',by rw[map_append];rfl,by rw[length_append,ln];rfl,λy hy=>?_,by rw[ar pa,FY],hb',λc o e hc=>by rw[ar (al e hacc),ar hc];exact kp c o e hc⟩
  rcases List.mem_append.mp hy with z|z
  ·exact hr y z
  ·rw[List.mem_singleton.mp z];exact rr
 ·rintro acc zs σ H hacc hz hzl ⟨_,ns,a,b,rfl,ln,hr,hp,hbk,kp⟩;exact hd acc ns a b H hacc hz ln hr hp hbk kp
def Bv:=qE▸qA▸@tY
def vT(K:Frag):Sp:=λvs H Q _=>∃(a:Addr) (ns:List Int),vs=[.ref a]/\SqL K H a (ns.map V.int)/\ns.length<=63/\∀H',Q (.bl true) H'
theorem ym(P:Int)(n:Nat):0<(gS P n).length/\(gS P n).length<100:=by
 unfold gS;rw[length_append,length_append,length_append];have h1:(nX++og++on++ot++oz).length=64:=by decide +kernel
 have h2:(jv n).length<=3:=by unfold jv;split<;>simp
 have h3:(jq n).length<=3:=by unfold jq;split<;>simp
 have h4:(nE P).length<=6:=by unfold nE;split<;>simp
 omega
theorem Gn:FZ ["_law_script", "_law_bag_here", "_law_prime_here", "_law_letters", "_law_ring", "_law_columns", "_law_bad", "_law_handed", "_law_k", "_law_some", "_law_odd", "_law_which", "_law_words", "_law_row"] ["_law_script"] (ah Bj):=.i
set_option maxHeartbeats 4000000 in
theorem DN{f CT CF CR CG Hq:Addr}{fd:FuncData}(F:Fun K "law" "law" Bj f fd)(T:Blt mg)(Ku:FnB P w K mg base 2 "_law_bag" (Dq K))(Ho:FnB P w K mg base 1 "_law_take" mL)(KG:FnB P w K mg base 2 "_law_prime" vy)(J7:FnB P w K mg base 4 "_law_numbers" (AF CF CR))(Lp:Bx P w K mg base 2 CG "Ring" (jG CG Hq))(HI:FnB P w K mg base 1 "_law_bad_sums" uH)(HR:FnB P w K mg base 2 "_law_bad_row" uw)(Jh:FnB P w K mg base 3 "_law_bad_table" zm)(IW:FnB P w K mg base 10 "_law_refused" (Ac K CF CR CG))(HS:cS P w K mg base 7 "read_sum" (rp K CT CF CR CG))(HU:cS P w K mg base 8 "read_row" (sQ K CT CF CR CG)):F2 P w K mg base CX0 11 f fd ["_law_script"] (vT K):=by
 refine F.o Gn λ_ _ _ _ H _ Q _ hr h=>?_
 ·obtain⟨a,ns,rfl,hS,hlen,q⟩:=h;refine exQ ⟨_,(am (aP (i:=1) Gn.nd rfl (Or.inr rfl) (br Ku hr.m (ac (qpv 0) (ac aC ak))))
(am (aP (i:=2) Gn.nd rfl (Or.inl rfl) (br KG hr.m (ac (qpv 1) ak)))
(am (aP (i:=3) Gn.nd rfl (Or.inl rfl) (aJ cN aC (br Ho hr.m (ac (qpv 1) (ac aC ak)))))
(am (aP (i:=4) Gn.nd rfl (Or.inr rfl) (Bv Lp hr.m cj (ac (by exact(br J7 hr.m (ac (qpv 2) ak))) (ac (qpv 3) ak))))
(am (si (i:=5) Gn.nd rfl (Or.inl rfl) (N:=["_law_place", "_law_bag_here"]) (src:=[none,some 1]) rfl rfl rfl (by exact(gE rfl T.range (ac (by exact(aJ cN aC (br Ho hr.m (ac (qpv 1) (ac aC ak))))) ak))) (λ_ _ _=>by exact⟨by exact(cv (i:=0) Fe rfl rfl),bi,by exact(aJ kq (br Ho hr.m (ac (qpv 1) (ac aC ak))) aC)⟩))
(am (aP (i:=6) Gn.nd rfl (Or.inl rfl) (br HI hr.m (ac (qpv 3) (ac (qpv 2) ak))))
(am (aP (i:=7) Gn.nd rfl (Or.inl rfl) (wX K T (qpv 5)))
(am (uZ PassesOwn.never rfl (gE rfl T.range (ac aC ak)) (js (i:=8) Gn.nd rfl (Or.inl rfl))
(am (aP (i:=1) Gn.nd rfl (Or.inr rfl) (br Ku hr.m (ac (qpv 0) (ac (by exact(aJ cN aC (qpv 8))) ak))))
(am (aP (i:=9) Gn.nd rfl (Or.inl rfl) (aO (ac (bX (ay K rfl) (qpv 6) (br Ho hr.m (ac (qpv 1) (ac (by exact(eJ K T (qpv 6))) ak))) (λ_ _=>rfl)) (ac (by exact(br HR hr.m (ac (qpv 3) (ac (qpv 2) (ac (qpv 5) (ac (qpv 1) ak)))))) ak))))
(am (lZ (Fi K rfl (qpv 9) (ac (by exact(br Jh hr.m (ac (qpv 3) (ac (qpv 2) (ac (qpv 5) (ac (qpv 1) ak)))))) ak)))
(am (aP (i:=10) Gn.nd rfl (Or.inl rfl) (bX (ay K rfl) (aO (ac BL (ac yz (ac aC (ac (by exact(aO (ac aq ak))) (ac (by exact(uW (ac aq ak))) (ac (by exact(aO ak)) (ac aC (ac (by exact(uW ak)) ak))))))))) (qpv 8) (λ_ _=>rfl)))
(aU (uZ PassesOwn.never rfl (gE rfl T.range (ac aC ak)) (js (i:=11) Gn.nd rfl (Or.inl rfl))
(aU (cT (PW.pt (fI (cB (vt (br IW hr.m (ac (qpv 11) (ac (qpv 4) (ac (qpv 7) (ac (bX (ay K rfl) (qpv 9) (qpv 11) (λ_ _=>rfl)) ak))))))) (et (cB (vt (br IW hr.m (ac (qpv 11) (ac (qpv 4) (ac (qpv 7) (ac (qpv 10) ak))))))))))
(aU (bP yz))
bJ)))))))))
(am (aP (i:=12) Gn.nd rfl (Or.inl rfl) (aJ bj (aO (ac aq ak)) (by exact f8 (N:=["_law_column"]) (src:=[none]) rfl rfl rfl (by exact(ft K rfl (cw (bu K rfl) (qpv 5) (cV aC) bE))) (λ_ _ _=>by exact⟨by exact(cv (i:=0) rf rfl rfl),bi,by exact aq⟩))))
(am (aP (i:=13) Gn.nd rfl (Or.inl rfl) (vS HU hr.m cj (ac (qpv 4) (ac (qpv 7) (ac (by exact(cQ PySem.F.plainAttrs_str PySem.F.slot_str_join PySem.F.type_str_join bo aq (ac (qpv 12) ak))) ak)))))
(aU (bP (wg (hW (rV K rfl hr.units) (qpv 7) (qpv 5) (ao _)) (wg (hW (rV K rfl hr.units) (qpv 13) (by exact f8 (N:=["_law_word", "_law_ring"]) (src:=[none,some 4]) rfl rfl rfl (by exact(ft K rfl (qpv 12))) (λ_ _ _=>by exact⟨by exact(cv (i:=0) FG rfl rfl),bi,by exact(vS HS hr.m cj (ac (qpv 1) (ac (qpv 0) ak)))⟩)) (ao _)) (Bu (hW (B8 K rfl hr.units) (bX (ay K rfl) (qpv 13) aC (λ_ _=>rfl)) (aO ak) (ao _))))))))))))))))),?_⟩
  refine sq7 λR0 hR0=>?_
  refine⟨_,rfl,a,ns,0,rfl,hS,hlen,by decide,by decide,λp a1 b1 np hb1=>?_⟩
  generalize e0:upd H p _=H1;obtain⟨sp,hp0⟩:=un e0 np;clear e0;refine⟨_,rfl,p,a1,b1,100,rfl,hp0,hb1,by decide,λP a2 b2 H2 hP hp2 hb2 kp2=>?_⟩
  have s2:FX H H2:=λc o e=>kp2 c o (sp _ _ e) (al e np)
  refine⟨_,rfl,p,a2,b2,4,_,rfl,hp2,hb2,by decide,by decide,bg (by decide) (by decide),λr a3 b3 r0 r1 hb3=>⟨_,_,rfl,rfl,?_⟩⟩
  have s3:FX H (upd H2 p (.lst [.int a3,.int b3])):=s2.put np;have hp3:(upd H2 p (.lst [.int a3,.int b3])) p=some (.lst [.int a3,.int b3]):=FY;have hL1:(1:Int)<=1+r:=by omega
  have hL4:1+r<=4:=by omega
  dsimp only;generalize upd H2 p (.lst [.int a3,.int b3])=H3 at *;generalize 1+r=L at *;refine⟨_,rfl,P,rfl,hP,λx H4 s4 hN=>⟨_,rfl,λg dx ng ndx ne=>?_⟩⟩
  refine⟨g,dx,.ref x,L,rfl,FY,λhL=>absurd ⟨hL1,hL4⟩ hL,λ_ _=>⟨rfl,?_⟩⟩
  have s5:FX H4 (upd (upd (upd (upd H4 dx (.own g)) g (.ins CG dx [])) g (.ins CG dx [("kind",.ref x)])) g (.ins CG dx [("kind",.ref x),("width",.int L)])):=λc o e=>by
   have hc:c≠g:=al e ng;rw[ar hc,ar hc,ar hc,ar (al e ndx)];exact e
  have hg5:(upd (upd (upd (upd H4 dx (.own g)) g (.ins CG dx [])) g (.ins CG dx [("kind",.ref x)])) g (.ins CG dx [("kind",.ref x),("width",.int L)])) g=some (.ins CG dx [("kind",.ref x),("width",.int L)]):=FY;generalize upd (upd (upd (upd H4 dx (.own g)) g (.ins CG dx [])) g (.ins CG dx [("kind",.ref x)])) g (.ins CG dx [("kind",.ref x),("width",.int L)])=H5 at *;have s35:=s4.trans s5;have hp5:=s35 _ _ hp3;have hN5:=hN.mono λo e=>s5 _ _ e
  have xp:x≠p:=λz=>by
   rcases hN with⟨_,d,e⟩|⟨_,d,e⟩<;>rw[z,s4 _ _ hp3] at e<;>cases e
  have gp:g≠p:=λz=>by rw[z,hp5] at hg5;cases hg5
  have sH5:FX H H5:=s3.trans s35;refine⟨_,rfl,p,a3,b3,3,_,rfl,hp5,hb3,by decide,by decide,bg (by decide) (by decide),λr6 a6 b6 r60 r61 hb6=>⟨_,_,rfl,rfl,?_⟩⟩
  have kp6:∀d o,H5 d=some o->d≠p->(upd H5 p (.lst [.int a6,.int b6])) d=some o:=λd o e hd=>by rw[ar hd];exact e
  have hp6:(upd H5 p (.lst [.int a6,.int b6])) p=some (.lst [.int a6,.int b6]):=FY;generalize upd H5 p (.lst [.int a6,.int b6])=H6 at *;dsimp only;refine⟨_,rfl,by omega,by omega,xI (n:=(1+r6).toNat) (rest:=[some (.ref p)]) rfl (λr=>r.natAbs<100) (by omega) hp6 hb6 (λi H7 a7 b7 R hi hp7 hb7 hR=>?_) λc cs a7 b7 H7 nc hc ln hr' hp7 hb7 kp7=>?_⟩
  ·exact⟨_,rfl,p,a7,b7,41,_,rfl,hp7,hb7,by omega,by decide,bg (by decide) (by decide),λr8 a8 b8 r80 r81 hb8=>⟨_,_,rfl,rfl,hR _ a8 b8 (by omega) hb8⟩⟩
  have hcs:fY cs:=⟨by omega,by omega,hr'⟩
  have cp:c≠p:=(al hp6 nc).symm;have k57:∀d o,H5 d=some o->d≠p->H7 d=some o:=λd o e hd=>kp7 _ _ (kp6 _ _ e hd) hd
  have hg7:=k57 _ _ hg5 gp;have hN7:F7 CF CR H7 x P:=hN5.mono λo e=>k57 _ _ e xp
  have s7:FX H H7:=λd o e=>k57 d o (sH5 d o e) (al e np)
  refine⟨_,rfl,_,rfl,L,P,rfl,hL1,hL4,hP,λbd H8 nbd s8 hbd=>?_⟩
  have hc8:=s8 _ _ hc;refine⟨_,rfl,c,_,rfl,.inl (SqL.of hc8),λhd nhd=>?_⟩
  generalize e0:upd H8 hd _=H9;obtain⟨s9,hhd9⟩:=un e0 nhd;clear e0;have s79:=s8.trans s9;have hc9:=s79 _ _ hc;have hbd9:=s9 _ _ hbd;have hg9:=s79 _ _ hg7;have hN9:F7 CF CR H9 x P:=hN7.mono λo e=>s79 _ _ e
  have sH9:FX H H9:=s7.trans s79;clear sp s2 s3 s4 s5 s35 kp2 kp6 kp7 k57 s7 s8 s9 s79 hp0 hp2 hp3 hp5 hp6 hp7 hg5 hg7 hN hN5 hN7 hb1 hb2 hb3 hb6 hb7 sH5 nbd nhd nc ng ndx;subst hR0;refine⟨8,rfl,by decide,by decide,mh (n:=8) (λi σ H'=>∃(x1 x8 x9 x10 x11:Option V),σ=[some (.ref a),x1,some (.int P),some (.int L),some (.ref g),some (.ref c),some (.ref bd),some (.ref hd),x8,x9,x10,x11,none,none]/\FX H9 H') ⟨_,_,_,_,_,rfl,FX.refl _⟩ ?_ ?_⟩
  ·rintro i σ H1 hi ⟨x1,x8,x9,x10,x11,rfl,s1⟩ N0 B0 hN0;have hc1:=s1 _ _ hc9;refine⟨_,rfl,_,rfl,_,_,rfl,rfl,a,ns,1+(0+(i:Int)),rfl,(sH9.trans s1).seq hS,hlen,by omega,by omega,λp2 a2 b2 np2 hb2=>?_⟩
   generalize e0:upd H1 p2 _=H2;obtain⟨s2,hp2⟩:=un e0 np2;clear e0;have hbd2:=s2 _ _ (s1 _ _ hbd9);obtain⟨lb,lb2⟩:=ym P L.toNat;refine⟨_,rfl,_,rfl,_,rfl,bd,_,rfl,.inl (SqL.of hbd2),p2,a2,b2,_,_,rfl,hp2,hb2,by decide,by rw[aS];omega,bg (by rw[aS];omega) (by rw[aS];omega),λr a3 b3 r0 r1 hb3=>?_⟩
   obtain⟨j,rfl⟩:=Int.eq_ofNat_of_zero_le r0;obtain⟨v,ev⟩:∃v,(tv (gS P L.toNat))[j]? = some v:=⟨_,getElem?_eq_getElem (by omega)⟩
   obtain⟨b,mb,rfl⟩:=kC ev;have s3:FX H1 (upd H2 p2 (.lst [.int a3,.int b3])):=s2.put np2;have hp3:(upd H2 p2 (.lst [.int a3,.int b3])) p2=some (.lst [.int a3,.int b3]):=FY;generalize upd H2 p2 (.lst [.int a3,.int b3])=H3 at *;have cp2:c≠p2:=al hc1 np2;refine⟨bd,_,_,_,rfl,rfl,SqL.of (s3 _ _ (s1 _ _ hbd9)),aB ev,_,rfl,_,rfl,_,rfl,_,rfl,L,P,c,p2,cs,a3,b3,_,rfl,hL1,hL4,hP,s3 _ _ hc1,hcs.1,hcs.2.1,cp2,hp3,hb3,by decide,λl1 a4 b4 H4 hB1 hp4 hb4 kp4=>?_⟩
   have s4:FX H1 H4:=λd o e=>kp4 d o (s3 d o e) (al e np2)
   refine⟨zl,λso nso=>?_⟩
   have sop:so≠p2:=(al hp4 nso).symm;have s5:=s4.trans (FX.new (o:=.lst [V.str (tx b),V.str (tx l1)]) nso);have h5:(upd H4 so (.lst [V.str (tx b),V.str (tx l1)])) so=some (.lst [V.str (tx b),V.str (tx l1)]):=FY;have hp5:(upd H4 so (.lst [V.str (tx b),V.str (tx l1)])) p2=some (.lst [.int a4,.int b4]):=by rw[ar sop.symm];exact hp4
   have nso1:H1 so=none:=s4.free nso;generalize upd H4 so (.lst [V.str (tx b),V.str (tx l1)])=H5 at *;refine⟨_,rfl,.inl ⟨rfl,_,SqL.of h5⟩,_,rfl,_,rfl,_,rfl,_,rfl,L,P,c,p2,cs,a4,b4,_,rfl,hL1,hL4,hP,s5 _ _ hc1,hcs,cp2,hp5,hb4,by decide,λl2 a6 b6 H6 hB2 hp6 hb6 kp6=>?_⟩
   refine⟨so,_,_,rfl,rfl,kp6 _ _ h5 sop,(by show 2<sizeLine;decide),?_⟩
   have s6:FX H1 H6:=λd o e=>kp6 d o (s5 d o e) (al e np2)
   have s7:FX H1 (upd H6 so (.lst ([V.str (tx b),V.str (tx l1)]++[V.str (tx l2)]))):=s6.put nso1;have h7:(upd H6 so (.lst ([V.str (tx b),V.str (tx l1)]++[V.str (tx l2)]))) so=some (.lst (tv [b,l1,l2])):=FY;generalize upd H6 so (.lst ([V.str (tx b),V.str (tx l1)]++[V.str (tx l2)]))=H7 at *;clear s2 s3 s4 s5 s6 hp2 hp3 hp4 hp5 hp6 h5 kp4 kp6 hbd2 hb2 hb3 hb4 hb6;refine⟨zl,λo1 m1=>?_⟩
   generalize e0:upd H7 o1 _=G1;obtain⟨t1,g1⟩:=un e0 m1;clear e0;refine⟨zl,λo2 m2=>?_⟩
   generalize e0:upd G1 o2 _=G2;obtain⟨t2,g2⟩:=un e0 m2;clear e0;refine⟨Nat.zero_le _,λo3 m3=>?_⟩
   generalize e0:upd G2 o3 _=G3;obtain⟨t3,g3⟩:=un e0 m3;clear e0;refine⟨Nat.zero_le _,λo4 m4=>?_⟩
   generalize e0:upd G3 o4 _=G4;obtain⟨t4,g4⟩:=un e0 m4;clear e0;refine⟨zl,λo5 m5=>?_⟩
   generalize e0:upd G4 o5 _=G5;obtain⟨t5,g5⟩:=un e0 m5;clear e0;have nall:∀H',FX G5 H'->∀v∈[V.non,.bl true,.int 5,.ref o1,.ref o2,.ref o3,.int 0,.ref o4],jW K H' v:=λH' s v hv=>by
    rcases List.mem_cons.mp hv with rfl|hv
    ·exact⟨_,.non,rfl⟩
    rcases List.mem_cons.mp hv with rfl|hv
    ·exact⟨_,.bl _,rfl⟩
    rcases List.mem_cons.mp hv with rfl|hv
    ·exact⟨_,.int _,rfl⟩
    rcases List.mem_cons.mp hv with rfl|hv
    ·exact⟨_,.lst (s _ _ (t5 _ _ (t4 _ _ (t3 _ _ (t2 _ _ g1))))),rfl⟩
    rcases List.mem_cons.mp hv with rfl|hv
    ·exact⟨_,.tup (s _ _ (t5 _ _ (t4 _ _ (t3 _ _ g2)))),rfl⟩
    rcases List.mem_cons.mp hv with rfl|hv
    ·exact⟨_,.lst (s _ _ (t5 _ _ (t4 _ _ g3))),rfl⟩
    rcases List.mem_cons.mp hv with rfl|hv
    ·exact⟨_,.int _,rfl⟩
    ·rw[List.mem_singleton.mp hv];exact⟨_,.tup (s _ _ (t5 _ _ g4)),rfl⟩
   obtain⟨od,eo⟩:∃od,[V.non,.bl true,.int 5,.ref o1,.ref o2,.ref o3,.int 0,.ref o4][i]? = some od:=⟨_,getElem?_eq_getElem hi⟩
   have mo:=mem_of_getElem? eo;have st:=t1.trans (t2.trans (t3.trans (t4.trans t5)));have h8:=st _ _ h7;have sG:FX H9 G5:=s1.trans (s7.trans st);clear t1 t2 t3 t4 t5 g1 g2 g3 g4 st m1 m2 m3 m4 m5 s7 h7;rw[Int.zero_add];refine⟨_,rfl,o5,_,_,_,rfl,rfl,SqL.of g5,aB eo,?_⟩;have hb7:=qK hP hL1 hL4 mb;have hnb:=vj hP hL1 hL4 mb;refine⟨3,rfl,by decide,by decide,mh (n:=3) (λj σ H'=>∃x11:Option V,σ=[some (.ref a),some (.ref p2),some (.int P),some (.int L),some (.ref g),some (.ref c),some (.ref bd),some (.ref hd),some (.int i),some (.ref so),some od,x11,none,none]/\FX G5 H') ⟨_,rfl,FX.refl _⟩ ?_ ?_⟩
   ·rintro j σ H2 hj ⟨y11,rfl,s2⟩ N1 B1 hN1;rw[Int.zero_add];have sel:∃l,(tv [b,l1,l2])[j]? = some (.str (tx l))/\(((j:Int)=0/\(∀c∈l,c<128)/\l.length<=7/\NoS P L l)\/((j:Int)=1/\oB P L cs l)\/((j:Int)≠0/\(j:Int)≠1/\iS l)):=by
     match j,hj with
     |0,_=>exact⟨b,rfl,.inl ⟨rfl,λc hc=>(hb7.2 c hc).1,hb7.1,hnb⟩⟩
     |1,_=>exact⟨l1,rfl,.inr (.inl ⟨rfl,hB1⟩)⟩
     |2,_=>exact⟨l2,rfl,.inr (.inr ⟨by decide,by decide,hB2⟩)⟩
    obtain⟨l,el,hl⟩:=sel;have sG2:=sG.trans s2;refine⟨_,rfl,_,rfl,_,rfl,_,rfl,_,rfl,so,_,_,_,rfl,rfl,SqL.of (s2 _ _ h8),aB el,j,g,x,hd,P,L,cs,_,rfl,hP,⟨dx,sG2 _ _ hg9⟩,hN9.mono λo e=>sG2 _ _ e,hL1,hL4,sG2 _ _ hhd9,.inr ⟨l,rfl,hl⟩,λH3 s3=>⟨true,rfl,bS ?_⟩⟩
    have sG3:=sG2.trans s3;refine⟨_,rfl,_,rfl,_,rfl,_,rfl,j,g,x,hd,P,L,cs,od,rfl,hP,⟨dx,sG3 _ _ hg9⟩,hN9.mono λo e=>sG3 _ _ e,hL1,hL4,sG3 _ _ hhd9,.inl (nall _ (s2.trans s3) od mo),λH4 s4=>⟨true,rfl,bS ?_⟩⟩
    exact hN1 _ _ ⟨_,rfl,s2.trans (s3.trans s4)⟩
   ·rintro σ H2 ⟨y11,rfl,s2⟩;exact hN0 _ _ ⟨_,_,_,_,_,rfl,sG.trans s2⟩
  rintro σ H1 ⟨x1,x8,x9,x10,x11,rfl,s1⟩;have hc1:=s1 _ _ hc9;have n1:=hcs.1;have n3:=hcs.2.1;have lc:(cs.map V.int).length=cs.length:=length_map _;refine⟨zl,λl4 n4=>?_⟩
  generalize e0:upd H1 l4 _=H4;obtain⟨s4,h4⟩:=un e0 n4;have h4:H4 l4=some (.lst (tv [[120]])):=h4;clear e0;refine⟨_,rfl,_,rfl,c,_,rfl,SqL.of (s4 _ _ hc1),λl5 n5=>?_⟩
  rw[show(1:Int)=((1:Nat):Int) from rfl,gf]
  generalize e0:upd H4 l5 _=H5;obtain⟨s5,h5⟩:=un e0 n5;clear e0;have ld:((cs.map V.int).drop 1).length=cs.length-1:=by rw[length_drop,lc]
  refine⟨l5,rfl,⟨_,SqL.of h5⟩,bU (rest:=[]) rfl (λ_=>.str (tx [48])) h5 (by omega) (λi v H6 R hv sm hR=>hR H6 (FX.refl _)) λl6 H6 n6 s6 h6=>?_⟩
  have h6:H6 l6=some (.lst (tv (List.replicate (cs.length-1) [48]))):=by
   rw[h6,ld];unfold tv;rw[map_replicate,map_const',length_range]
  refine⟨l4,l6,_,_,rfl,rfl,s6 _ _ (s5 _ _ h4),h6,by rw[aS,aS,length_replicate,sizeLine_eq];show 1+_<=_;omega,λl7 n7=>?_⟩
  rw[dA,show[[120]]++List.replicate (cs.length-1) [48]=bY cs.length from rfl]
  have s7:=s1.trans (s4.trans (s5.trans (s6.trans (FX.new (o:=.lst (tv (bY cs.length))) n7))));have h7:(upd H6 l7 (.lst (tv (bY cs.length)))) l7=some (.lst (tv (bY cs.length))):=FY;generalize upd H6 l7 (.lst (tv (bY cs.length)))=H7 at *;clear s4 s5 s6 h4 h5 h6 n4 n5 n6 n7;have lwG:(bY cs.length).length=cs.length:=by unfold bY;rw[length_cons,length_replicate];omega
  have wc:∀w∈bY cs.length,w.length<=7/\∀c∈w,c<128:=λw hw=>by
   rcases iJ w hw with rfl|rfl<;>exact⟨by decide,by decide⟩
  refine⟨_,rfl,_,rfl,rfl,_,rfl,_,l7,_,rfl,rfl,hv h7,eM (by decide +kernel) (λw hw=>by have:=(wc w hw).1;omega) (by omega),?_⟩
  rw[jm];have gl:=fj 44 32 (B:=7) (bY cs.length) λw hw=>(wc w hw).1
  rw[lwG] at gl;refine⟨g,x,hd,P,L,cs,_,rfl,.inr ⟨aN 44 32 (bY cs.length),rfl,hP,⟨dx,s7 _ _ hg9⟩,hN9.mono λo e=>s7 _ _ e,by omega,hL4,s7 _ _ hhd9,λc hc=>?_,by omega,by rw[fK];omega,by rw[fK];exact λw hw=>(wc w hw).1,λz=>absurd z (DH hP hL1 hL4 n1),λrow hw er hB d es H8 nd s8 hd8 pe=>?_⟩⟩
  ·rcases lF hc with z|z|⟨w,hw,z⟩
   ·omega
   ·omega
   ·exact(wc w hw).2 c z
  rw[fK] at er;have erow:=Ax hL1 hL4 hw er;subst erow;have s78:=s7.trans s8;refine⟨_,rfl,_,rfl,dL cs,dL cs,o7 (s78 _ _ hhd9),o7 (s78 _ _ hc9),fq _,fq _,_,rfl,?_⟩;rw[ul,decide_eq_true rfl];refine bC ?_;have l7t:(tv (bY cs.length)).length<=60:=by rw[aS,lwG];omega
  refine⟨_,rfl,_,rfl,l7,rfl,⟨_,SqL.of (s8 _ _ h7)⟩,oZ (P:=P) (rest:=[some (.ref g)]) rfl (λi e=>(gQ L.toNat cs.length)[i]? = some e) (s8 _ _ h7) l7t (λi v H9' R hv s9 hR=>?_) λacc es2 row2 H9' nacc s9 hacc pe2 le2 rel=>?_⟩
  ·obtain⟨w,mw,rfl⟩:=kC hv;have ew:(bY cs.length)[i]? = some w:=by
    unfold tv at hv;rw[getElem?_map] at hv;cases e:(bY cs.length)[i]? with
    |none=>rw[e] at hv;exact nomatch hv
    |some u=>
     rw[e] at hv;injection hv with hv
     injection hv with hv
     rw[Gs.mp hv]
   have s79:=s78.trans s9;refine⟨_,rfl,_,rfl,g,x,P,L,_,rfl,.inr ⟨w,rfl,hP,⟨dx,s79 _ _ hg9⟩,hN9.mono λo e=>s79 _ _ e,by omega,hL4,(wc w mw).2,(wc w mw).1,λz=>absurd z ?_,λps hw es d rs H3 nd s3 hd pr=>hR d rs ps H3 s3 nd hd pr (vR hL1 hL4 hw (by rw[ew,es]))⟩⟩
   rcases iJ w mw with rfl|rfl
   ·exact zC hP (by omega) (by omega)
   ·exact y3
  ·have er2:row2=gQ L.toNat cs.length:=by
    have lG:(gQ L.toNat cs.length).length=cs.length:=by unfold gQ;rw[length_cons,length_replicate];omega
    rw[aS,lwG] at le2;refine ext_getElem? λi=>?_
    cases h':row2[i]? with
    |some e=>exact(rel i e h').symm
    |none=>
     have:=List.getElem?_eq_none_iff.mp h';exact(getElem?_eq_none (by omega)).symm
   subst er2;have pe8:=bf (λ_ _ z=>EntF.ent z) pe
   refine⟨dR P (gQ L.toNat cs.length),dR P (gQ L.toNat cs.length),CZ (s9 _ _ hd8) (bf (λ_ _ z=>z.same s9) pe8),CZ hacc (bf (λ_ _ z=>z.ent) pe2),(uL P _).sh (by decide),(uL P _).sh (by decide),_,rfl,?_⟩
   rw[Ah (uL P _)];refine bC ?_;obtain⟨v0,ev0,l0,ts0,rfl,hl0,pr0⟩:∃v0,es[0]? = some v0/\EntR P H8 v0 (xS L.toNat):=by
    cases pe8 with
    |cons h1 _=>exact⟨_,rfl,h1⟩
   refine⟨_,rfl,d,_,_,_,rfl,rfl,SqL.of (s9 _ _ hd8),aB ev0,Nat.zero_le _,λl10 n10=>?_⟩
   generalize e0:upd H9' l10 _=H10;obtain⟨s10,h10⟩:=un e0 n10;clear e0;have s810:=s9.trans s10;refine⟨dS P (xS L.toNat),dS P [],ir (s810 _ _ hl0) (pr0.mono λt xs e=>s810 _ _ e),ir h10 .nil,cm _ _,cm _ _,?_⟩
   rw[lM,decide_eq_false (by unfold xS;simp)]
   exact q _
theorem jc:FZ ["self"] ["self"] (ah bL):=.i
theorem DL{f:Addr}{fd:FuncData}(F:Fun K "prime" "Fractions.prime" bL f fd):F2 P w K mg base CX0 1 f fd ["self"] pR:=by
 refine F.o jc λ_ _ _ _ H _ Q _ hr h=>?_
 ·obtain⟨x,rfl,q⟩:=h;exact⟨_,(aj (au ag)),q⟩
theorem mH:FZ ["self"] ["self"] (ah cK):=.i
theorem Eu{f CR:Addr}{fd:FuncData}(F:Fun K "prime" "Rests.prime" cK f fd)(cl:Cls K CR)(nM:Gk K CR "modulus"):F2 P w K mg base CX0 1 f fd ["self"] (ph CR):=by
 refine F.o mH λ_ _ _ _ H _ Q _ hr h=>?_
 ·obtain⟨x,dx,p,rfl,hx,q⟩:=h;exact⟨_,(aj (au (gJ (pv 0) rfl))),⟨_,rfl,x,CR,dx,_,_,rfl,hx,cl,nM,rfl,q⟩⟩
set_option maxHeartbeats 4000000 in
theorem all_mk{l:PySem.W.OpenLaw}{w:World}{K:Frag}{h:Heap}{mg:Str->Option Value}{fa:Addr}(X:K.In h)(G:h.Ns mainGlobals mg)(hfa:mg "law"=some (.ref fa))
  (d0:F3 K "is_whole_number" dG) (d1:F3 K "is_pair" jQ) (d2:F3 K "is_prime" i3) (d3:F3 K "greatest_divisor" dw) (d4:F3 K "inverse" kh) (d5:F3 K "is_product" gw) (d6:F3 K "degree" mZ) (d7:F3 K "height" nn) (d8:F3 K "is_above" iR) (d9:F3 K "is_sum" mY) (d10:F3 K "is_part" j8) (d11:F3 K "sum_of" nF) (d12:F3 K "is_level" iY) (d13:F3 K "level" qT) (d14:F3 K "is_row" mR) (d15:F3 K "is_table" iU) (d16:F3 K "entry_levels" fH) (d17:F3 K "row_level" hV) (d18:F3 K "show_sum" iW) (d19:F3 K "show_row" i0) (d20:F3 K "show_table" gr) (d21:F3 K "show_ring" ib) (d22:F3 K "is_below_nought" dI) (d23:F3 K "without_sign" fF) (d24:F3 K "show_part" ik) (d25:F3 K "show_number" fV) (d26:F3 K "show_fraction" eO) (d27:F3 K "show_product" fG) (d28:F3 K "read_sum" i4) (d29:F3 K "read_row" iT) (d30:F3 K "read_table" gi) (d31:F3 K "check_text" gh) (d32:F3 K "check_written" eW) (d33:F3 K "rough_ring" gs) (d34:F3 K "rough_columns" eP) (d35:F3 K "is_figures" gD) (d36:F3 K "is_whole_text" eT) (d37:F3 K "rough_sum" im) (d38:F3 K "rough_part" gK) (d39:F3 K "letter_number" eV) (d40:F3 K "rough_number" fB) (d41:F3 K "rough_figures" eR) (d42:F3 K "_law_cell" ii) (d43:F3 K "_law_bag" jb) (d44:F3 K "_law_take" ia) (d45:F3 K "_law_is_prime" eS) (d46:F3 K "_law_prime" gn) (d47:F3 K "_law_numbers" fz) (d48:F3 K "_law_bad_sums" eQ) (d49:F3 K "_law_bad_row" fD) (d50:F3 K "_law_heads" gz) (d51:F3 K "_law_other_columns" cY) (d52:F3 K "_law_bad_table" dW) (d53:F3 K "_law_class" gu) (d54:F3 K "_law_refused" fv) (d55:F3 K "law" Bj)
  {Hm:Addr} (Kl:nsIn K mainGlobals "Fractions"=some (some (.ref Hm))) (Km:plainGet K Hm Str.empty=true) (Kn:hasDictIn K Hm=true) (Ko:plainOver K Hm=true) (Kp:findIn K (.ref Hm) "__setattr__"=some (some (.builtin "object.__setattr__"))) (Ji:makesIn K Hm=true) (Jj:keepIn K (.ref Hm)=true)
  (Jk:findIn K (.ref Hm) "__init__"=some (some (.builtin "object.__init__")))
  {HD:Addr} {Lz LA:Option Addr} {LC:Array (Option Value)} {LD LF LG LH JY LI:Value}
  (IB:findIn K (.ref Hm) "prime"=some (some (.ref HD))) (IC:isFn K (.ref HD)=true) (IL:K.lookup HD=some ⟨LD,Lz,.func (fnOf "prime" "Fractions.prime" (aY bL) (aQ bL) (ah bL) .none LF LG LH LA JY LI),LC⟩) (IM:codeIn K JY "Fractions.prime"=true) (HY:keepIn K (.ref HD)=true)
  {Hw:Addr} {KH KI:Option Addr} {KJ:Array (Option Value)} {KL KM KN KO IU KP:Value}
  (HW:findIn K (.ref Hm) "is_number"=some (some (.ref Hw))) (HX:isFn K (.ref Hw)=true) (Ie:K.lookup Hw=some ⟨KL,KH,.func (fnOf "is_number" "Fractions.is_number" (aY bc) (aQ bc) (ah bc) .none KM KN KO KI IU KP),KJ⟩) (Ig:codeIn K IU "Fractions.is_number"=true) (HC:keepIn K (.ref Hw)=true)
  {Ix:Addr} {Mf:Value} {Mg:Option Addr} {Kq:Tok} {M6:Nat} {MK:Array (Option Value)}
  {Ih:Addr} {M7 Jl:Option Addr} {M8:Array (Option Value)} {M9 Jm Jn Jo Iy Jp:Value}
  (Jq:findIn K (.ref Hm) "of"=some (some (.ref Ih))) (Jr:isFn K (.ref Ih)=true) (JK:K.lookup Ih=some ⟨M9,M7,.func (fnOf "of" "Fractions.of" (aY aV) (aQ aV) (ah aV) (.ref Ix) Jm Jn Jo Jl Iy Jp),M8⟩) (JL:codeIn K Iy "Fractions.of"=true) (II:keepIn K (.ref Ih)=true)
  (Iz:K.lookup Ix=some ⟨Mf,Mg,.seq #[.int 1 Kq] M6,MK⟩)
  {HK:Addr} {Mh Mi:Option Addr} {Mj:Array (Option Value)} {Ml Mm Mn Mo Ke Mp:Value}
  (IN:findIn K (.ref Hm) "plus"=some (some (.ref HK))) (IP:isFn K (.ref HK)=true) (Ja:K.lookup HK=some ⟨Ml,Mh,.func (fnOf "plus" "Fractions.plus" (aY bW) (aQ bW) (ah bW) .none Mm Mn Mo Mi Ke Mp),Mj⟩) (Jb:codeIn K Ke "Fractions.plus"=true) (Im:keepIn K (.ref HK)=true)
  {HE:Addr} {LJ LK:Option Addr} {LL:Array (Option Value)} {LN LO LP LQ JZ LR:Value}
  (ID:findIn K (.ref Hm) "times"=some (some (.ref HE))) (IE:isFn K (.ref HE)=true) (IQ:K.lookup HE=some ⟨LN,LJ,.func (fnOf "times" "Fractions.times" (aY bN) (aQ bN) (ah bN) .none LO LP LQ LK JZ LR),LL⟩) (IR:codeIn K JZ "Fractions.times"=true) (HZ:keepIn K (.ref HE)=true)
  {Hn:Addr} (ML:nsIn K mainGlobals "Rests"=some (some (.ref Hn))) (MM:plainGet K Hn Str.empty=true) (MN:hasDictIn K Hn=true) (MO:plainOver K Hn=true) (MP:findIn K (.ref Hn) "__setattr__"=some (some (.builtin "object.__setattr__"))) (MQ:makesIn K Hn=true) (MR:keepIn K (.ref Hn)=true)
  (Ht:findIn K (.ref Hn) "modulus"=some none)
  {HL:Addr} {Mq Mr:Option Addr} {Ms:Array (Option Value)} {Mt Mu Mv Mw Kg Mx:Value}
  (Ia:findIn K (.ref Hn) "__init__"=some (some (.ref HL))) (Ib:isFn K (.ref HL)=true) (Jc:K.lookup HL=some ⟨Mt,Mq,.func (fnOf "__init__" "Rests.__init__" (aY bV) (aQ bV) (ah bV) .none Mu Mv Mw Mr Kg Mx),Ms⟩) (Jd:codeIn K Kg "Rests.__init__"=true) (Io:keepIn K (.ref HL)=true)
  {Is:Addr} {ND NE:Option Addr} {NF:Array (Option Value)} {NG NH NI NJ La NK:Value}
  (JM:findIn K (.ref Hn) "prime"=some (some (.ref Is))) (JN:isFn K (.ref Is)=true) (J8:K.lookup Is=some ⟨NG,ND,.func (fnOf "prime" "Rests.prime" (aY cK) (aQ cK) (ah cK) .none NH NI NJ NE La NK),NF⟩) (J9:codeIn K La "Rests.prime"=true) (IX:keepIn K (.ref Is)=true)
  {HF:Addr} {LS LU:Option Addr} {LV:Array (Option Value)} {LW LX LY LZ J0 L0:Value}
  (IF:findIn K (.ref Hn) "is_number"=some (some (.ref HF))) (IG:isFn K (.ref HF)=true) (IS:K.lookup HF=some ⟨LW,LS,.func (fnOf "is_number" "Rests.is_number" (aY bM) (aQ bM) (ah bM) .none LX LY LZ LU J0 L0),LV⟩) (IT:codeIn K J0 "Rests.is_number"=true) (Ic:keepIn K (.ref HF)=true)
  {JV:Addr} {Oa:Value} {Ob:Option Addr} {L4:Tok} {Oz:Nat} {Ou:Array (Option Value)}
  {Js:Addr} {OA KQ:Option Addr} {OB:Array (Option Value)} {OC KR KS KU JW KW:Value}
  (KY:findIn K (.ref Hn) "of"=some (some (.ref Js))) (KZ:isFn K (.ref Js)=true) (Lr:K.lookup Js=some ⟨OC,OA,.func (fnOf "of" "Rests.of" (aY bR) (aQ bR) (ah bR) (.ref JV) KR KS KU KQ JW KW),OB⟩) (Ls:codeIn K JW "Rests.of"=true) (Kh:keepIn K (.ref Js)=true)
  (JX:K.lookup JV=some ⟨Oa,Ob,.seq #[.int 1 L4] Oz,Ou⟩)
  {IH:Addr} {Oc Od:Option Addr} {Oe:Array (Option Value)} {Of Og Oh Oi Lu Oj:Value}
  (Ka:findIn K (.ref Hn) "plus"=some (some (.ref IH))) (Kb:isFn K (.ref IH)=true) (Kr:K.lookup IH=some ⟨Of,Oc,.func (fnOf "plus" "Rests.plus" (aY cZ) (aQ cZ) (ah cZ) .none Og Oh Oi Od Lu Oj),Oe⟩) (Ks:codeIn K Lu "Rests.plus"=true) (Jt:keepIn K (.ref IH)=true)
  {Iu:Addr} {NL NM:Option Addr} {NN:Array (Option Value)} {NO NP NQ NR Lb NS:Value}
  (JO:findIn K (.ref Hn) "times"=some (some (.ref Iu))) (JP:isFn K (.ref Iu)=true) (Kc:K.lookup Iu=some ⟨NO,NL,.func (fnOf "times" "Rests.times" (aY cL) (aQ cL) (ah cL) .none NP NQ NR NM Lb NS),NN⟩) (Kd:codeIn K Lb "Rests.times"=true) (IY:keepIn K (.ref Iu)=true)
  {Hs:Addr} (NT:nsIn K mainGlobals "Ring"=some (some (.ref Hs))) (NU:plainGet K Hs Str.empty=true) (NV:hasDictIn K Hs=true) (NW:plainOver K Hs=true) (NX:findIn K (.ref Hs) "__setattr__"=some (some (.builtin "object.__setattr__"))) (NY:makesIn K Hs=true) (NZ:keepIn K (.ref Hs)=true)
  (Ju:findIn K (.ref Hs) "kind"=some none)
  (IZ:findIn K (.ref Hs) "width"=some none)
  {HV:Addr} {MS MT:Option Addr} {MU:Array (Option Value)} {MV MW MX MY Kt MZ:Value}
  (Ip:findIn K (.ref Hs) "__init__"=some (some (.ref HV))) (Iq:isFn K (.ref HV)=true) (Jv:K.lookup HV=some ⟨MV,MS,.func (fnOf "__init__" "Ring.__init__" (aY cb) (aQ cb) (ah cb) .none MW MX MY MT Kt MZ),MU⟩) (Jw:codeIn K Kt "Ring.__init__"=true) (IA:keepIn K (.ref HV)=true)
  {Ii:Addr} {Na Nb:Option Addr} {Nc:Array (Option Value)} {Nd Nf Ng Nh Kv Ni:Value}
  (Jx:findIn K (.ref Hs) "numbers"=some (some (.ref Ii))) (Jy:isFn K (.ref Ii)=true) (JQ:K.lookup Ii=some ⟨Nd,Na,.func (fnOf "numbers" "Ring.numbers" (aY cq) (aQ cq) (ah cq) .none Nf Ng Nh Nb Kv Ni),Nc⟩) (JR:codeIn K Kv "Ring.numbers"=true) (IJ:keepIn K (.ref Ii)=true)
  {Ij:Addr} {Nj Nk:Option Addr} {Nl:Array (Option Value)} {Nm No Np Nq Kw Nr:Value}
  (Jz:findIn K (.ref Hs) "letters"=some (some (.ref Ij))) (JA:isFn K (.ref Ij)=true) (JS:K.lookup Ij=some ⟨Nm,Nj,.func (fnOf "letters" "Ring.letters" (aY cC) (aQ cC) (ah cC) .none No Np Nq Nk Kw Nr),Nl⟩) (JT:codeIn K Kw "Ring.letters"=true) (IK:keepIn K (.ref Ij)=true)
  {Ir:Addr} (JU:nsIn K mainGlobals "LadderError"=some (some (.ref Ir)))
  {Hl:Addr} (K0:nsIn K mainGlobals "NoNumber"=some (some (.ref Hl)))
  (K1:excIn K Hl kz "ValueError.__new__"=true) (K2:findIn K (.ref Hl) "__getattribute__"=some (some (.builtin "BaseException.__getattribute__"))) (K3:findIn K (.ref Hl) "__getattr__"=some none) (K4:findIn K (.ref Hl) "__class__"=some (some (.builtin "object.__class__"))) (K5:mroIn K Hl (.type "object")=some true) (K6:mroIn K Hl (.type "BaseException")=some true) (K7:specialIn K (.builtin "object.__class__") "__get__"=some (some (.builtin "getset_descriptor.__get__"))) (K8:takesIn K (.builtin "object.__class__")=some true)
  {Hq:Addr} (L5:nsIn K mainGlobals "NoRing"=some (some (.ref Hq)))
  (L6:excIn K Hq kz "ValueError.__new__"=true) (L7:findIn K (.ref Hq) "__getattribute__"=some (some (.builtin "BaseException.__getattribute__"))) (L8:findIn K (.ref Hq) "__getattr__"=some none) (L9:findIn K (.ref Hq) "__class__"=some (some (.builtin "object.__class__"))) (Ma:mroIn K Hq (.type "object")=some true) (Mb:mroIn K Hq (.type "BaseException")=some true) (Mc:specialIn K (.builtin "object.__class__") "__get__"=some (some (.builtin "getset_descriptor.__get__"))) (Md:takesIn K (.builtin "object.__class__")=some true)
  {C_NoText:Addr} (aC_NoText:nsIn K mainGlobals "NoText"=some (some (.ref C_NoText)))
  (ek_NoText:excIn K C_NoText kz "ValueError.__new__"=true) (ga_NoText:findIn K (.ref C_NoText) "__getattribute__"=some (some (.builtin "BaseException.__getattribute__"))) (gt_NoText:findIn K (.ref C_NoText) "__getattr__"=some none) (ca_NoText:findIn K (.ref C_NoText) "__class__"=some (some (.builtin "object.__class__"))) (mo_NoText:mroIn K C_NoText (.type "object")=some true) (mb_NoText:mroIn K C_NoText (.type "BaseException")=some true) (dg_NoText:specialIn K (.builtin "object.__class__") "__get__"=some (some (.builtin "getset_descriptor.__get__"))) (dt_NoText:takesIn K (.builtin "object.__class__")=some true)
  {JJ:Addr} (Me:nsIn K mainGlobals "NoPart"=some (some (.ref JJ)))
  {Kk:Addr} (M0:nsIn K mainGlobals "NoRow"=some (some (.ref Kk)))
  {C_NoRung:Addr} (aC_NoRung:nsIn K mainGlobals "NoRung"=some (some (.ref C_NoRung)))
  {C_NoRelation:Addr} (aC_NoRelation:nsIn K mainGlobals "NoRelation"=some (some (.ref C_NoRelation)))
  {C_NoMap:Addr} (aC_NoMap:nsIn K mainGlobals "NoMap"=some (some (.ref C_NoMap)))
  {C_NoTurn:Addr} (aC_NoTurn:nsIn K mainGlobals "NoTurn"=some (some (.ref C_NoTurn)))
  {C_NoName:Addr} (aC_NoName:nsIn K mainGlobals "NoName"=some (some (.ref C_NoName)))
  {C_TooMany:Addr} (aC_TooMany:nsIn K mainGlobals "TooMany"=some (some (.ref C_TooMany)))
  (ml:PySem.W.exmOne K (.ref C_NoText) (.ref Ir)=some true)
  (kv:kitOne K (.ref C_NoText) (.type "ValueError")=some true)
  (ko1:kitOne K (.ref C_NoText) (.ref Hl)=some false)
  (ko2:kitOne K (.ref C_NoText) (.ref Hq)=some false)
  (ko3:kitOne K (.ref C_NoText) (.ref JJ)=some false)
  (ko4:kitOne K (.ref C_NoText) (.ref Kk)=some false)
  (ko5:kitOne K (.ref C_NoText) (.ref C_NoRung)=some false)
  (ko6:kitOne K (.ref C_NoText) (.ref C_NoRelation)=some false)
  (ko7:kitOne K (.ref C_NoText) (.ref C_NoMap)=some false)
  (ko8:kitOne K (.ref C_NoText) (.ref C_NoTurn)=some false)
  (ko9:kitOne K (.ref C_NoText) (.ref C_NoName)=some false)
  (ko10:kitOne K (.ref C_NoText) (.ref C_TooMany)=some false)
  (zn_str:nsIn K mainGlobals "str"=some none)
  (zn_set:nsIn K mainGlobals "set"=some none)
  (zn_ValueError:nsIn K mainGlobals "ValueError"=some none)
  {N2:Tok} (Iv:nsIn K mainGlobals "LEAST_PRIME"=some (some (.int 2 N2)))
  {My:Tok} (HM:nsIn K mainGlobals "GREATEST_PRIME"=some (some (.int 9973 My)))
  {Nt:Tok} (HJ:nsIn K mainGlobals "MOST_LETTERS"=some (some (.int 4 Nt)))
  {Nu:Tok} (Ik:nsIn K mainGlobals "MOST_COLUMNS"=some (some (.int 3 Nu)))
  {tk_LETTERS:Tok} (g_LETTERS:nsIn K mainGlobals "LETTERS"=some (some (.str "xyzw" tk_LETTERS)))
  {tk_FIGURES:Tok} (g_FIGURES:nsIn K mainGlobals "FIGURES"=some (some (.str "0123456789" tk_FIGURES)))
  (z0:nsIn K mainGlobals "len"=some none) (z1:nsIn K mainGlobals "range"=some none) (z2:nsIn K mainGlobals "zip"=some none) (z3:nsIn K mainGlobals "all"=some none) (z4:nsIn K mainGlobals "sum"=some none) (z5:nsIn K mainGlobals "max"=some none) (z6:nsIn K mainGlobals "min"=some none) (z7:nsIn K mainGlobals "abs"=some none) (z8:nsIn K mainGlobals "tuple"=some none) (z9:nsIn K mainGlobals "list"=some none) (z10:nsIn K mainGlobals "int"=some none) (z11:nsIn K mainGlobals "bool"=some none) (z12:nsIn K mainGlobals "isinstance"=some none) (z13:nsIn K mainGlobals "enumerate"=some none) (z14:nsIn K mainGlobals "sorted"=some none) (z15:nsIn K mainGlobals "set"=some none) (z16:nsIn K mainGlobals "str"=some none) :
  ∃fd:FuncData,(∀(s:Shared) (v:Value),BindsTo s fd ⟨[v],[]⟩ [("_law_script",v)])/\∀base:Heap,K.In base->base.Ns mainGlobals mg->F2 l.prog w K mg base CX0 11 fa fd ["_law_script"] (vT K):=by
 have T:Blt mg:=⟨mg_none_of X G z0,mg_none_of X G z1,mg_none_of X G z2,mg_none_of X G z3,mg_none_of X G z4,mg_none_of X G z5,mg_none_of X G z6,mg_none_of X G z7,mg_none_of X G z8,mg_none_of X G z9,mg_none_of X G z10,mg_none_of X G z11,mg_none_of X G z12,mg_none_of X G z13,mg_none_of X G z14,mg_none_of X G z15,mg_none_of X G z16⟩;refine d55.law X G hfa λ{_} {base} F55 _ _=>?_
 have M {k n sp} (h:FnB l.prog w K mg base k n sp):=h;have Il:Cls K Hm:=⟨Km,Kn,Ko,Kp⟩;have MI:=mg_of X G Kl;have Mz:=eh (st:=bL) IL IM HY;have MA:=Mz.binds (ps:=["self"]) λ_ _ _ _ _ _ us hl=>match us,hl with|[_],_=>rfl
 have MB:gB K Hm "prime" HD:=⟨IB,IC,HY⟩;have Lc:=eh (st:=bc) Ie Ig HC;have Ld:=Lc.binds (ps:=["self", "thing"]) λ_ _ _ _ _ _ us hl=>match us,hl with|[_,_],_=>rfl
 have Le:gB K Hm "is_number" Hw:=⟨HW,HX,HC⟩;have Lf:=vB (st:=aV) JK JL II;have N3:Gf K (fnOf "of" "Fractions.of" (aY aV) (aQ aV) (ah aV) (.ref Ix) Jm Jn Jo Jl Iy Jp) ["self", "top", "bottom"] []:=λs us X hl=>match us,hl with|[_,_,_],_=>BindsTo.of_defaults rfl (X _ _ Iz) rfl rfl rfl
 have Nv:Gf K (fnOf "of" "Fractions.of" (aY aV) (aQ aV) (ah aV) (.ref Ix) Jm Jn Jo Jl Iy Jp) ["self", "top", "bottom"] [.int 1 Kq]:=λs us X hl=>by
  obtain⟨z1,z2,rfl⟩:=Ab hl;exact BindsTo.of_defaults rfl (X _ _ Iz) rfl rfl rfl
 have Lg:gB K Hm "of" Ih:=⟨Jq,Jr,II⟩;have M1:=eh (st:=bW) Ja Jb Im;have M2:=M1.binds (ps:=["self", "one", "other"]) λ_ _ _ _ _ _ us hl=>match us,hl with|[_,_,_],_=>rfl
 have M3:gB K Hm "plus" HK:=⟨IN,IP,Im⟩;have MC:=eh (st:=bN) IQ IR HZ;have MD:=MC.binds (ps:=["self", "one", "other"]) λ_ _ _ _ _ _ us hl=>match us,hl with|[_,_,_],_=>rfl
 have ME:gB K Hm "times" HE:=⟨ID,IE,HZ⟩;have Hz:Cls K Hn:=⟨MM,MN,MO,MP⟩;have OO:=mg_of X G ML;have M4:=eh (st:=bV) Jc Jd Io;have M5:=M4.binds (ps:=["self", "prime"]) λ_ _ _ _ _ _ us hl=>match us,hl with|[_,_],_=>rfl
 have OK:gB K Hn "__init__" HL:=⟨Ia,Ib,Io⟩;have Ol:=eh (st:=cK) J8 J9 IX;have Om:=Ol.binds (ps:=["self"]) λ_ _ _ _ _ _ us hl=>match us,hl with|[_],_=>rfl
 have On:gB K Hn "prime" Is:=⟨JM,JN,IX⟩;have MF:=eh (st:=bM) IS IT Ic;have MG:=MF.binds (ps:=["self", "thing"]) λ_ _ _ _ _ _ us hl=>match us,hl with|[_,_],_=>rfl
 have MH:gB K Hn "is_number" HF:=⟨IF,IG,Ic⟩;have Nw:=vB (st:=bR) Lr Ls Kh;have OE:Gf K (fnOf "of" "Rests.of" (aY bR) (aQ bR) (ah bR) (.ref JV) KR KS KU KQ JW KW) ["self", "top", "bottom"] []:=λs us X hl=>match us,hl with|[_,_,_],_=>BindsTo.of_defaults rfl (X _ _ JX) rfl rfl rfl
 have OD:Gf K (fnOf "of" "Rests.of" (aY bR) (aQ bR) (ah bR) (.ref JV) KR KS KU KQ JW KW) ["self", "top", "bottom"] [.int 1 L4]:=λs us X hl=>by
  obtain⟨z1,z2,rfl⟩:=Ab hl;exact BindsTo.of_defaults rfl (X _ _ JX) rfl rfl rfl
 have Nx:gB K Hn "of" Js:=⟨KY,KZ,Kh⟩;have Ov:=eh (st:=cZ) Kr Ks Jt;have Ow:=Ov.binds (ps:=["self", "one", "other"]) λ_ _ _ _ _ _ us hl=>match us,hl with|[_,_,_],_=>rfl
 have Ox:gB K Hn "plus" IH:=⟨Ka,Kb,Jt⟩;have Oo:=eh (st:=cL) Kc Kd IY;have Op:=Oo.binds (ps:=["self", "one", "other"]) λ_ _ _ _ _ _ us hl=>match us,hl with|[_,_,_],_=>rfl
 have Oq:gB K Hn "times" Iu:=⟨JO,JP,IY⟩;have Lh:Cls K Hs:=⟨NU,NV,NW,NX⟩;have OQ:=mg_of X G NT;have Ny:=eh (st:=cb) Jv Jw IA;have Nz:=Ny.binds (ps:=["self", "numbers", "letters"]) λ_ _ _ _ _ _ us hl=>match us,hl with|[_,_,_],_=>rfl
 have ON:gB K Hs "__init__" HV:=⟨Ip,Iq,IA⟩;have N4:=eh (st:=cq) JQ JR IJ;have N5:=N4.binds (ps:=["self"]) λ_ _ _ _ _ _ us hl=>match us,hl with|[_],_=>rfl
 have N6:gB K Hs "numbers" Ii:=⟨Jx,Jy,IJ⟩;have N7:=eh (st:=cC) JS JT IK;have N8:=N7.binds (ps:=["self"]) λ_ _ _ _ _ _ us hl=>match us,hl with|[_],_=>rfl
 have N9:gB K Hs "letters" Ij:=⟨Jz,JA,IK⟩;have Os:=mg_of X G JU;have JB:=mg_of X G K0;have Ki:XCl K Hl:=⟨K1,K2,K3,K4,K5,K6,K7,K8⟩;have Oy:=mg_of X G L5;have OL:XCl K Hq:=⟨L6,L7,L8,L9,Ma,Mb,Mc,Md⟩;have A_NoText:=mg_of X G aC_NoText;have x_NoText:XCl K C_NoText:=⟨ek_NoText,ga_NoText,gt_NoText,ca_NoText,mo_NoText,mb_NoText,dg_NoText,dt_NoText⟩;have OM:=mg_of X G Me;have OP:=mg_of X G M0;have A_NoRung:=mg_of X G aC_NoRung;have A_NoRelation:=mg_of X G aC_NoRelation;have A_NoMap:=mg_of X G aC_NoMap;have A_NoTurn:=mg_of X G aC_NoTurn;have A_NoName:=mg_of X G aC_NoName;have A_TooMany:=mg_of X G aC_TooMany;have n_str:=mg_none_of X G zn_str;have n_set:=mg_none_of X G zn_set;have n_ValueError:=mg_none_of X G zn_ValueError;have Iv:=mg_of X G Iv;have HM:=mg_of X G HM;have HJ:=mg_of X G HJ;have Ik:=mg_of X G Ik;have g_LETTERS:=mg_of X G g_LETTERS;have g_FIGURES:=mg_of X G g_FIGURES;have Li:=M (d42.fb X G λF=>CB F T)
 have Ku:=M (d43.fb X G λF=>EY F Li)
 have Ho:=M (d44.fb X G λF=>Cb F)
 have JC:=M (d45.fb X G λF=>sw F T)
 have KG:=M (d46.fb X G λF=>AB F Ho JC)
 have Je:=M (d2.fb X G λF=>uk F Iv HM)
 have Hv:=M (d3.fb X G λF=>D1 F T)
 have Lk:=M (d4.fb X G λF=>uJ F)
 have HG:=M (d6.fb X G λF=>wR F T)
 have JD:=M (d7.fb X G λF=>xB F HG)
 have Lv:=M (d8.fb X G λF=>zG F JD)
 have K9:MkB l.prog w K mg base 2 Hn "Rests" (lL Hn):=⟨⟨_,_,_,yU M4 Hz Ht Je,⟨MQ,Ia,Ib,MR⟩,M5⟩,OO⟩;have J7:=M (d47.fb X G λF=>BS F ⟨Ji,Jk,Jj⟩ MI K9)
 have Lj:fW l.prog w K mg base 2 Hm "of" [] (dZ Hl):=⟨⟨_,_,_,_,ve Lf Hv JB Ki,Lg,N3,.nil⟩,Il⟩;have OH:fW l.prog w K mg base 2 Hn "of" [] (fA Hn Hl):=⟨⟨_,_,_,_,uS Nw Hz Ht Lk JB Ki,Nx,OE,.nil⟩,Hz⟩;have HN:fW l.prog w K mg base 2 Hm "of" [.int 1] (dZ Hl):=⟨⟨_,_,_,_,ve Lf Hv JB Ki,Lg,Nv,.cons ⟨_,rfl⟩ .nil⟩,Il⟩;have HP:fW l.prog w K mg base 2 Hn "of" [.int 1] (fA Hn Hl):=⟨⟨_,_,_,_,uS Nw Hz Ht Lk JB Ki,Nx,OD,.cons ⟨_,rfl⟩ .nil⟩,Hz⟩;have OF:MtB l.prog w K mg base 3 Hm "plus" (lX Hm λa b=>(a.1*b.2+b.1*a.2,a.2*b.2)):=⟨⟨_,_,_,Bi M1 Lj,M3,M2⟩,Il⟩
 have OG:MtB l.prog w K mg base 3 Hn "plus" (mP Hn (· + ·)):=⟨⟨_,_,_,(yE Ov Hz Ht).mono (by decide),Ox,Ow⟩,Hz⟩
 have OI:MtB l.prog w K mg base 3 Hm "times" (lX Hm λa b=>(a.1*b.1,a.2*b.2)):=⟨⟨_,_,_,wz MC Lj,ME,MD⟩,Il⟩
 have OJ:MtB l.prog w K mg base 3 Hn "times" (mP Hn (· * ·)):=⟨⟨_,_,_,(xf Oo Hz Ht).mono (by decide),Oq,Op⟩,Hz⟩
 have J1:MtB l.prog w K mg base 1 Hm "prime" pR:=⟨⟨_,_,_,DL Mz,MB,MA⟩,Il⟩;have J3:MtB l.prog w K mg base 1 Hn "prime" (ph Hn):=⟨⟨_,_,_,Eu Ol Hz Ht,On,Om⟩,Hz⟩;have Hr:=M (d0.fb X G λF=>xP F T)
 have JF:=M (d1.fb X G λF=>AU F T)
 have Kx:=M (d5.fb X G λF=>AO F T Hr)
 have MtF:MtB l.prog w K mg base 2 Hm "is_number" qG:=⟨⟨_,_,_,BG Lc JF Hr Hv,Le,Ld⟩,Il⟩;have MtR:MtB l.prog w K mg base 2 Hn "is_number" (qH Hn):=⟨⟨_,_,_,CA MF Hz Ht Hr,MH,MG⟩,Hz⟩;have Hx:MtB l.prog w K mg base 1 Hs "numbers" (iq Hs):=⟨⟨_,_,_,Bz N4 Lh Ju,N6,N5⟩,Lh⟩;have J5:MtB l.prog w K mg base 1 Hs "letters" (jV Hs):=⟨⟨_,_,_,Bp N7 Lh IZ,N9,N8⟩,Lh⟩;have Lp:Bx l.prog w K mg base 2 Hs "Ring" (jG Hs Hq):=⟨⟨_,_,_,AR Ny Lh Ju IZ HJ Oy OL,⟨NY,Ip,Iq,NZ⟩,Nz⟩,OQ⟩;have MJ:=M (d10.fb X G λF=>zH F JF Kx Hx J5 MtF MtR HN HP)
 have NB:=M (d9.fb X G λF=>Ck F T MJ Lv)
 have Lx:=M (d12.fb X G λF=>uf F HG)
 have Ot:=M (d13.fb X G λF=>AH F HG)
 have HQ:=M (d16.fb X G λF=>B9 F T Ot)
 have Lq:=M (d17.fb X G λF=>BB F T HQ)
 have Kj:=M (d14.fb X G λF=>Ci F T n_set NB Lx HQ)
 have Ly:=M (d15.fb X G λF=>Cc F T Kj Lq)
 have NA:=M (d11.fb X G λF=>AI F T JD Hx OF OG HN HP)
 have Hy:=M (d22.fb X G λF=>zZ F J1 J3)
 have J4:=M (d23.fb X G λF=>sR F Hy)
 have JE:=M (d26.fb X G λF=>yY F T n_str)
 have Jg:=M (d25.fb X G λF=>Bd F n_str J1 J3 JE)
 have IV:=M (d27.fb X G λF=>zB F T n_str g_LETTERS)
 have Ll:=M (d24.fb X G λF=>sW F HG Jg IV HN HP)
 have Jf:=M (d18.fb X G λF=>yg F T Hx Hy J4 Ll)
 have HB:cS l.prog w K mg base 1 "check_text" (jj K C_NoText):=d31.fx X G λF=>zR F T n_str A_NoText x_NoText
 have HH:cS l.prog w K mg base 1 "check_written" (lC C_NoText):=d32.fx X G λF=>yr F A_NoText x_NoText
 have HA:=M (d35.fb X G λF=>xh F T g_FIGURES)
 have Hu:cS l.prog w K mg base 2 "rough_figures" (rR C_NoText):=d41.fx X G λF=>xG F T A_NoText x_NoText HA
 have JG:cS l.prog w K mg base 2 "letter_number" (uh C_NoText Hs):=d39.fx X G λF=>yZ F T g_LETTERS A_NoText x_NoText J5
 have J6:cS l.prog w K mg base 3 "rough_number" (Aj C_NoText Hm Hn):=d40.fx X G λF=>yh F A_NoText x_NoText Hu J1 J3 HN HP Lj OH
 have Ky:cS l.prog w K mg base 4 "rough_part" (yc C_NoText Hm Hn Hs):=d38.fx X G λF=>wt F T Hx J5 HN HP HA Hu J6 JG
 have Lm:cS l.prog w K mg base 6 "rough_sum" (Aq C_NoText Hm Hn Hs):=d37.fx X G λF=>AV F T A_NoText x_NoText Hx HN HP OI OJ Ky NA
 have HS:cS l.prog w K mg base 7 "read_sum" (rp K C_NoText Hm Hn Hs):=d28.fx X G λF=>xk F HB HH Lm Jf
 have Lw:=M (d19.fb X G λF=>A5 F Jf)
 have Ln:=M (d21.fb X G λF=>zz F Hx J5 J1 J3)
 have KA:=M (d20.fb X G λF=>yC F n_str Ln Lw)
 have HU:cS l.prog w K mg base 8 "read_row" (sQ K C_NoText Hm Hn Hs):=d29.fx X G λF=>wu F A_NoText x_NoText HB HS Kj
 have JH:=M (d36.fb X G λF=>xv F T n_str HA)
 have JI:cS l.prog w K mg base 3 "rough_columns" (zt C_NoText):=d34.fx X G λF=>wU F T Ik A_NoText x_NoText JH
 have Kz:cS l.prog w K mg base 4 "rough_ring" (zg C_NoText Hm Hn Hs):=d33.fx X G λF=>xb F T HJ A_NoText x_NoText Hu Je Lp ⟨Ji,Jk,Jj⟩ MI K9
 have KC:cS l.prog w K mg base 9 "read_table" (zS K C_NoText):=d30.fx X G λF=>xY F T A_NoText x_NoText HB HH Kz JI HU Ly KA
 have HI:=M (d48.fb X G λF=>Bq F n_str)
 have HR:=M (d49.fb X G λF=>yP F T Ho HI)
 have KB:=M (d50.fb X G λF=>yf F n_str)
 have Iw:=M (d51.fb X G λF=>yq F)
 have Jh:=M (d52.fb X G λF=>zV F T n_str Ho KB Iw HR)
 have KD:BU l.prog w K mg base 1 "_law_class" (qC C_NoText):=defH X G d53 λF=>zf F T A_NoText JB Oy OM OP A_NoRung A_NoRelation A_NoMap A_NoTurn A_NoName A_TooMany n_ValueError x_NoText kv ko1 ko2 ko3 ko4 ko5 ko6 ko7 ko8 ko9 ko10
 have IW:=M (d54.fb X G λF=>uy F HS HU KC KD Os ml)
 exact DN F55 T Ku Ho KG J7 Lp HI HR Jh IW HS HU
theorem walk{l:PySem.W.OpenLaw}{q:Program}{loose:List Str}{XP:(Str->Option Value)->Heap->Prop}{YP:World->Heap->Prop}{d:DefRec}{K:Params->Frag}(hn:l.most=some 63)(hdf:d.params.defaults=[])
  (hY:∀(w:World) (h:Heap),YP w h->(K w.params).In h)
  (F:∀(w:World) (mg:Str->Option Value) (fa:Addr) (h:Heap),(K w.params).In h->h.Ns mainGlobals mg->mg d.name=some (.ref fa)->
   ∃fd:FuncData,(∀(s:Shared) (u:Value),BindsTo s fd ⟨[u],[]⟩ [("_law_script",u)])/\∀base:Heap,(K w.params).In base->base.Ns mainGlobals mg->F2 l.prog w (K w.params) mg base CX0 11 fa fd ["_law_script"] (vT (K w.params))) :
  PySem.W.WalkO q loose XP YP l.row.toRowW d [] (λf vs=>PySem.call f vs):=
 L2.walk_of (n:=63) (k:=11) (x := "_law_script") (CX:=λ_=>CX0) (sp:=λw=>vT (K w.params)) hn (by decide) hdf ⟨rfl,by decide,by decide⟩ hY F (λ_ _ a ns hl _ hS=>⟨a,ns,rfl,hS,hl,λ_=>rfl⟩) λ_ _ _ _ _ z=>z
end K
namespace PySem.W.Fast
def tw5860342577240370442:=0
def tw7651651684757332492:=0
def tw8699770480639581206:=0
def tw16285130542439179048:=0
def tw6767450814440178496:=0
def tw2131694989935698719:=0
def tw823594992297877144:=0
def tw8585879856899376225:=0
def tw10790327415281459552:=0
def tw11244372487784295378:=0
def tw3818283201221865205:=0
def tw14277525887387142590:=0
def tw17920782583451310459:=0
def tw8893744028302803733:=0
def tw18434564200735911:=0
def tw6065209521488482785:=0
def tw7813356332862050758:=0
def tw4471246913462165691:=0
def tw5624925113770962927:=0
def tw14524922291558069432:=0
def tw9076489401979598841:=0
def tw13826733364165154171:=0
def tw2532588045081152079:=0
def tw11505159417037019268:=0
def tw12465945412588210596:=0
def tw16083218494534709953:=0
def tw4592102767596057237:=0
def tw2379726691985067895:=0
def tw17652154939385085065:=0
def tw4882990216823150702:=0
def tw3284736669683351837:=0
def tw1857991780139173736:=0
def tw17861676133671792234:=0
def tw1962305527279749584:=0
def tw18375510807064849755:=0
def tw3140751281748722355:=0
def tw15061533198950102309:=0
def tw5203931656554519736:=0
def tw5595463021467426463:=0
def tw10353359653072846131:=0
def tw11509856999596138162:=0
def tw16139084821243420249:=0
def tw11106235549230767310:=0
def tw6730203115172448481:=0
def tw17577739455941723332:=0
def tw9414907127306907694:=0
def tw12832663736319865075:=0
def tw15716744529373853694:=0
def tw11665553399847523033:=0
def tw3779606330098984836:=0
def tw10725266361468173468:=0
def tw9824555990363932766:=0
def tw4573370869856569174:=0
def tw11039790074031441204:=0
def tw8005154929618317430:=0
def tw11273028201811249070:=0
def tw8650912176357155791:=0
def tw1472250108808467738:=0
def tw2981267216154382899:=0
def tw9099799385070375732:=0
def tw7374458898558538737:=0
def tw12762813333895166279:=0
def tw4010450850781051211:=0
def tw538550143653025217:=0
def tw10147604670087094604:=0
def tw15790393746819577549:=0
def tw14064060246759162245:=0
def tw18193473740099630652:=0
def tw2663174053052302230:=0
def tw17422709708852104450:=0
def tw2731421283910167487:=0
def tw13571479847473427779:=0
def tw16159230913162503326:=0
def tw15109250386925476812:=0
def tw1381993510341757449:=0
def tw4295018026169533505:=0
def tw7629518146786427864:=0
def tw15140905581089265016:=0
def tw14518396776938093224:=0
def tw8378385417382924462:=0
def tw7919570412019048076:=0
def tw3729788410257792568:=0
def tw6611107886345513789:=0
def tw2590886356005411511:=0
def tw2822540901542283572:=0
def tw18204633889799149043:=0
def tw16909476541495005473:=0
def tw11877942429644895503:=0
def tw6870971465992995214:=0
def tw3785213877903791574:=0
def tw7272952955186634991:=0
def tw7209930742661856482:=0
def tw4257925416161540611:=0
def tw14737345409917820184:=0
def tw16704136520374558733:=0
def tw1580645639581902568:=0
def tw16395216538864606634:=0
def tw8301612248388387612:=0
def tw10478588008071829397:=0
def tw18052630651538932807:=0
def tw5391138158531436330:=0
def tw5744173578912220879:=0
def tw2416480598780795642:=0
def tw14279441887665305522:=0
def tw14178524075943138715:=0
def tw4173036594815414849:=0
def tw15483160162902292551:=0
def tw11781746695263181535:=0
def tw7357071383791187804:=0
def tw6975751564513314666:=0
def tw996969779054460700:=0
def tw1446631361852322087:=0
def tw967330423912003910:=0
def tw71362471804100285:=0
def tw7848560546578890473:=0
def tw12932371002952403089:=0
def tw17839159630734949962:=0
def tw11327446652659110811:=0
def tw12311039115242770925:=0
def tw14739693620011566464:=0
def tw2818699964406607697:=0
def tw15537591954876625025:=0
def tw3035855299490770296:=0
def tw1347861474162683539:=0
def tw6094843539621957839:=0
def tw11460672843597739005:=0
def tw7905743322216590586:=0
def tw6170087472531460443:=0
def tw9497110514922184350:=0
def tw12144600168699168327:=0
def tw4705159902239281100:=0
def tw6055029663141290170:=0
def tw8591287258920505604:=0
def tw419127504008137346:=0
end PySem.W.Fast
open PySem PySem.W PyProof.Rows
set_option maxRecDepth 100000 in
set_option maxHeartbeats 0 in
theorem PySem.Challenge.cw_relationladder_k54_no_texts_holds : PySem.Challenge.rw_relationladder_k54_no_texts.Holds := by
 w_on;o_law;k_head;(case hw=>w_witness2)
 k_fill
 refine K.walk (l:=PySem.Challenge.rw_relationladder_k54_no_texts) rfl rfl (λw h Y=>PySem.W.kIn_of Y) ?F
 case F=>
  intro w mg fa h KX G hmg;refine' K.all_mk KX G hmg ?d0 ?d1 ?d2 ?d3 ?d4 ?d5 ?d6 ?d7 ?d8 ?d9 ?d10 ?d11 ?d12 ?d13 ?d14 ?d15 ?d16 ?d17 ?d18 ?d19 ?d20 ?d21 ?d22 ?d23 ?d24 ?d25 ?d26 ?d27 ?d28 ?d29 ?d30 ?d31 ?d32 ?d33 ?d34 ?d35 ?d36 ?d37 ?d38 ?d39 ?d40 ?d41 ?d42 ?d43 ?d44 ?d45 ?d46 ?d47 ?d48 ?d49 ?d50 ?d51 ?d52 ?d53 ?d54 ?d55 ?Kl ?Km ?Kn ?Ko ?Kp ?Ji ?Jj ?Jk ?IB ?IC ?IL ?IM ?HY ?HW ?HX ?Ie ?Ig ?HC ?Jq ?Jr ?JK ?JL ?II ?Iz ?IN ?IP ?Ja ?Jb ?Im ?ID ?IE ?IQ ?IR ?HZ ?ML ?MM ?MN ?MO ?MP ?MQ ?MR ?Ht ?Ia ?Ib ?Jc ?Jd ?Io ?JM ?JN ?J8 ?J9 ?IX ?IF ?IG ?IS ?IT ?Ic ?KY ?KZ ?Lr ?Ls ?Kh ?JX ?Ka ?Kb ?Kr ?Ks ?Jt ?JO ?JP ?Kc ?Kd ?IY ?NT ?NU ?NV ?NW ?NX ?NY ?NZ ?Ju ?IZ ?Ip ?Iq ?Jv ?Jw ?IA ?Jx ?Jy ?JQ ?JR ?IJ ?Jz ?JA ?JS ?JT ?IK ?JU ?K0 ?K1 ?K2 ?K3 ?K4 ?K5 ?K6 ?K7 ?K8 ?L5 ?L6 ?L7 ?L8 ?L9 ?Ma ?Mb ?Mc ?Md ?aC_NoText ?ek_NoText ?ga_NoText ?gt_NoText ?ca_NoText ?mo_NoText ?mb_NoText ?dg_NoText ?dt_NoText ?Me ?M0 ?aC_NoRung ?aC_NoRelation ?aC_NoMap ?aC_NoTurn ?aC_NoName ?aC_TooMany ?ml ?kv ?ko1 ?ko2 ?ko3 ?ko4 ?ko5 ?ko6 ?ko7 ?ko8 ?ko9 ?ko10 ?zn_str ?zn_set ?zn_ValueError ?Iv ?HM ?HJ ?Ik ?g_LETTERS ?g_FIGURES ?z0 ?z1 ?z2 ?z3 ?z4 ?z5 ?z6 ?z7 ?z8 ?z9 ?z10 ?z11 ?z12 ?z13 ?z14 ?z15 ?z16
  (case d0|d1|d2|d3|d4|d5|d6|d7|d8|d9|d10|d11|d12|d13|d14|d15|d16|d17|d18|d19=>refine' .mk ?a ?l ?c ?k;(case a=>k_is);(case l=>k_is);(case c=>k_is);(case k=>k_is))
  (case d20|d21|d22|d23|d24|d25|d26|d27|d28|d29|d30|d31|d32|d33|d34|d35|d36|d37|d38|d39=>refine' .mk ?a ?l ?c ?k;(case a=>k_is);(case l=>k_is);(case c=>k_is);(case k=>k_is))
  (case d40|d41|d42|d43|d44|d45|d46|d47|d48|d49|d50|d51|d52|d53|d54|d55=>refine' .mk ?a ?l ?c ?k;(case a=>k_is);(case l=>k_is);(case c=>k_is);(case k=>k_is))
  (case Kl|Km|Kn|Ko|Kp|Ji|Jj|Jk|IB|IC|IL|IM|HY|HW|HX|Ie|Ig|HC|Jq|Jr=>k_is)
  (case JK|JL|II|Iz|IN|IP|Ja|Jb|Im|ID|IE|IQ|IR|HZ|ML|MM|MN|MO|MP|MQ=>k_is)
  (case MR|Ht|Ia|Ib|Jc|Jd|Io|JM|JN|J8|J9|IX|IF|IG|IS|IT|Ic|KY|KZ|Lr=>k_is)
  (case Ls|Kh|JX|Ka|Kb|Kr|Ks|Jt|JO|JP|Kc|Kd|IY|NT|NU|NV|NW|NX|NY|NZ=>k_is)
  (case Ju|IZ|Ip|Iq|Jv|Jw|IA|Jx|Jy|JQ|JR|IJ|Jz|JA|JS|JT|IK|JU|K0=>k_is)
  (case K1=>first|k_is|k_exc|kit_is|kts_exm)
  (case K2|K3|K4|K5|K6|K7|K8|L5=>k_is)
  (case L6=>first|k_is|k_exc|kit_is|kts_exm)
  (case L7|L8|L9|Ma|Mb|Mc|Md|aC_NoText=>k_is)
  (case ek_NoText=>first|k_is|k_exc|kit_is|kts_exm)
  (case ga_NoText|gt_NoText|ca_NoText|mo_NoText|mb_NoText|dg_NoText|dt_NoText|Me|M0|aC_NoRung|aC_NoRelation|aC_NoMap|aC_NoTurn|aC_NoName|aC_TooMany=>k_is)
  (case ml=>first|k_is|k_exc|kit_is|kts_exm)
  (case kv=>first|k_is|k_exc|kit_is|kts_exm)
  (case ko1=>first|k_is|k_exc|kit_is|kts_exm)
  (case ko2=>first|k_is|k_exc|kit_is|kts_exm)
  (case ko3=>first|k_is|k_exc|kit_is|kts_exm)
  (case ko4=>first|k_is|k_exc|kit_is|kts_exm)
  (case ko5=>first|k_is|k_exc|kit_is|kts_exm)
  (case ko6=>first|k_is|k_exc|kit_is|kts_exm)
  (case ko7=>first|k_is|k_exc|kit_is|kts_exm)
  (case ko8=>first|k_is|k_exc|kit_is|kts_exm)
  (case ko9=>first|k_is|k_exc|kit_is|kts_exm)
  (case ko10=>first|k_is|k_exc|kit_is|kts_exm)
  (case zn_str|zn_set|zn_ValueError|Iv|HM|HJ|Ik|g_LETTERS|g_FIGURES|z0|z1|z2|z3|z4|z5|z6|z7|z8|z9|z10=>k_is)
  (case z11|z12|z13|z14|z15|z16=>k_is)
