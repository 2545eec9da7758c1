import PyProof.Rows.All
import Wide.All
import OpenK.AllK
import Wide.FinOn
import Lean
import PyProof.EqAt
import PyProof.EqKinds
import PyProof.TupleCall
import KE.KMinKey
import PySem.Challenge.RW_relationladder_k17_leads
set_option Elab.async false
set_option linter.all false
set_option maxRecDepth 100000
open PySem.W (instObj hideAll_get Frag lookIn plainGet hasDictIn findIn isFn plainOver makesIn emptyDict looks_findIn Looks keepIn specialIn takesIn mroIn kitOne kia_one callWith_K fnOf codeIn excIn nsIn mg_of CodeHd tabObj tabIn kla_obj mg_none_of)
open List (filterMap_cons mem_cons_self mem_cons_of_mem mem_append_left getElem_inj mem_append_right length_cons map_cons length_map append_nil of_mem_zip length_take getElem?_append_right getElem?_append_left getElem?_map take_sublist mem_of_getElem? length_append length_replicate zip_cons_cons length_nil map_nil size_toArray length_singleton forIn_cons lookup_cons all_eq_true forIn_nil mem_cons not_mem_nil getD_eq_getElem?_getD getElem?_eq_getElem getElem_of_mem getElem_mem take_succ sum_append take_of_length_le length_range find?_cons any_cons map_append length_reverse reverse_perm pairwise_map pairwise_singleton map_map mem_singleton_self range_succ take_add_one mem_of_mem_take take_length take_zero flatMap_cons append_assoc sum_cons countP_singleton)
open PySem.Heap (lt_size get?_push_of_some get?_push_size size_push get?_update_self get?_update_other get?_push_cases)
namespace L2
open PySem PySem.Spec PyProof.Rows
abbrev Key:=Sum Int Str
def kR:Key->Value->Bool
 | .inl k,v=>Value.isInt k v
 | .inr x,v=>Value.isStrOf x v
def keyH (w:World):Key->Int
 | .inl k=>hashInt k
 | .inr x=>hashStr w x
theorem bi:∀ {k:Key} {v:Value},kR k v=true->(∃ i t,k=Sum.inl i/\v=Value.int i t)\/(∃ x t,k=Sum.inr x/\v=Value.str x t)
 | .inl i,v,h=>by
  obtain ⟨t,e⟩:=Value.isInt_shape (k:=i) (v:=v) h
  exact .inl ⟨i,t,rfl,e⟩
 | .inr x,v,h=>by
  obtain ⟨t,e⟩:=Value.isStrOf_shape (x:=x) (v:=v) h
  exact .inr ⟨x,t,rfl,e⟩
theorem keyIs_int (i:Int) (t:Tok):kR (.inl i) (.int i t)=true:=by simp [kR,Value.isInt]
theorem keyIs_str (x:Str) (t:Tok):kR (.inr x) (.str x t)=true:=by simp [kR,Value.isStrOf]
theorem key_ll (a b:Int):decide ((Sum.inl a:Key)=Sum.inl b)=(a == b):=by
 by_cases e:a=b
 ·subst e; simp
 ·have h:¬ (Sum.inl a:Key)=Sum.inl b:=λq=>e (Sum.inl.inj q)
  rw [decide_eq_false h]
  exact (beq_eq_false_iff_ne.mpr e).symm
theorem key_rr (a b:Str):decide ((Sum.inr a:Key)=Sum.inr b)=decide (a=b):=by
 by_cases e:a=b
 ·subst e; simp
 ·have h:¬ (Sum.inr a:Key)=Sum.inr b:=λq=>e (Sum.inr.inj q)
  rw [decide_eq_false h,decide_eq_false e]
theorem key_lr (a:Int) (b:Str):decide ((Sum.inl a:Key)=Sum.inr b)=false:=decide_eq_false (λq=>nomatch q)
theorem key_rl (a:Str) (b:Int):decide ((Sum.inr a:Key)=Sum.inl b)=false:=decide_eq_false (λq=>nomatch q)
def aW (prog:Program) (w:World):PySem.KeyKind prog w Key where
 is:=kR
 hash:=keyH w
 inj:=λv a b ha hb=>by
  rcases bi ha with ⟨i,t,rfl,rfl⟩ | ⟨x,t,rfl,rfl⟩
  ·rcases bi hb with ⟨j,u,rfl,e⟩ | ⟨y,u,rfl,e⟩
   ·injection e with e1 _; rw [e1]
   ·exact nomatch e
  ·rcases bi hb with ⟨j,u,rfl,e⟩ | ⟨y,u,rfl,e⟩
   ·exact nomatch e
   ·injection e with e1 _; rw [e1]
 byValue:=λk v h=>by
  rcases bi h with ⟨i,t,rfl,rfl⟩ | ⟨x,t,rfl,rfl⟩<;>rfl
 pyHash:=λhv h=>by
  rcases bi hv with ⟨i,t,rfl,rfl⟩ | ⟨x,t,rfl,rfl⟩
  ·exact wpAny_pyHash_int h
  ·exact wpAny_pyHash_str h
 eqBool:=λhu hv h=>by
  rcases bi hu with ⟨i,t,rfl,rfl⟩ | ⟨x,t,rfl,rfl⟩
  ·rcases bi hv with ⟨j,u,rfl,rfl⟩ | ⟨y,u,rfl,rfl⟩
   ·rw [key_ll] at h; exact wpAny_eqBool_int h
   ·rw [key_lr] at h; exact SeqAt.EqAt.int_str i t y u _ _ _ _ h
  ·rcases bi hv with ⟨j,u,rfl,rfl⟩ | ⟨y,u,rfl,rfl⟩
   ·rw [key_rl] at h; exact SeqAt.EqAt.str_int x t j u _ _ _ _ h
   ·rw [key_rr] at h; exact wpAny_eqBool_str h
 «strs»:=λk x t v h=>by
  rcases bi h with ⟨i,u,rfl,e⟩ | ⟨y,u,rfl,e⟩
  ·exact nomatch e
  ·injection e with e1 _
   subst e1
   cases v<;>rfl
theorem mixKind_int (prog:Program) (w:World) (i:Int) (t:Tok):(aW prog w).is (.inl i) (.int i t)=true:=keyIs_int i t
theorem mixKind_str (prog:Program) (w:World) (x:Str) (t:Tok):(aW prog w).is (.inr x) (.str x t)=true:=keyIs_str x t
inductive V where
 | non | bl (b:Bool) | int (i:Int) | str (x:Str) | byt (b:Array UInt8) | flt (b:UInt64) | ref (a:Addr) | ty (n:String)
 deriving DecidableEq
def m8:V->Value->Prop
 | .non,u=>u=Value.none
 | .bl b,u=>u=Value.bool b
 | .int i,u=>∃ t,u=Value.int i t
 | .str x,u=>∃ t,u=Value.str x t
 | .byt b,u=>∃ t,u=Value.bytes b t
 | .flt b,u=>∃ t,u=Value.float b t
 | .ref a,u=>u=Value.ref a
 | .ty n,u=>u=Value.type n
abbrev ni:List V->List Value->Prop:=Paired m8
theorem ni.length {xs:List V} {us:List Value} (r:ni xs us):xs.length=us.length:=Paired.length r
theorem ni.get:∀ {xs:List V} {us:List Value} {i:Nat} {x:V},ni xs us->xs[i]? = some x->∃ u,us[i]? = some u/\m8 x u
 | _,_,_,_,.nil,e=>by simp at e
 | _,_,0,_,.cons r _,e=>by simp at e; subst e; exact ⟨_,rfl,r⟩
 | _,_,i+1,x,.cons _ t,e=>by
  obtain ⟨u,h1,h2⟩:=ni.get (i:=i) (x:=x) t (by simpa using e)
  exact ⟨u,by simpa using h1,h2⟩
theorem ni.set {x:V} {u:Value} (r:m8 x u):∀ {xs:List V} {us:List Value} (i:Nat),ni xs us->ni (xs.set i x) (us.set i u)
 | _,_,_,.nil=>.nil
 | _,_,0,.cons _ t=>.cons r t
 | _,_,i+1,.cons q t=>.cons q (ni.set r i t)
theorem ni.append:∀ {xs ys:List V} {us ws:List Value},ni xs us->ni ys ws->ni (xs++ys) (us++ws)
 | _,_,_,_,.nil,s=>s
 | _,_,_,_,.cons r t,s=>.cons r (ni.append t s)
theorem ni.take:∀ {xs:List V} {us:List Value} (n:Nat),ni xs us->ni (xs.take n) (us.take n)
 | _,_,0,_=>.nil
 | _,_,_+1,.nil=>.nil
 | _,_,n+1,.cons r t=>.cons r (ni.take n t)
theorem ni.drop:∀ {xs:List V} {us:List Value} (n:Nat),ni xs us->ni (xs.drop n) (us.drop n)
 | _,_,0,r=>r
 | _,_,_+1,.nil=>.nil
 | _,_,n+1,.cons _ t=>ni.drop n t
def RelO:Option V->Option Value->Prop
 | some v,some u=>m8 v u
 | none,none=>True
 | _,_=>False
def KV {κ:Type}:List (κ × V)->List (κ × Value)->Prop:=Paired λ(p:κ × V) (q:κ × Value)=>p.1=q.1/\m8 p.2 q.2
def kV:Key->V
 | .inl i=>.int i
 | .inr x=>.str x
inductive HO where
 | lst (xs:List V)
 | tup (xs:List V)
 | dK (kvs:List (Key × V)) | dT (kvs:List (List Key × V))
 | set (S:Int->Bool) (n:Nat)
 | ins (C dx:Addr) (fs:List (Str × V))
 | own (x:Addr)
 | xd (fs:List (Str × V))
 | met (f x:Addr)
 | rng (lo hi:Int)
 | frz (o:Obj) (u:HO)
 | tbl (ps:Array Value)
 | ext (φ:Heap->Prop)
abbrev Hp:=Addr->Option HO
def upd (H:Hp) (a:Addr) (o:HO):Hp:=λb=>if b=a then some o else H b
theorem ac {H:Hp} {a:Addr} {o:HO}:upd H a o a=some o:=by unfold upd; rw [if_pos rfl]
theorem am {H:Hp} {a b:Addr} {o:HO} (h:b ≠ a):upd H a o b=H b:=by unfold upd; rw [if_neg h]
theorem cg {H:Hp} {a:Addr} {o u:HO}:upd (upd H a o) a u=upd H a u:=by
 funext b; unfold upd; split<;>rfl
theorem bq {H:Hp} {a b:Addr} {o u:HO} (h:H a=some o) (h':H b=some u) (d:o ≠ u):a ≠ b:=by
 intro e; subst e; rw [h] at h'; exact d (Option.some.inj h')
theorem ah {H:Hp} {a b:Addr} {o:HO} (h:H a=some o) (h':H b=none):a ≠ b:=by
 intro e; subst e; rw [h] at h'; cases h'
section
variable (P:Program) (w:World)
def ny (H:Hp) (h:Heap) (a:Addr):HO->Prop
 | .lst xs=>xs.length<=sizeLine/\∃ (its:List Value) (n:Nat),ni xs its/\h.get? a=some { cls:=.type "list",data:=.seq its.toArray n }
 | .tup xs=>xs.length<=sizeLine/\∃ its:List Value,ni xs its/\IsTup h a its.toArray
 | .dK kvs=>kvs.length<=sizeLine/\(a == sysModules)=false/\∃ vs,KV kvs vs/\h.DictOf (aW P w) a vs
 | .dT kvs=>kvs.length<=sizeLine/\(a == sysModules)=false/\∃ xs:List (List Key × Addr × Value),
   Paired (λ(p:List Key × V) (q:List Key × Addr × Value)=>p.1=q.1/\H q.2.1=some (.tup (p.1.map kV))/\m8 p.2 q.2.2) kvs xs/\
   ∃ o es ep,h.get? a=some o/\o.ExactDict/\o.data=.dict es ep/\es.toList=xs.map (entryOfKey (tupleKind (aW P w)))/\(xs.map (·.1)).Nodup
 | .set S n=>h.SetOf (intKind P w) a S n
 | .ins C dx fs=>H dx=some (.own a)/\fs.length<=1000/\dx ≠ a/\h.get? a=some (instObj C dx)/\
   ∃ mA,h.Ns1 dx mA/\(∀ f,RelO (fs.lookup f) (mA f))/\PySem.Within mA (fs.map (·.1))
 | .own _=>∃ o,h.get? a=some o
 | .xd fs=>∃ mA,h.Ns1 a mA/\∀ f,RelO (fs.lookup f) (mA f)
 | .rng lo hi=>∃ t u v,h.get? a=some { cls:=.type "range",data:=.fields #[.int lo t,.int hi u,.int 1 v] }
 | .frz o u=>h.get? a=some o/\ny H h a u
 | .tbl ps=>h.get? a=some { cls:=.none,data:=.fields ps }
 | .met f x=>h.get? a=some (PySem.W.methodObj (.ref f) (.ref x))
 | .ext φ=>φ h/\(∃ o,h.get? a=some o)/\∀ h1 h2:Heap,φ h1->(∀ o,h1.get? a=some o->h2.get? a=some o)->φ h2
def HOk (H:Hp) (h:Heap):Prop:=∀ a o,H a=some o->ny P w H h a o
end
section
variable {P:Program} {w:World} {H H':Hp} {h h':Heap} {a:Addr} {o:HO}
theorem ny.lt (x:ny P w H h a o):a<h.objs.size:=by
 cases o with
 | lst xs=>obtain ⟨_,_,_,_,e⟩:=x; exact lt_size e
 | tup xs=>obtain ⟨_,_,_,p⟩:=x; exact p.lt
 | dK kvs=>obtain ⟨_,_,_,_,o,_,_,e,_⟩:=x; exact lt_size e
 | dT kvs=>obtain ⟨_,_,_,_,o,_,_,e,_⟩:=x; exact lt_size e
 | set S n=>obtain ⟨o,_,_,_,e,_⟩:=x; exact lt_size e
 | ins C dx fs=>obtain ⟨_,_,_,e,_⟩:=x; exact lt_size e
 | own y=>obtain ⟨_,e⟩:=x; exact lt_size e
 | xd fs=>obtain ⟨_,⟨_,_,_,e,_⟩,_⟩:=x; exact lt_size e
 | rng lo hi=>obtain ⟨_,_,_,e⟩:=x; exact lt_size e
 | frz ob u=>obtain ⟨e,_⟩:=x; exact lt_size e
 | tbl ps=>exact lt_size (show h.get? a=some _ from x)
 | met f y=>exact lt_size (show h.get? a=some _ from x)
 | ext φ=>obtain ⟨_,⟨_,e⟩,_⟩:=x; exact lt_size e
theorem Paired.mapP {α β:Type} {F G:α->β->Prop}:∀ {l₁:List α} {l₂:List β},Paired F l₁ l₂->(∀ a b,F a b->G a b)->Paired G l₁ l₂
 | _,_,.nil,_=>.nil
 | _,_,.cons r t,f=>.cons (f _ _ r) (Paired.mapP t f)
theorem ny.stay (x:ny P w H h a o) (k:∀ b u,(b=a\/H b=some (.own a))->h.get? b=some u->h'.get? b=some u)
  (ho:∀ b,H b=some (.own a)->H' b=some (.own a)) (ht:∀ b xs,H b=some (.tup xs)->H' b=some (.tup xs)):ny P w H' h' a o:=by
 induction o with
 | lst xs=>obtain ⟨z,its,n,r,e⟩:=x; exact ⟨z,its,n,r,k _ _ (.inl rfl) e⟩
 | tup xs=>obtain ⟨z,its,r,ob,e,c⟩:=x; exact ⟨z,its,r,ob,k _ _ (.inl rfl) e,c⟩
 | dK kvs=>obtain ⟨z,y,vs,r,ob,es,ep,e,c⟩:=x; exact ⟨z,y,vs,r,ob,es,ep,k _ _ (.inl rfl) e,c⟩
 | dT kvs=>
  obtain ⟨z,y,xs,r,ob,es,ep,e,c⟩:=x
  exact ⟨z,y,xs,Paired.mapP r λp q z=>⟨z.1,ht _ _ z.2.1,z.2.2⟩,ob,es,ep,k _ _ (.inl rfl) e,c⟩
 | set S n=>obtain ⟨ob,es,ep,t,e,c⟩:=x; exact ⟨ob,es,ep,t,k _ _ (.inl rfl) e,c⟩
 | ins C dx fs=>
  obtain ⟨d,z,ne,e,mA,⟨od,es,ep,e2,c⟩,r⟩:=x
  exact ⟨ho _ d,z,ne,k _ _ (.inl rfl) e,mA,⟨od,es,ep,k _ _ (.inr d) e2,c⟩,r⟩
 | own y=>obtain ⟨ob,e⟩:=x; exact ⟨ob,k _ _ (.inl rfl) e⟩
 | xd fs=>obtain ⟨mA,⟨od,es,ep,e,c⟩,r⟩:=x; exact ⟨mA,⟨od,es,ep,k _ _ (.inl rfl) e,c⟩,r⟩
 | rng lo hi=>obtain ⟨t,u,v,e⟩:=x; exact ⟨t,u,v,k _ _ (.inl rfl) e⟩
 | frz ob u ih=>obtain ⟨e,q⟩:=x; exact ⟨k _ _ (.inl rfl) e,ih q⟩
 | tbl ps=>
  have e:h.get? a=some { cls:=.none,data:=.fields ps }:=x
  show h'.get? a=some { cls:=.none,data:=.fields ps }
  exact k a _ (.inl rfl) e
 | met f y=>
  have e:h.get? a=some (PySem.W.methodObj (.ref f) (.ref y)):=x
  show h'.get? a=some (PySem.W.methodObj (.ref f) (.ref y))
  exact k a _ (.inl rfl) e
 | ext φ=>obtain ⟨p,⟨o,e⟩,st⟩:=x; exact ⟨st _ _ p λo q=>k _ _ (.inl rfl) q,⟨o,k _ _ (.inl rfl) e⟩,st⟩
theorem HOk.lt (x:HOk P w H h) (e:H a=some o):a<h.objs.size:=(x a o e).lt
theorem HOk.fresh (x:HOk P w H h) (e:h.objs.size<=a):H a=none:=by
 cases q:H a with
 | none=>rfl
 | some u=>exact absurd (Nat.lt_of_lt_of_le (x.lt q) e) (Nat.lt_irrefl _)
theorem HOk.kept (x:HOk P w H h) (k:∀ b u,h.get? b=some u->h'.get? b=some u):HOk P w H h':=λa o e=>
 (x a o e).stay (λb u _ q=>k b u q) (λ_ q=>q) λ_ _ q=>q
theorem HOk.laid (x:HOk P w H h) (k:∀ b u,h.get? b=some u->h'.get? b=some u) (hp:h.objs.size<=a) (new:ny P w (upd H a o) h' a o):HOk P w (upd H a o) h':=λb u e=>by
 have hn:=x.fresh hp
 by_cases hb:b=a
 ·subst hb; rw [ac] at e; cases e; exact new
 ·rw [am hb] at e
  exact (x b u e).stay (λc v _ q=>k c v q) (λc q=>by rw [am (ah q hn)]; exact q) λc xs q=>by rw [am (ah q hn)]; exact q
end
def Rd (H:Hp) (a:Addr) (u:HO):Prop:=H a=some u\/∃ o,H a=some (.frz o u)
theorem Rd.ok {P:Program} {w:World} {H:Hp} {h:Heap} {a:Addr} {u:HO} (r:Rd H a u) (x:HOk P w H h):ny P w H h a u:=by
 rcases r with r | ⟨o,r⟩
 ·exact x a u r
 ·obtain ⟨_,q⟩:=x a _ r
  exact q
def Mut:Option HO->Prop
 | some (.lst _)=>True
 | some (.dK _)=>True
 | some (.dT _)=>True
 | some (.set _ _)=>True
 | some (.ins _ _ _)=>True
 | some (.ext _)=>True
 | _=>False
section
variable {P:Program} {w:World} {H:Hp} {h h':Heap} {x e:Addr} {o':HO}
theorem HOk.write (ok:HOk P w H h) (mu:Mut (H x)) (he:e=x\/H e=some (.own x)) (k:∀ b u,b ≠ e->h.get? b=some u->h'.get? b=some u) (heo:∃ u,h'.get? e=some u)
  (new:ny P w (upd H x o') h' x o'):HOk P w (upd H x o') h':=λb u q=>by
 have nown:∀ c y,H c=some (.own y)->c ≠ x:=λc y r z=>by subst z; rw [r] at mu; exact mu
 have ntup:∀ c xs,H c=some (.tup xs)->c ≠ x:=λc xs r z=>by subst z; rw [r] at mu; exact mu
 by_cases hb:b=x
 ·subst hb; rw [ac] at q; cases q; exact new
 ·rw [am hb] at q
  by_cases hbe:b=e
  ·have q':H b=some (.own x):=by
    rcases he with z | z
    ·exact absurd (hbe.trans z) hb
    ·rw [hbe]; exact z
   rw [q] at q'; cases q'
   obtain ⟨v,hv⟩:=heo
   exact ⟨v,by rw [hbe]; exact hv⟩
  ·refine (ok b u q).stay (λc v hc r=>k c v ?_ r) (λc r=>by rw [am (nown c b r)]; exact r) λc xs r=>by rw [am (ntup c xs r)]; exact r
   rcases hc with rfl | hc
   ·exact hbe
   ·rintro rfl
    rcases he with z | z
    ·exact nown c b hc z
    ·rw [hc] at z; cases z; exact hb rfl
end
structure Un (fs ex:List Addr) (H H':Hp) (h h':Heap):Prop where
 keep:∀ b o,h.get? b=some o->H b=none->b ∉ fs->b ∉ ex->h'.get? b=some o
 slot:∀ b o,h.get? b=some o->H b=none->b ∈ fs->b ∉ ex->∃ sl,h'.get? b=some { o with slots:=sl }
 free:∀ b o,h.get? b=some o->H b=none->b ∉ ex->H' b=none
 there:∀ b o,h.get? b=some o->b ∉ ex->∃ o',h'.get? b=some o'
 tups:∀ b xs,H b=some (.tup xs)->H' b=some (.tup xs)
 frzs:∀ b o u,H b=some (.frz o u)->H' b=some (.frz o u)
 tbls:∀ b ps,H b=some (.tbl ps)->∃ more,H' b=some (.tbl (ps++more))
section
variable {fs fs' ex ex':List Addr} {H H1 H2:Hp} {h h1 h2 h':Heap} {a x e:Addr} {o:HO}
theorem Un.any (u:Un fs ex H H1 h h1) {b:Addr} {ob:Obj} (q:h.get? b=some ob) (n:H b=none) (hx:b ∉ ex):∃ sl,h1.get? b=some { ob with slots:=sl }:=by
 by_cases hb:b ∈ fs
 ·exact u.slot b ob q n hb hx
 ·exact ⟨ob.slots,u.keep b ob q n hb hx⟩
theorem Un.kept (k:∀ b u,h.get? b=some u->h'.get? b=some u):Un fs ex H H h h':=
 ⟨λb ob q _ _ _=>k b ob q,λb ob q _ _ _=>⟨ob.slots,k b ob q⟩,λ_ _ _ n _=>n,λb ob q _=>⟨ob,k b ob q⟩,λ_ _ q=>q,λ_ _ _ q=>q,λ_ ps q=>⟨#[],by rw [q]; simp⟩⟩
theorem Un.refl:Un fs ex H H h h:=Un.kept λ_ _ q=>q
theorem Un.laid (k:∀ b u,h.get? b=some u->h'.get? b=some u) (hp:h.objs.size<=a) (hn:H a=none):Un fs ex H (upd H a o) h h' where
 keep:=λb u q _ _ _=>k b u q
 slot:=λb u q _ _ _=>⟨u.slots,k b u q⟩
 free:=λb u q n _=>by rw [am (Nat.ne_of_lt (Nat.lt_of_lt_of_le (lt_size q) hp))]; exact n
 there:=λb u q _=>⟨u,k b u q⟩
 tups:=λb xs q=>by rw [am (ah q hn)]; exact q
 frzs:=λb u xs q=>by rw [am (ah q hn)]; exact q
 tbls:=λb ps q=>⟨#[],by rw [am (ah q hn),q]; simp⟩
theorem Un.write (mu:Mut (H x)) (he:e=x\/H e=some (.own x)) (k:∀ b u,b ≠ e->h.get? b=some u->h'.get? b=some u) (heo:∃ u,h'.get? e=some u):Un fs ex H (upd H x o) h h':=by
 have hx:∀ b,H b=none->b ≠ x:=λb n z=>by subst z; rw [n] at mu; exact mu
 have hb:∀ b,H b=none->b ≠ e:=λb n z=>by
  subst z
  rcases he with r | r
  ·exact hx b n r
  ·rw [n] at r; cases r
 have hm:∀ b u,H b=some u->¬ Mut (some u)->b ≠ x:=λb u q nm z=>by subst z; rw [q] at mu; exact nm mu
 refine ⟨λb u q n _ _=>k b u (hb b n) q,λb u q n _ _=>⟨u.slots,k b u (hb b n) q⟩,λb u q n _=>by rw [am (hx b n)]; exact n,λb u q _=>?_,
  λb xs q=>by rw [am (hm b _ q λz=>z)]; exact q,λb u xs q=>by rw [am (hm b _ q λz=>z)]; exact q,λb ps q=>⟨#[],by rw [am (hm b _ q λz=>z),q]; simp⟩⟩
 by_cases hbe:b=e
 ·subst hbe; exact heo
 ·exact ⟨u,k b u hbe q⟩
end
def trk (h:Heap) (H:Hp):List Addr:=(List.range h.objs.size).filter λa=>(H a).isSome
def jx (h:Heap) (H:Hp):Heap:=PySem.W.hideAll h (trk h H)
theorem hidT_size (h:Heap) (H:Hp):(jx h H).objs.size=h.objs.size:=PySem.W.hideAll_size _ _
theorem hidT_get {h:Heap} {H:Hp} {b:Addr} {o:Obj} (e:h.get? b=some o) (n:H b=none):(jx h H).get? b=some o:=
 hideAll_get _ e λhm=>by
  have q:(H b).isSome=true:=(List.mem_filter.mp hm).2
  rw [n] at q; simp at q
theorem of_hidT {h:Heap} {H:Hp} {b:Addr} {o:Obj} (e:(jx h H).get? b=some o):h.get? b=some o/\H b=none:=by
 have e':h.get? b=some o:=PySem.W.of_hideAll (trk h H) e
 refine ⟨e',?_⟩
 cases q:H b with
 | none=>rfl
 | some x=>
  have hm:b ∈ trk h H:=List.mem_filter.mpr ⟨List.mem_range.mpr (lt_size e'),by simp [q]⟩
  have z:(jx h H).get? b=none:=PySem.W.hideAll_none (trk h H) hm
  rw [z] at e; cases e
structure Mod (K:Frag) (mg:Str->Option Value) (base:Heap):Prop where
 kin:K.In base
 glob:base.Ns mainGlobals mg
 blt:∃ mb,base.Ns builtinsNs mb/\∀ x:Str,x ≠ "__name__"->mb x=bootBuiltins x
 nolimit:base.NoLimit
structure Cx where
 prog:Program
 w:World
 K:Frag
 mg:Str->Option Value
 base:Heap
 A:Around
 N:List Str
 s₀:Shared
 H₀:Hp
 env:Env
 outer:List Env
 stack:List Env
 ex:List Addr
 fn:Str->Bool
 calm:Bool
 pn:List (Addr × Obj)
 xe:Value->Shared->Prop
def frs (l:List Env):List Addr:=l.filterMap (·.frame)
abbrev Cx.fs (X:Cx):List Addr:=frs X.outer
def Vis (sc:Scope) (x:Str):Prop:=sc.names.lookup x=some .local\/sc.names.lookup x=some .cell\/sc.names.lookup x=some .free
def Loc (sc:Scope) (x:Str):Prop:=sc.names.lookup x=some .local\/sc.names.lookup x=some .cell
def Look (env:Env) (h:Heap) (m:Str->Option Value) (x:Str) (u:Value):Prop:=
 (env.kindOf x=some .local/\m x=some u)\/((env.kindOf x=some .cell\/env.kindOf x=some .free)/\∃ c,env.cells.lookup x=some c/\h.IsCell c (some u))
structure Cx.Ok (X:Cx):Prop where
 mod:Mod X.K X.mg X.base
 kind:X.env.scope.kind=.function
 glob:X.env.globals=mainGlobals
 blt:X.env.builtins=builtinsNs
 above:X.s₀.heap.objs.size<=X.env.locals
 inj:∀ x y c,X.env.cells.lookup x=some c->X.env.cells.lookup y=some c->x=y
 has:∀ x,(X.env.kindOf x=some .cell\/X.env.kindOf x=some .free)->∃ c,X.env.cells.lookup x=some c
 cab:∀ x c,X.fn x=true->X.env.cells.lookup x=some c->X.s₀.heap.objs.size<=c
 hd:X.calm=true->X.A.handled=none
 frames:X.A.frames=some X.stack
 stk:X.stack=X.outer\/(X.stack=X.env::X.outer/\X.env.frame=some X.env.locals)
 exf:∀ b ∈ X.ex,b ≠ X.env.locals/\∀ x c,X.env.cells.lookup x=some c->c ≠ b
 bs:∀ b o,X.base.get? b=some o->X.s₀.heap.get? b=some o/\X.H₀ b=none
 bsz:X.base.objs.size<=X.s₀.heap.objs.size
 noex:∀ b o,X.base.get? b=some o->b ∉ X.ex
 exfs:∀ b ∈ X.ex,b ∉ X.fs
 funs:X.s₀.heap.FunFrames X.base X.outer
 frf:∀ b ∈ X.fs,X.H₀ b=none
structure Inv (X:Cx) (pins:List (Addr × Obj)) (σ:List (Option V)) (H:Hp) (s:Shared):Prop where
 ok:X.Ok
 os:s.os=X.s₀.os
 bare:AllBare s.gens
 base:Un X.fs X.ex X.H₀ H X.s₀.heap s.heap
 loc:∃ m,s.heap.Ns X.env.locals m/\∀ (i:Nat) (x:Str) (v:V),X.N[i]? = some x->σ[i]? = some (some v)->Vis X.env.scope x->∃ u,m8 v u/\Look X.env s.heap m x u
 cell:∀ x c,X.env.cells.lookup x=some c->∃ v,s.heap.IsCell c v
 free:H X.env.locals=none
 freeC:∀ x c,X.env.cells.lookup x=some c->H c=none
 pin:∀ p ∈ X.pn++pins,s.heap.get? p.1=some p.2/\H p.1=none/\p.1 ≠ X.env.locals/\p.1 ∉ X.fs/\∀ v,p.2.data ≠ .cell v
 hok:HOk X.prog X.w H s.heap
 len:σ.length=X.N.length
section
variable {X:Cx} {pins:List (Addr × Obj)} {σ:List (Option V)} {H H':Hp} {s:Shared} {h':Heap}
theorem Cx.Ok.nofr (ok:X.Ok) {b:Addr} {o:Obj} (e:X.base.get? b=some o):b ∉ X.fs:=λhb=>by
 have:=(ok.funs.mem hb).1
 rw [e] at this; cases this
theorem Inv.bs (I:Inv X pins σ H s):∀ b o,X.base.get? b=some o->s.heap.get? b=some o/\H b=none:=λb o e=>
 ⟨I.base.keep b o (I.ok.bs b o e).1 (I.ok.bs b o e).2 (I.ok.nofr e) (I.ok.noex b o e),I.base.free b o (I.ok.bs b o e).1 (I.ok.bs b o e).2 (I.ok.noex b o e)⟩
theorem Inv.bk (I:Inv X pins σ H s):∀ b o,X.base.get? b=some o->s.heap.get? b=some o:=λb o e=>(I.bs b o e).1
theorem Inv.mod (I:Inv X pins σ H s):Mod X.K X.mg X.base:=I.ok.mod
theorem Inv.kIn (I:Inv X pins σ H s):X.K.In s.heap:=I.ok.mod.kin.keeps I.bk
theorem Inv.lt (I:Inv X pins σ H s):X.env.locals<s.heap.objs.size:=let ⟨_,hn,_⟩:=I.loc; hn.lt
theorem Inv.sz (I:Inv X pins σ H s):X.s₀.heap.objs.size<=s.heap.objs.size:=Nat.le_trans I.ok.above (Nat.le_of_lt I.lt)
theorem Inv.nofs (I:Inv X pins σ H s) {a:Addr} (h:s.heap.objs.size<=a):a ∉ X.fs:=λhb=>by
 obtain ⟨_,o,ho,_⟩:=I.ok.funs.mem hb
 exact absurd (Nat.lt_of_lt_of_le (lt_size ho) (Nat.le_trans I.sz h)) (Nat.lt_irrefl _)
theorem Inv.cne (I:Inv X pins σ H s):∀ x c,X.env.cells.lookup x=some c->c ≠ X.env.locals:=λx c e z=>by
 obtain ⟨v,o,ho,hd⟩:=I.cell x c e
 obtain ⟨m,⟨o',es,ep,ho',hd',_⟩,_⟩:=I.loc
 rw [z,ho'] at ho; cases ho; rw [hd'] at hd; cases hd
theorem Inv.funs (I:Inv X pins σ H s):s.heap.FunFrames X.base X.outer:=by
 have all:∀ (l:List Env),(∀ b ∈ frs l,b ∈ X.fs)->X.s₀.heap.FunFrames X.base l->s.heap.FunFrames X.base l:=by
  intro l
  induction l with
  | nil=>intro _ _; trivial
  | cons env r ih=>
   intro hs hl
   obtain ⟨hk,⟨L,o,hf,hn,ho,hd⟩,hr⟩:=hl
   have hL:L ∈ X.fs:=hs L (by unfold frs; rw [filterMap_cons,hf]; exact mem_cons_self)
   obtain ⟨sl,e⟩:=I.base.slot L o ho (I.ok.frf L hL) hL λz=>I.ok.exfs L z hL
   exact ⟨hk,⟨L,_,hf,hn,e,hd⟩,ih (λb hb=>hs b (by unfold frs; rw [filterMap_cons,hf]; exact mem_cons_of_mem _ hb)) hr⟩
 exact all X.outer (λ_ hb=>hb) I.ok.funs
theorem Inv.stack (I:Inv X pins σ H s):s.heap.FunFrames X.base X.stack:=by
 rcases I.ok.stk with e | ⟨e,hf⟩
 ·rw [e]; exact I.funs
 ·rw [e]
  obtain ⟨m,hn,_⟩:=I.loc
  refine .cons (by rw [I.ok.kind]; decide) hf hn ?_ I.funs
  exact Heap.get?_none_of_le (Nat.le_trans I.ok.bsz I.ok.above)
theorem Inv.stkSub (I:Inv X pins σ H s):∀ b ∈ frs X.stack,b ∈ X.env.locals::X.fs:=λb hb=>by
 rcases I.ok.stk with e | ⟨e,hf⟩
 ·rw [e] at hb; exact mem_cons_of_mem _ hb
 ·rw [e] at hb
  unfold frs at hb
  rw [filterMap_cons,hf] at hb
  exact hb
theorem Inv.stkFree (I:Inv X pins σ H s):∀ b ∈ frs X.stack,H b=none:=λb hb=>by
 rcases List.mem_cons.mp (I.stkSub b hb) with e | hb
 ·rw [e]; exact I.free
 ·obtain ⟨_,o,ho,_⟩:=I.ok.funs.mem hb
  exact I.base.free b o ho (I.ok.frf b hb) λz=>I.ok.exfs b z hb
theorem Inv.step {g':Array GenState} {t':Nat} {d':Drawn} {ch:List Addr} (I:Inv X pins σ H s)
  (hch:∀ b ∈ ch,(b ∈ X.ex\/X.s₀.heap.objs.size<=b)/\b ≠ X.env.locals/\(∀ x c,X.env.cells.lookup x=some c->c ≠ b)/\∀ p ∈ X.pn++pins,p.1 ≠ b)
  (keep:∀ b o,b ≠ X.env.locals->b ∉ X.fs->b ∉ ch->s.heap.get? b=some o->H b=none->h'.get? b=some o)
  (slot:∀ b o,b ≠ X.env.locals->b ∈ X.fs->b ∉ ch->s.heap.get? b=some o->H b=none->∃ sl,h'.get? b=some { o with slots:=sl }) (free:∀ b o,b ∉ ch->s.heap.get? b=some o->H b=none->H' b=none)
  (there:∀ b o,b ∉ ch->s.heap.get? b=some o->∃ o',h'.get? b=some o')
  (tups:∀ b xs,H b=some (.tup xs)->H' b=some (.tup xs)) (frzs:∀ b o u,H b=some (.frz o u)->H' b=some (.frz o u)) (tbls:∀ b ps,H b=some (.tbl ps)->∃ more,H' b=some (.tbl (ps++more)))
  (ns:∀ m,s.heap.Ns X.env.locals m->h'.Ns X.env.locals m) (hok:HOk X.prog X.w H' h') (hg:AllBare g') :
  Inv X pins σ H' { s with heap:=h',gens:=g',drawn:=d',toks:=t' }:=by
 have neL:∀ b o,X.s₀.heap.get? b=some o->b ≠ X.env.locals:=λb o e=>Nat.ne_of_lt (Nat.lt_of_lt_of_le (lt_size e) I.ok.above)
 have neC:∀ b o,X.s₀.heap.get? b=some o->b ∉ X.ex->b ∉ ch:=λb o e hx hb=>by
  rcases (hch b hb).1 with z | z
  ·exact hx z
  ·exact absurd (Nat.lt_of_lt_of_le (lt_size e) z) (Nat.lt_irrefl _)
 have cellK:∀ x c,X.env.cells.lookup x=some c->∀ v,s.heap.IsCell c v->h'.IsCell c v:=λx c e v ⟨o,ho,hd⟩=>by
  have nch:c ∉ ch:=λz=>(hch c z).2.2.1 x c e rfl
  by_cases hc:c ∈ X.fs
  ·obtain ⟨sl,q⟩:=slot c o (I.cne x c e) hc nch ho (I.freeC x c e)
   exact ⟨_,q,hd⟩
  ·exact ⟨o,keep c o (I.cne x c e) hc nch ho (I.freeC x c e),hd⟩
 refine ⟨I.ok,I.os,hg,⟨λb o e n hb hx=>?_,λb o e n hb hx=>?_,λb o e n hx=>?_,λb o e hx=>?_,λb xs e=>tups b xs (I.base.tups b xs e),λb o xs e=>frzs b o xs (I.base.frzs b o xs e),λb ps e=>?_⟩,?_,λx c e=>?_,?_,λx c e=>?_,λp hp=>?_,hok,I.len⟩
 ·exact keep b o (neL b o e) hb (neC b o e hx) (I.base.keep b o e n hb hx) (I.base.free b o e n hx)
 ·obtain ⟨sl,e1⟩:=I.base.slot b o e n hb hx
  obtain ⟨sl',e2⟩:=slot b _ (neL b o e) hb (neC b o e hx) e1 (I.base.free b o e n hx)
  exact ⟨sl',e2⟩
 ·obtain ⟨o',e1⟩:=I.base.there b o e hx
  exact free b o' (neC b o e hx) e1 (I.base.free b o e n hx)
 ·obtain ⟨o',e1⟩:=I.base.there b o e hx
  exact there b o' (neC b o e hx) e1
 ·obtain ⟨m1,e1⟩:=I.base.tbls b ps e
  obtain ⟨m2,e2⟩:=tbls b _ e1
  exact ⟨m1++m2,by rw [e2,Array.append_assoc]⟩
 ·obtain ⟨m,hn,hl⟩:=I.loc
  refine ⟨m,ns m hn,λi x v e1 e2 e3=>?_⟩
  obtain ⟨u,r,l⟩:=hl i x v e1 e2 e3
  refine ⟨u,r,?_⟩
  rcases l with l | ⟨k,c,e,z⟩
  ·exact .inl l
  ·exact .inr ⟨k,c,e,cellK x c e _ z⟩
 ·obtain ⟨v,z⟩:=I.cell x c e
  exact ⟨v,cellK x c e v z⟩
 ·obtain ⟨m,⟨o,_,_,ho,_⟩,_⟩:=I.loc
  exact free _ o (λz=>(hch _ z).2.1 rfl) ho I.free
 ·obtain ⟨v,o,ho,hd⟩:=I.cell x c e
  exact free c o (λz=>(hch c z).2.2.1 x c e rfl) ho (I.freeC x c e)
 ·obtain ⟨e,n,ne,nf,d⟩:=I.pin p hp
  have nch:p.1 ∉ ch:=λz=>(hch p.1 z).2.2.2 p hp rfl
  exact ⟨keep p.1 p.2 ne nf nch e n,free p.1 p.2 nch e n,ne,nf,d⟩
theorem Inv.un {t':Nat} (I:Inv X pins σ H s) (u:Un X.fs [] H H' s.heap h') (hok:HOk X.prog X.w H' h'):Inv X pins σ H' { s with heap:=h',toks:=t' }:=by
 obtain ⟨m,⟨o,es,ep,ho,r⟩,_⟩:=id I.loc
 obtain ⟨sl,hL⟩:=u.any ho I.free (by simp)
 exact I.step (g':=s.gens) (d':=s.drawn) (ch:=[]) (λ_ z=>nomatch z) (λb o _ hb _ e n=>u.keep b o e n hb (by simp)) (λb o _ hb _ e n=>u.slot b o e n hb (by simp)) (λb o _ e n=>u.free b o e n (by simp)) (λb o _ e=>u.there b o e (by simp)) u.tups u.frzs u.tbls (λm' hm=>by
  obtain ⟨o',es',ep',ho',r'⟩:=hm
  rw [ho] at ho'; cases ho'
  exact ⟨_,es',ep',hL,r'⟩) hok I.bare
theorem Inv.call {g':Array GenState} {t':Nat} {d':Drawn} {ch:List Addr} (I:Inv X pins σ H s) (u:Un (frs X.stack) ch H H' s.heap h') (hok:HOk X.prog X.w H' h') (hg:AllBare g')
  (hch:∀ b ∈ ch,(b ∈ X.ex\/X.s₀.heap.objs.size<=b)/\b ≠ X.env.locals/\(∀ x c,X.env.cells.lookup x=some c->c ≠ b)/\∀ p ∈ X.pn++pins,p.1 ≠ b) :
  Inv X pins σ H' { s with heap:=h',gens:=g',drawn:=d',toks:=t' }:=by
 obtain ⟨m,⟨o,es,ep,ho,r⟩,_⟩:=id I.loc
 obtain ⟨sl,hL⟩:=u.any ho I.free λz=>(hch _ z).2.1 rfl
 exact I.step (ch:=ch) hch (λb o hL hb hc e n=>u.keep b o e n (λz=>(List.mem_cons.mp (I.stkSub b z)).elim hL hb) hc) (λb o _ _ hc e n=>u.any e n hc) (λb o hc e n=>u.free b o e n hc) (λb o hc e=>u.there b o e hc) u.tups u.frzs u.tbls (λm' hm=>by
  obtain ⟨o',es',ep',ho',r'⟩:=hm
  rw [ho] at ho'; cases ho'
  exact ⟨_,es',ep',hL,r'⟩) hok hg
theorem Inv.turned {t':Nat} {it:Addr} (I:Inv X pins σ H s) (k:∀ b o,b ≠ it->s.heap.get? b=some o->h'.get? b=some o) (hn:H it=none) (hL:it ≠ X.env.locals)
  (h1:it ∈ X.ex\/X.s₀.heap.objs.size<=it) (h2:∀ x c,X.env.cells.lookup x=some c->c ≠ it) (h3:∀ p ∈ X.pn++pins,p.1 ≠ it):Inv X pins σ H { s with heap:=h',toks:=t' }:=by
 have nit:∀ b u,H b=some u->b ≠ it:=λb u e z=>by rw [z,hn] at e; cases e
 refine I.step (g':=s.gens) (d':=s.drawn) (ch:=[it]) (λb hb=>?_) (λb o _ _ hc e _=>k b o (λz=>hc (by simp [z])) e) (λb o _ _ hc e _=>⟨o.slots,k b o (λz=>hc (by simp [z])) e⟩) (λ_ _ _ _ n=>n)
  (λb o hc e=>⟨o,k b o (λz=>hc (by simp [z])) e⟩) (λ_ _ e=>e) (λ_ _ _ e=>e) (λb ps e=>⟨#[],by rw [e]; simp⟩) (λm hm=>?_) (λb u e=>?_) I.bare
 ·have e:b=it:=by simpa using hb
  subst e
  exact ⟨h1,hL,h2,h3⟩
 ·obtain ⟨o,es,ep,ho,r⟩:=hm
  exact ⟨o,es,ep,k _ o (Ne.symm hL) ho,r⟩
 ·refine (I.hok b u e).stay (λc v hc q=>k c v ?_ q) (λ_ q=>q) λ_ _ q=>q
  rcases hc with z | z
  ·rw [z]; exact nit b u e
  ·exact nit c _ z
theorem Inv.tok (I:Inv X pins σ H s) (t:Nat):Inv X pins σ H { s with toks:=t }:=I.un (h':=s.heap) (t':=t) Un.refl I.hok
theorem Inv.kept {t':Nat} (I:Inv X pins σ H s) (k:∀ b u,s.heap.get? b=some u->h'.get? b=some u):Inv X pins σ H { s with heap:=h',toks:=t' }:=I.un (Un.kept k) (I.hok.kept k)
theorem Inv.laid {a:Addr} {o:HO} {t':Nat} (I:Inv X pins σ H s) (k:∀ b u,s.heap.get? b=some u->h'.get? b=some u) (hp:s.heap.objs.size<=a) (new:ny X.prog X.w (upd H a o) h' a o) :
  Inv X pins σ (upd H a o) { s with heap:=h',toks:=t' }:=I.un (Un.laid k hp (I.hok.fresh hp)) (I.hok.laid k hp new)
theorem Inv.write {x e:Addr} {o:HO} {t':Nat} (I:Inv X pins σ H s) (mu:Mut (H x)) (he:e=x\/H e=some (.own x)) (k:∀ b u,b ≠ e->s.heap.get? b=some u->h'.get? b=some u) (heo:∃ u,h'.get? e=some u)
  (new:ny X.prog X.w (upd H x o) h' x o):Inv X pins σ (upd H x o) { s with heap:=h',toks:=t' }:=I.un (Un.write mu he k heo) (I.hok.write mu he k heo new)
theorem Inv.pins_of {pins':List (Addr × Obj)} (I:Inv X pins σ H s) (h:∀ p ∈ pins',s.heap.get? p.1=some p.2/\H p.1=none/\p.1 ≠ X.env.locals/\p.1 ∉ X.fs/\∀ v,p.2.data ≠ .cell v):Inv X pins' σ H s:=
 ⟨I.ok,I.os,I.bare,I.base,I.loc,I.cell,I.free,I.freeC,λp hp=>(List.mem_append.mp hp).elim (λz=>I.pin p (mem_append_left _ z)) (h p),I.hok,I.len⟩
theorem nodup_ix {N:List Str} (hN:N.Nodup) {i j:Nat} {x:Str} (a:N[i]? = some x) (b:N[j]? = some x):i=j:=by
 obtain ⟨h1,e1⟩:=List.getElem?_eq_some_iff.mp a
 obtain ⟨h2,e2⟩:=List.getElem?_eq_some_iff.mp b
 exact (getElem_inj hN).mp (e1.trans e2.symm)
theorem kP {M:Model} {A:Around} {E:Value->Shared->Prop} {i:Nat} {x:Str} {v:V} {u:Value} {Q:Unit->Shared->Prop} (I:Inv X pins σ H s) (hN:X.N.Nodup) (hi:X.N[i]? = some x) (hx:Loc X.env.scope x) (r:m8 v u)
  (h:∀ s',Inv X pins (σ.set i (some v)) H s'->(∃ a,Heap.SameBut a s.heap s'.heap/\(a=X.env.locals\/X.env.cells.lookup x=some a))->Q () s') (hf:X.fn x=true\/X.env.scope.names.lookup x=some .local:=by first | exact .inl rfl | exact .inr rfl | assumption):wpAny M A (storeName X.env x u) Q E s:=by
 obtain ⟨m,hn,hl⟩:=id I.loc
 have hcls:(X.env.scope.kind == .class || (X.env.scope.kind == .module && X.env.locals != X.env.globals))=false:=by rw [I.ok.kind]; rfl
 have hiσ:i<σ.length:=by rw [I.len]; exact (List.getElem?_eq_some_iff.mp hi).1
 have cne:=I.cne
 have tracked:∀ {a:Addr} {h':Heap},(∃ o,s.heap.get? a=some o/\H a=none)->Heap.SameBut a s.heap h'->HOk X.prog X.w H h':=λ{a h'} ha hs b ob e=>by
  obtain ⟨_,_,hfree⟩:=ha
  refine (I.hok b ob e).stay (λc w' hc q=>(hs.2 c ?_).trans q) (λ_ q=>q) λ_ _ q=>q
  rintro rfl
  rcases hc with rfl | hc
  ·rw [hfree] at e; cases e
  ·rw [hfree] at hc; cases hc
 rcases hx with hk | hk
 ·refine wpAny_storeName_local hk hn (λh' hn' hs=>?_) hcls
  obtain ⟨oL,_,_,hoL,_⟩:=id hn
  refine h _ ⟨I.ok,I.os,I.bare,⟨λb o e n hb hx=>?_,λb o e n hb hx=>?_,I.base.free,λb o e hx=>?_,I.base.tups,I.base.frzs,I.base.tbls⟩,⟨_,hn',λj y v' e1 e2 e3=>?_⟩,λy c e=>?_,I.free,I.freeC,λp hp=>?_,tracked ⟨oL,hoL,I.free⟩ hs,by simpa using I.len⟩ ⟨_,hs,.inl rfl⟩
  ·exact (hs.2 b (Nat.ne_of_lt (Nat.lt_of_lt_of_le (lt_size e) I.ok.above))).trans (I.base.keep b o e n hb hx)
  ·obtain ⟨sl,e1⟩:=I.base.slot b o e n hb hx
   exact ⟨sl,(hs.2 b (Nat.ne_of_lt (Nat.lt_of_lt_of_le (lt_size e) I.ok.above))).trans e1⟩
  ·obtain ⟨o',e1⟩:=I.base.there b o e hx
   exact ⟨o',(hs.2 b (Nat.ne_of_lt (Nat.lt_of_lt_of_le (lt_size e) I.ok.above))).trans e1⟩
  ·by_cases hj:j=i
   ·subst hj
    rw [hi] at e1; cases e1
    rw [List.getElem?_set_self hiσ] at e2
    cases e2
    exact ⟨u,r,.inl ⟨hk,by simp⟩⟩
   ·rw [List.getElem?_set_ne (Ne.symm hj)] at e2
    obtain ⟨u',r',q⟩:=hl j y v' e1 e2 e3
    refine ⟨u',r',?_⟩
    rcases q with ⟨k,e⟩ | ⟨k,c,e,z⟩
    ·refine .inl ⟨k,?_⟩
     have:y ≠ x:=λe=>hj (nodup_ix hN e1 (e ▸ hi))
     simp [this,e]
    ·exact .inr ⟨k,c,e,z.sameBut hs (cne y c e)⟩
  ·obtain ⟨w',z⟩:=I.cell y c e
   exact ⟨w',z.sameBut hs (cne y c e)⟩
  ·obtain ⟨e,n,ne,nf,d⟩:=I.pin p hp
   exact ⟨(hs.2 p.1 ne).trans e,n,ne,nf,d⟩
 ·have hfn:X.fn x=true:=by
   rcases hf with z | z
   ·exact z
   ·rw [z] at hk; cases hk
  obtain ⟨c,hc⟩:=I.ok.has x (.inl hk)
  obtain ⟨w',z⟩:=I.cell x c hc
  refine wpAny_storeName_cell I.ok.kind hk hc z (λh' hc' hs=>?_)
  obtain ⟨oc,hoc,hocd⟩:=id z
  refine h { s with heap:=h' } ⟨I.ok,I.os,I.bare,⟨λb o e n hb hx=>?_,λb o e n hb hx=>?_,I.base.free,λb o e hx=>?_,I.base.tups,I.base.frzs,I.base.tbls⟩,⟨m,hn.sameBut hs (Ne.symm (cne x c hc)),λj y v' e1 e2 e3=>?_⟩,λy c' e=>?_,I.free,I.freeC,λp hp=>?_,tracked ⟨oc,hoc,I.freeC x c hc⟩ hs,by simpa using I.len⟩ ⟨c,hs,.inr hc⟩
  ·exact (hs.2 b (Nat.ne_of_lt (Nat.lt_of_lt_of_le (lt_size e) (I.ok.cab x c hfn hc)))).trans (I.base.keep b o e n hb hx)
  ·obtain ⟨sl,e1⟩:=I.base.slot b o e n hb hx
   exact ⟨sl,(hs.2 b (Nat.ne_of_lt (Nat.lt_of_lt_of_le (lt_size e) (I.ok.cab x c hfn hc)))).trans e1⟩
  ·obtain ⟨o',e1⟩:=I.base.there b o e hx
   exact ⟨o',(hs.2 b (Nat.ne_of_lt (Nat.lt_of_lt_of_le (lt_size e) (I.ok.cab x c hfn hc)))).trans e1⟩
  ·by_cases hj:j=i
   ·subst hj
    rw [hi] at e1; cases e1
    rw [List.getElem?_set_self hiσ] at e2
    cases e2
    exact ⟨u,r,.inr ⟨.inl hk,c,hc,hc'⟩⟩
   ·rw [List.getElem?_set_ne (Ne.symm hj)] at e2
    obtain ⟨u',r',q⟩:=hl j y v' e1 e2 e3
    refine ⟨u',r',?_⟩
    rcases q with q | ⟨k,c',e,z'⟩
    ·exact .inl q
    ·refine .inr ⟨k,c',e,z'.sameBut hs ?_⟩
     rintro rfl
     exact hj (nodup_ix hN e1 (I.ok.inj _ _ _ e hc ▸ hi))
  ·by_cases hcc:c'=c
   ·subst hcc; exact ⟨_,hc'⟩
   ·obtain ⟨w2,z2⟩:=I.cell y c' e
    exact ⟨w2,z2.sameBut hs hcc⟩
  ·obtain ⟨e,n,ne,nf,d⟩:=I.pin p hp
   refine ⟨(hs.2 p.1 ?_).trans e,n,ne,nf,d⟩
   intro q
   rw [q,hoc] at e
   have q':oc=p.2:=Option.some.inj e
   exact d w' (by rw [<- q']; exact hocd)
theorem eO {M:Model} {A:Around} {E:Value->Shared->Prop} {i:Nat} {x:Str} {v:V} {u:Value} {Q:Unit->Shared->Prop} (I:Inv X pins σ H s) (hN:X.N.Nodup) (hi:X.N[i]? = some x) (hx:Loc X.env.scope x) (r:m8 v u)
  (h:∀ s',Inv X pins (σ.set i (some v)) H s'->Q () s') (hf:X.fn x=true\/X.env.scope.names.lookup x=some .local:=by first | exact .inl rfl | exact .inr rfl | assumption):wpAny M A (storeName X.env x u) Q E s:=
 kP I hN hi hx r (λs' I' _=>h s' I') hf
theorem Inv.call' {s':Shared} {ch:List Addr} (I:Inv X pins σ H s) (ho:s'.os=s.os) (u:Un (frs X.stack) ch H H' s.heap s'.heap) (hok:HOk X.prog X.w H' s'.heap) (hg:AllBare s'.gens)
  (hch:∀ b ∈ ch,(b ∈ X.ex\/X.s₀.heap.objs.size<=b)/\b ≠ X.env.locals/\(∀ x c,X.env.cells.lookup x=some c->c ≠ b)/\∀ p ∈ X.pn++pins,p.1 ≠ b):Inv X pins σ H' s':=by
 obtain ⟨h',g',d',t',o'⟩:=s'
 have e:o'=s.os:=ho
 subst e
 exact I.call (g':=g') (t':=t') (d':=d') u hok hg hch
end
abbrev XK:=Value->Option Addr->Hp->Prop
abbrev St:=List (Option V)
abbrev VK:=V->Hp->Prop
abbrev TE:=St->Hp->VK->Prop
abbrev TT:=St->Hp->(Bool->Hp->Prop)->Prop
abbrev TA:=St->Hp->(List V->Hp->Prop)->Prop
structure eG where
 nx:St->Hp->Prop
 rt:VK
 bk:St->Hp->Prop:=λ_ _=>False
 ct:St->Hp->Prop:=λ_ _=>False
abbrev TS:=eG->St->Hp->Prop
def EP (X:Cx) (pins:List (Addr × Obj)) (σ:St) (Q:VK) (u:Value) (s':Shared):Prop:=∃ v H',Inv X pins σ H' s'/\m8 v u/\Q v H'
def TP (X:Cx) (pins:List (Addr × Obj)) (σ:St) (Q:Bool->Hp->Prop) (b:Bool) (s':Shared):Prop:=∃ H',Inv X pins σ H' s'/\Q b H'
def AP (X:Cx) (pins:List (Addr × Obj)) (σ:St) (Q:List V->Hp->Prop) (us:List Value) (s':Shared):Prop:=∃ vs H',Inv X pins σ H' s'/\ni vs us/\Q vs H'
def SP (X:Cx) (pins:List (Addr × Obj)) (D:eG) (f:Flow) (s':Shared):Prop:=
 match f with
 | .next=>∃ σ' H',Inv X pins σ' H' s'/\D.nx σ' H'
 | .brk=>∃ σ' H',Inv X pins σ' H' s'/\D.bk σ' H'
 | .cont=>∃ σ' H',Inv X pins σ' H' s'/\D.ct σ' H'
 | .ret u=>∃ v σ' H',Inv X pins σ' H' s'/\m8 v u/\D.rt v H'
def PE (X:Cx) (e:Expr) (t:TE):Prop:=
 ∀ (pins:List (Addr × Obj)) (s:Shared) (σ:St) (H:Hp) (Q:VK),Inv X pins σ H s->t σ H Q->wpAny (model X.prog X.w) X.A (eval e X.env) (EP X pins σ Q) X.xe s
def PT (X:Cx) (e:Expr) (t:TT):Prop:=
 ∀ (pins:List (Addr × Obj)) (s:Shared) (σ:St) (H:Hp) (Q:Bool->Hp->Prop),Inv X pins σ H s->t σ H Q->wpAny (model X.prog X.w) X.A (isTrue e X.env (eval e X.env)) (TP X pins σ Q) X.xe s
def PW (X:Cx) (e:Expr) (t:TT):Prop:=
 ∀ (whole:Sem Value) (pins:List (Addr × Obj)) (s:Shared) (σ:St) (H:Hp) (Q:Bool->Hp->Prop),Inv X pins σ H s->t σ H Q->wpAny (model X.prog X.w) X.A (isTrue e X.env whole) (TP X pins σ Q) X.xe s
theorem PW.pt {X:Cx} {e:Expr} {t:TT} (h:PW X e t):PT X e t:=h _
def PA (X:Cx) (es:List Expr) (t:TA):Prop:=
 ∀ (pos:Pos) (pins:List (Addr × Obj)) (s:Shared) (σ:St) (H:Hp) (Q:List V->Hp->Prop),Inv X pins σ H s->t σ H Q->wpAny (model X.prog X.w) X.A (spliced (backTo pos (starEach es X.env))) (AP X pins σ Q) X.xe s
def PS (X:Cx) (st:Stmt) (t:TS):Prop:=
 ∀ (pins:List (Addr × Obj)) (s:Shared) (σ:St) (H:Hp) (D:eG),Inv X pins σ H s->t D σ H->wpAny (model X.prog X.w) X.A (exec st X.env) (SP X pins D) X.xe s
def PSs (X:Cx) (st:List Stmt) (t:TS):Prop:=
 ∀ (pins:List (Addr × Obj)) (s:Shared) (σ:St) (H:Hp) (D:eG),Inv X pins σ H s->t D σ H->wpAny (model X.prog X.w) X.A (execs st X.env) (SP X pins D) X.xe s
theorem thn {α:Type} {t:Sem α} {Q Q':α->Shared->Prop} {M:Model} {A:Around} {E:Value->Shared->Prop} {s:Shared} (h:wpAny M A t Q E s) (hQ:∀ a s,Q a s->Q' a s):wpAny M A t Q' E s:=wpAny_mono h hQ λ_ _ x=>x
section
variable {X:Cx}
theorem bin {a b:Expr} {ta tb:TE} (ha:PE X a ta) (hb:PE X b tb) {pins:List (Addr × Obj)} {s:Shared} {σ:St} {H:Hp} {R:V->V->Hp->Prop} (I:Inv X pins σ H s) (h:ta σ H λx H1=>tb σ H1 λy H2=>R x y H2)
  {α:Type} {Q:α->Shared->Prop} {f:Value->Value->Sem α}
  (hf:∀ v u s2 x y H2,Inv X pins σ H2 s2->m8 x v->m8 y u->R x y H2->wpAny (model X.prog X.w) X.A (f v u) Q X.xe s2) :
  wpAny (model X.prog X.w) X.A (eval a X.env) (λv s₁=>wpAny (model X.prog X.w) X.A (eval b X.env) (λu s₂=>wpAny (model X.prog X.w) X.A (f v u) Q X.xe s₂) X.xe s₁) X.xe s:=by
 refine thn (ha pins s σ H _ I h) λv s1 ⟨x,H1,I1,r1,q1⟩=>?_
 refine thn (hb pins s1 σ H1 _ I1 q1) λu s2 ⟨y,H2,I2,r2,q2⟩=>?_
 exact hf v u s2 x y H2 I2 r1 r2 q2
def tVar (i:Nat):TE:=λσ H Q=>∃ v,σ[i]? = some (some v)/\Q v H
def tC (v:V):TE:=λ_ H Q=>Q v H
theorem pe_var {i:Nat} {x:Str} {pos:Pos} (hN:X.N[i]? = some x) (hv:Vis X.env.scope x) (hd:(x == ("__debug__" : Str))=false:=by decide) (hcd:(x == ("__classdict__" : Str))=false:=by decide):PE X (.Name x pos) (tVar i):=by
 intro pins s σ H Q I h
 obtain ⟨v,e,h⟩:=h
 obtain ⟨m,hn,hl⟩:=I.loc
 obtain ⟨u,r,l⟩:=hl i x v hN e hv
 have fin:EP X pins σ Q u s:=⟨v,H,I,r,h⟩
 rcases l with ⟨hk,hm⟩ | ⟨hk,c,hc,hcell⟩
 ·exact wpAny_Name (wpAny_loadName_local I.ok.kind hk hn hm fin) hd
 ·rcases hk with hk | hk
  ·exact wpAny_Name (wpAny_loadName_cell I.ok.kind hk hc hcell fin) hd
  ·exact wpAny_Name (wpAny_loadName_free I.ok.kind hk hc hcell fin hcd) hd
theorem ae {i j pos}:PE X (.Constant (.int i) j pos) (tC (.int i)):=λ_ _ _ H _ I h=>wpAny_Constant_int ⟨.int i,H,I.tok _,⟨_,rfl⟩,h⟩
theorem fH {b j pos}:PE X (.Constant (.bool b) j pos) (tC (.bl b)):=λ_ _ _ H _ I h=>Constant_bool ⟨.bl b,H,I,rfl,h⟩
theorem jr {j pos}:PE X (.Constant .none j pos) (tC .non):=λ_ _ _ H _ I h=>Constant_none ⟨.non,H,I,rfl,h⟩
theorem lF {x j pos}:PE X (.Constant (.str x) j pos) (tC (.str x)):=λ_ _ _ H _ I h=>Calls.Constant_str ⟨.str x,H,I.tok _,⟨_,rfl⟩,h⟩
def Gl (X:Cx) (x:Str):Prop:=X.env.kindOf x=some .globalImplicit
theorem dZ {E:Value->Shared->Prop} {pins:List (Addr × Obj)} {s:Shared} {σ:St} {H:Hp} {x:Str} {u:Value} {pos:Pos} {Q:Value->Shared->Prop} (I:Inv X pins σ H s) (hg:Gl X x) (hm:X.mg x=some u) (h:Q u s)
  (hd:(x == ("__debug__" : Str))=false:=by decide):wpAny (model X.prog X.w) X.A (eval (.Name x pos) X.env) Q E s:=
 Calls.Name_function_global I.ok.kind hg (Calls.loadGlobal_global (by rw [I.ok.glob]; exact I.mod.glob.keeps I.bk) hm h) hd
theorem dO {E:Value->Shared->Prop} {pins:List (Addr × Obj)} {s:Shared} {σ:St} {H:Hp} {x:Str} {u:Value} {pos:Pos} {Q:Value->Shared->Prop} (I:Inv X pins σ H s) (hg:Gl X x) (hm:X.mg x=none) (hv:bootBuiltins x=some u) (h:Q u s)
  (hn:x ≠ "__name__":=by decide) (hd:(x == ("__debug__" : Str))=false:=by decide):wpAny (model X.prog X.w) X.A (eval (.Name x pos) X.env) Q E s:=by
 obtain ⟨mb,h1,h2⟩:=I.mod.blt
 exact Calls.Name_function_global I.ok.kind hg (Calls.loadGlobal_builtin (by rw [I.ok.glob]; exact I.mod.glob.keeps I.bk) hm (by rw [I.ok.blt]; exact h1.keeps I.bk) ((h2 x hn).trans hv) h) hd
theorem cS {x:Str} {v:V} {u:Value} {pos:Pos} (hg:Gl X x) (hm:X.mg x=some u) (r:m8 v u) (hd:(x == ("__debug__" : Str))=false:=by decide):PE X (.Name x pos) (tC v):=
 λ_ _ _ H _ I h=>dZ I hg hm ⟨v,H,I,r,h⟩ hd
theorem pe_bltn {x:Str} {v:V} {u:Value} {pos:Pos} (hg:Gl X x) (hm:X.mg x=none) (hv:bootBuiltins x=some u) (r:m8 v u) (hn:x ≠ "__name__":=by decide) (hd:(x == ("__debug__" : Str))=false:=by decide):PE X (.Name x pos) (tC v):=
 λ_ _ _ H _ I h=>dO I hg hm hv ⟨v,H,I,r,h⟩ hn hd
variable {a b:Expr} {ta tb:TE} {pos:Pos}
def PC (X:Cx) (op:CmpOp) (a b:Expr) (t:TE):Prop:=
 ∀ (pins:List (Addr × Obj)) (s:Shared) (σ:St) (H:Hp) (Q:VK),Inv X pins σ H s->t σ H Q->
  wpAny (model X.prog X.w) X.A (eval a X.env) (λv s₁=>wpAny (model X.prog X.w) X.A (eval b X.env) (λu s₂=>wpAny (model X.prog X.w) X.A (compareOp op v u) (EP X pins σ Q) X.xe s₂) X.xe s₁) X.xe s
def tB (t:TE):TT:=λσ H Q=>t σ H λx H1=>∃ c,x=.bl c/\Q c H1
theorem pt_cmp {op:CmpOp} {t:TE} (h:PC X op a b t) (h1:behindInMarks op b=false:=by first | exact nobehind _ (by decide) (by decide) | rfl):PT X (.Compare a [op] [b] pos) (tB t):=by
 intro pins s σ H Q I hw
 refine wpAny_isTrue_Compare1 (thn (h pins s σ H _ I hw) λv s1 h1=>thn h1 λu s2 h2=>thn h2 λc s3 ⟨x,H1,I1,r1,q1⟩=>?_) h1
 obtain ⟨d,rfl,q⟩:=q1
 cases r1
 exact wpAny_truthy_bool ⟨H1,I1,q⟩
theorem fT {e:Expr} {t:TE} (h:PE X e t) (he:∀ whole,isTrue e X.env whole=(do let v <- whole; standAt e.pos; holding [v] (truthy v)):=by intro _; rfl):PT X e (tB t):=by
 intro pins s σ H Q I hw
 refine isTrue_plain (thn (h pins s σ H _ I hw) λv s1 ⟨x,H1,I1,r1,q1⟩=>?_) (he _)
 obtain ⟨d,rfl,q⟩:=q1
 cases r1
 exact wpAny_truthy_bool ⟨H1,I1,q⟩
variable {tA tB':TT} {rest:List Expr}
def tAnd (t u:TT):TT:=λσ H Q=>t σ H λc H1=>if c=true then u σ H1 Q else Q false H1
def tOr (t u:TT):TT:=λσ H Q=>t σ H λc H1=>if c=true then Q true H1 else u σ H1 Q
def tNot (t:TT):TT:=λσ H Q=>t σ H λc H1=>Q (!c) H1
theorem pw_and1 (ha:PT X a tA):PW X (.BoolOp .And [a] pos) tA:=by
 intro wh pins s σ H Q I h
 refine isTrue_and (thn (ha pins s σ H Q I h) λc s1 e=>?_)
 cases c with
 | true=>exact isTrue_and_nil e
 | false=>exact e
theorem gd (ha:PT X a tA):PW X (.BoolOp .Or [a] pos) tA:=by
 intro wh pins s σ H Q I h
 refine isTrue_or (thn (ha pins s σ H Q I h) λc s1 e=>?_)
 cases c with
 | false=>exact isTrue_or_nil e
 | true=>exact e
theorem pw_and (ha:PT X a tA) (hb:PW X (.BoolOp .And (b::rest) pos) tB'):PW X (.BoolOp .And (a::b::rest) pos) (tAnd tA tB'):=by
 intro wh pins s σ H Q I h
 refine isTrue_and (thn (ha pins s σ H _ I h) λc s1 ⟨H1,I1,q1⟩=>?_)
 cases c with
 | true=>exact hb wh pins s1 σ H1 Q I1 q1
 | false=>exact ⟨H1,I1,q1⟩
theorem gB (ha:PT X a tA) (hb:PW X (.BoolOp .Or (b::rest) pos) tB'):PW X (.BoolOp .Or (a::b::rest) pos) (tOr tA tB'):=by
 intro wh pins s σ H Q I h
 refine isTrue_or (thn (ha pins s σ H _ I h) λc s1 ⟨H1,I1,q1⟩=>?_)
 cases c with
 | true=>exact ⟨H1,I1,q1⟩
 | false=>exact hb wh pins s1 σ H1 Q I1 q1
theorem lC (ha:PT X a tA):PT X (.UnaryOp .Not a pos) (tNot tA):=by
 intro pins s σ H Q I h
 exact isTrue_not (ha pins s σ H (λc H1=>Q (!c) H1) I h)
def tAndV (ta tb:TE):TE:=λσ H Q=>ta σ H λx H1=>∃ c,x=.bl c/\if c=true then tb σ H1 Q else Q (.bl false) H1
def tNotV (ta:TE):TE:=λσ H Q=>ta σ H λx H1=>∃ c,x=.bl c/\Q (.bl (!c)) H1
theorem pe_one {op} {t:TE} (h:PE X a t):PE X (.BoolOp op [a] pos) t:=λpins s σ H Q I hw=>BoolOp_one (h pins s σ H Q I hw)
theorem md (ha:PE X a ta) (hb:PE X (.BoolOp .And (b::rest) pos) tb):PE X (.BoolOp .And (a::b::rest) pos) (tAndV ta tb):=by
 intro pins s σ H Q I h
 refine BoolOp_and (thn (ha pins s σ H _ I h) λv s1 ⟨x,H1,I1,r1,q1⟩=>?_)
 obtain ⟨c,rfl,q1⟩:=q1
 cases r1
 refine wpAny_truthy_bool ?_
 cases c with
 | true=>exact hb pins s1 σ H1 Q I1 q1
 | false=>exact ⟨.bl false,H1,I1,rfl,q1⟩
theorem pe_not (ha:PE X a ta):PE X (.UnaryOp .Not a pos) (tNotV ta):=by
 intro pins s σ H Q I h
 refine UnaryOp_ (thn (ha pins s σ H _ I h) λv s1 ⟨x,H1,I1,r1,q1⟩=>?_)
 obtain ⟨c,rfl,q1⟩:=q1
 cases r1
 exact not_of (wpAny_truthy_bool ⟨.bl (!c),H1,I1,rfl,q1⟩)
def tIf (t:TT) (ta tb:TE):TE:=λσ H Q=>t σ H λc H1=>if c=true then ta σ H1 Q else tb σ H1 Q
theorem pe_ifExp {c:Expr} (hc:PT X c tA) (ha:PE X a ta) (hb:PE X b tb):PE X (.IfExp c a b pos) (tIf tA ta tb):=by
 intro pins s σ H Q I h
 refine wpAny_IfExp (thn (hc pins s σ H _ I h) λd s1 ⟨H1,I1,q1⟩=>?_)
 cases d with
 | true=>exact ha pins s1 σ H1 Q I1 q1
 | false=>exact hb pins s1 σ H1 Q I1 q1
end
def SqL (K:Frag) (H:Hp) (a:Addr) (xs:List V):Prop:=
 Rd H a (.lst xs) \/
  ∃ (o:Obj) (its:Array Value) (n:Nat),K.lookup a=some o/\o.cls=.type "list"/\o.dict=none/\o.data=.seq its n/\its.size<=sizeLine/\ni xs its.toList
def SqT (K:Frag) (H:Hp) (a:Addr) (xs:List V):Prop:=
 Rd H a (.tup xs) \/
  ∃ (o:Obj) (its:Array Value) (n:Nat),K.lookup a=some o/\o.cls=.type "tuple"/\o.data=.seq its n/\its.size<=sizeLine/\ni xs its.toList
def absV:Value->Option V
 | .none=>some .non
 | .bool b=>some (.bl b)
 | .int i _=>some (.int i)
 | .str x _=>some (.str x)
 | .bytes b _=>some (.byt b)
 | .float b _=>some (.flt b)
 | .ref a=>some (.ref a)
 | .type n=>some (.ty n)
 | _=>none
theorem m8.abs {x:V} {u:Value} (r:m8 x u):absV u=some x:=by
 cases x with
 | non=>cases r; rfl
 | bl _=>cases r; rfl
 | int _=>obtain ⟨t,rfl⟩:=r; rfl
 | str _=>obtain ⟨t,rfl⟩:=r; rfl
 | byt _=>obtain ⟨t,rfl⟩:=r; rfl
 | flt _=>obtain ⟨t,rfl⟩:=r; rfl
 | ref _=>cases r; rfl
 | ty _=>cases r; rfl
theorem m8.inj {x y:V} {u:Value} (r:m8 x u) (q:m8 y u):x=y:=Option.some.inj (r.abs.symm.trans q.abs)
theorem ni.inj:∀ {xs ys:List V} {us:List Value},ni xs us->ni ys us->xs=ys
 | _,_,_,.nil,.nil=>rfl
 | _,_,_,.cons r t,.cons r' t'=>by rw [r.inj r',ni.inj t t']
section
variable {X:Cx} {pins:List (Addr × Obj)} {σ:St} {H:Hp} {s:Shared} {a:Addr} {xs ys:List V}
theorem SqL.of {K:Frag} (h:H a=some (.lst xs)):SqL K H a xs:=.inl (.inl h)
theorem SqT.of {K:Frag} (h:H a=some (.tup xs)):SqT K H a xs:=.inl (.inl h)
theorem Inv.list (I:Inv X pins σ H s) (h:SqL X.K H a xs):∃ its:List Value,ni xs its/\PlainL s.heap a its.toArray/\xs.length<=sizeLine:=by
 rcases h with h | ⟨o,its,n,hk,hc,hd,hs,hz,r⟩
 ·obtain ⟨z,its,n,r,e⟩:=h.ok I.hok
  exact ⟨its,r,⟨_,n,e,rfl,rfl,rfl⟩,z⟩
 ·refine ⟨its.toList,r,⟨o,n,I.kIn a o hk,hc,hd,by simpa using hs⟩,?_⟩
  have e:=r.length
  simp only [Array.length_toList] at e
  omega
theorem Inv.tuple (I:Inv X pins σ H s) (h:SqT X.K H a xs):∃ its:List Value,ni xs its/\IsTup s.heap a its.toArray/\xs.length<=sizeLine:=by
 rcases h with h | ⟨o,its,n,hk,hc,hs,hz,r⟩
 ·obtain ⟨z,its,r,p⟩:=h.ok I.hok
  exact ⟨its,r,p,z⟩
 ·refine ⟨its.toList,r,⟨o,I.kIn a o hk,hc,n,by simpa using hs⟩,?_⟩
  have e:=r.length
  simp only [Array.length_toList] at e
  omega
theorem Inv.list_inj (I:Inv X pins σ H s) (h:SqL X.K H a xs) (h':SqL X.K H a ys):xs=ys:=by
 obtain ⟨its,r,⟨o,n,e,_,_,d⟩,_⟩:=I.list h
 obtain ⟨its',r',⟨o',n',e',_,_,d'⟩,_⟩:=I.list h'
 rw [e] at e'; cases e'
 rw [d] at d'
 injection d' with d1 _
 have:its=its':=by simpa using congrArg Array.toList d1
 subst this
 exact r.inj r'
theorem Inv.tuple_inj (I:Inv X pins σ H s) (h:SqT X.K H a xs) (h':SqT X.K H a ys):xs=ys:=by
 obtain ⟨its,r,⟨o,e,_,n,d⟩,_⟩:=I.tuple h
 obtain ⟨its',r',⟨o',e',_,n',d'⟩,_⟩:=I.tuple h'
 rw [e] at e'; cases e'
 rw [d] at d'
 injection d' with d1 _
 have:its=its':=by simpa using congrArg Array.toList d1
 subst this
 exact r.inj r'
end
abbrev Cx.wish (X:Cx) (E:Value->Shared->Prop):Cx:={ X with xe:=E }
abbrev Cx.nox (X:Cx):Cx:=X.wish λ_ _=>False
theorem Cx.Ok.wish {X:Cx} (ok:X.Ok) (E:Value->Shared->Prop):(X.wish E).Ok:=
 ⟨ok.mod,ok.kind,ok.glob,ok.blt,ok.above,ok.inj,ok.has,ok.cab,ok.hd,ok.frames,ok.stk,ok.exf,ok.bs,ok.bsz,ok.noex,ok.exfs,ok.funs,ok.frf⟩
theorem Cx.Ok.unwish {X:Cx} {E:Value->Shared->Prop} (ok:(X.wish E).Ok):X.Ok:=
 ⟨ok.mod,ok.kind,ok.glob,ok.blt,ok.above,ok.inj,ok.has,ok.cab,ok.hd,ok.frames,ok.stk,ok.exf,ok.bs,ok.bsz,ok.noex,ok.exfs,ok.funs,ok.frf⟩
section
variable {X:Cx} {pins:List (Addr × Obj)} {σ:St} {H:Hp} {s:Shared} {E:Value->Shared->Prop}
theorem Inv.wish (I:Inv X pins σ H s) (E:Value->Shared->Prop):Inv (X.wish E) pins σ H s:=⟨I.ok.wish E,I.os,I.bare,I.base,I.loc,I.cell,I.free,I.freeC,I.pin,I.hok,I.len⟩
theorem Inv.unwish (I:Inv (X.wish E) pins σ H s):Inv X pins σ H s:=⟨I.ok.unwish,I.os,I.bare,I.base,I.loc,I.cell,I.free,I.freeC,I.pin,I.hok,I.len⟩
theorem SP.unwish {D:eG} {f:Flow} {s':Shared} (h:SP (X.wish E) pins D f s'):SP X pins D f s':=by
 cases f with
 | next=>obtain ⟨σ',H',I,q⟩:=h; exact ⟨σ',H',I.unwish,q⟩
 | brk=>obtain ⟨σ',H',I,q⟩:=h; exact ⟨σ',H',I.unwish,q⟩
 | cont=>obtain ⟨σ',H',I,q⟩:=h; exact ⟨σ',H',I.unwish,q⟩
 | ret u=>obtain ⟨v,σ',H',I,r,q⟩:=h; exact ⟨v,σ',H',I.unwish,r,q⟩
theorem PSs.nox {st:List Stmt} {t:TS} (h:PSs X.nox st t):PSs X st t:=λpins s σ H D I hw=>
 wpAny_mono (h pins s σ H D (I.wish _) hw) (λ_ _ q=>q.unwish) λ_ _ z=>False.elim z
end
section
variable {X:Cx} {st:Stmt} {rest:List Stmt} {t u:TS} {e:Expr} {te:TE} {pos:Pos}
def tNext:TS:=λD σ H=>D.nx σ H
def cH (t u:TS):TS:=λD σ H=>t { D with nx:=u D } σ H
theorem aB:PSs X [] tNext:=λ_ _ σ H _ I h=>wpAny_execs_nil ⟨σ,H,I,h⟩
theorem ag (h1:PS X st t) (h2:PSs X rest u):PSs X (st::rest) (cH t u):=by
 intro pins s σ H D I h
 refine wpAny_execs_cons (thn (h1 pins s σ H { D with nx:=u D } I h) λf s1 q=>?_)
 cases f with
 | next=>
  obtain ⟨σ',H',I',q⟩:=q
  exact h2 pins s1 σ' H' D I' q
 | ret v=>exact q
 | brk=>exact q
 | cont=>exact q
theorem aj (h1:PS X st t):PSs X [st] t:=by
 intro pins s σ H D I h
 refine wpAny_execs_cons (thn (h1 pins s σ H D I h) λf s1 q=>?_)
 cases f with
 | next=>exact wpAny_execs_nil q
 | ret v=>exact q
 | brk=>exact q
 | cont=>exact q
theorem Inv.quiet {pins:List (Addr × Obj)} {σ:St} {H:Hp} {s:Shared} (I:Inv X pins σ H s):interactive X.env=false:=by simp [interactive,I.ok.kind]
def tDrop (te:TE):TS:=λD σ H=>te σ H λ_ H1=>D.nx σ H1
theorem cE (he:PE X e te) (hs:swapsWith e none pos.line X.env=pure false:=by rfl):PS X (.Expr e pos) (tDrop te):=by
 intro pins s σ H D I h
 exact wpAny_Expr_any (thn (he pins s σ H _ I h) λv s1 ⟨x,H1,I1,r1,q1⟩=>⟨σ,H1,I1,q1⟩) I.quiet hs
def tRet (te:TE):TS:=λD σ H=>te σ H D.rt
theorem ar (he:PE X e te):PS X (.Return (some e) pos) (tRet te):=by
 intro pins s σ H D I h
 exact wpAny_Return_some (thn (he pins s σ H _ I h) λv s1 ⟨x,H1,I1,r1,q1⟩=>⟨x,σ,H1,I1,r1,q1⟩)
def hV (c:TT) (t u:TS):TS:=λD σ H=>c σ H λb H1=>if b=true then t D σ H1 else u D σ H1
theorem aJ {c:Expr} {a b:List Stmt} {tc:TT} (hc:PT X c tc) (ha:PSs X a t) (hb:PSs X b u):PS X (.If c a b pos) (hV tc t u):=by
 intro pins s σ H D I h
 refine wpAny_If (thn (hc pins s σ H _ I h) λd s1 ⟨H1,I1,q1⟩=>?_)
 cases d with
 | true=>exact ha pins s1 σ H1 D I1 q1
 | false=>exact hb pins s1 σ H1 D I1 q1
def tNever:TS:=λ_ _ _=>False
theorem ps_never:PS X st tNever:=λ_ _ _ _ _ _ h=>h.elim
end
abbrev TG:=V->St->Hp->(St->Hp->Prop)->Prop
abbrev TGs:=List V->St->Hp->(St->Hp->Prop)->Prop
def PG (X:Cx) (target:Expr) (t:TG):Prop:=
 ∀ (pins:List (Addr × Obj)) (s:Shared) (σ:St) (H:Hp) (v:V) (u:Value) (Q:St->Hp->Prop),Inv X pins σ H s->m8 v u->t v σ H Q->
  wpAny (model X.prog X.w) X.A (assign target X.env u) (λ_ s'=>∃ σ' H',Inv X pins σ' H' s'/\Q σ' H') X.xe s
def PGs (X:Cx) (ts:List Expr) (t:TGs):Prop:=
 ∀ (pins:List (Addr × Obj)) (s:Shared) (σ:St) (H:Hp) (vs:List V) (us:List Value) (Q:St->Hp->Prop),Inv X pins σ H s->ni vs us->t vs σ H Q->
  wpAny (model X.prog X.w) X.A (assignInOrder ((assignEach ts X.env).map (·.2)) us) (λ_ s'=>∃ σ' H',Inv X pins σ' H' s'/\Q σ' H') X.xe s
abbrev TSet:=V->V->V->Hp->(Hp->Prop)->Prop
def PSet (X:Cx) (t:TSet):Prop:=
 ∀ (pins:List (Addr × Obj)) (s:Shared) (σ:St) (H:Hp) (o i v:V) (ov iv u:Value) (Q:Hp->Prop),Inv X pins σ H s->m8 o ov->m8 i iv->m8 v u->t o i v H Q->
  wpAny (model X.prog X.w) X.A (setItem ov iv u) (λ_ s'=>∃ H',Inv X pins σ H' s'/\Q H') X.xe s
section
variable {X:Cx} {pos:Pos}
def cB (i:Nat):TG:=λv σ H Q=>Q (σ.set i (some v)) H
theorem aD {i:Nat} {x:Str} (hN:X.N.Nodup) (hi:X.N[i]? = some x) (hx:Loc X.env.scope x) (hf:X.fn x=true\/X.env.scope.names.lookup x=some .local:=by first | exact .inl rfl | exact .inr rfl | assumption):PG X (.Name x pos) (cB i):=by
 intro pins s σ H v u Q I r h
 exact wpAny_assign_Name (eO I hN hi hx r (λs' I'=>⟨_,H,I',h⟩) hf)
def gNil:TGs:=λvs σ H Q=>vs=[]/\Q σ H
def je (t:TG) (u:TGs):TGs:=λvs σ H Q=>∃ v r,vs=v::r/\t v σ H λσ' H'=>u r σ' H' Q
theorem dW:PGs X [] gNil:=by
 intro pins s σ H vs us Q I r h
 obtain ⟨e,h⟩:=h
 subst e
 cases r
 exact assignInOrder_nil ⟨σ,H,I,h⟩
theorem aI {e:Expr} {es:List Expr} {t:TG} {u:TGs} (h1:PG X e t) (h2:PGs X es u)
  (hs:(assignEach (e::es) X.env).map (·.2)=assign e X.env::(assignEach es X.env).map (·.2):=by rfl):PGs X (e::es) (je t u):=by
 intro pins s σ H vs us Q I r h
 obtain ⟨v,vr,e1,h⟩:=h
 subst e1
 cases r with
 | cons r rr=>
  rw [hs]
  refine assignInOrder_cons (thn (h1 pins s σ H _ _ _ I r h) λ_ s1 ⟨σ1,H1,I1,q1⟩=>?_)
  exact h2 pins s1 σ1 H1 _ _ Q I1 rr q1
def gTup (K:Frag) (n:Nat) (t:TGs):TG:=λv σ H Q=>∃ a xs,v=.ref a/\SqT K H a xs/\xs.length=n/\t xs σ H Q
theorem f8 {es:List Expr} {k:Nat} {t:TGs} {n:Nat} (hc:X.calm=true) (h:PGs X es t)
  (hn:(assignEach es X.env).length=n:=by rfl) (hst:(assignEach es X.env).findIdx? (·.1)=none:=by rfl):PG X (.Tuple es k pos) (gTup X.K n t):=by
 intro pins s σ H v u Q I r hw
 obtain ⟨a,xs,e1,hq,hl,hw⟩:=hw
 subst e1
 cases r
 obtain ⟨its,rv,ht,hz⟩:=I.tuple hq
 refine assign_Tuple_tuple (I.ok.hd hc) ht (by simp [hn,<- hl,rv.length]) hst λh' hx=>?_
 have I1:Inv X pins σ H { s with heap:=h' }:=I.kept (t':=s.toks) λb o e=>hx b o (Nat.ne_of_lt (lt_size e)) e
 exact h pins _ σ H xs _ Q I1 (by simpa using rv) hw
def gSub (to ti:TE) (t:TSet):TG:=λv σ H Q=>to σ H λo H1=>ti σ H1 λi H2=>t o i v H2 λH3=>Q σ H3
theorem mR {o i:Expr} {to ti:TE} {t:TSet} (ho:PE X o to) (hi:PE X i ti) (hs:PSet X t)
  (ha:∀ v,assign (.Subscript o i pos) X.env v=(do
   let ov <- holding [v] (eval o X.env)
   let iv <- holding [v,ov] (eval i X.env)
   standAt pos
   holding [v,ov,iv] (setItem ov iv v)
   release [v,ov,iv] []):=by intro _; rfl):PG X (.Subscript o i pos) (gSub to ti t):=by
 intro pins s σ H v u Q I r h
 rw [ha]
 refine wpAny_bind (wpAny_holding (thn (ho pins s σ H _ I h) λov s1 ⟨x,H1,I1,r1,q1⟩=>?_))
 refine wpAny_bind (wpAny_holding (thn (hi pins s1 σ H1 _ I1 q1) λiv s2 ⟨y,H2,I2,r2,q2⟩=>?_))
 refine wpAny_bind (wpAny_standAt (wpAny_bind (wpAny_holding (thn (hs pins s2 σ H2 x y v ov iv u _ I2 r1 r2 r q2) λ_ s3 ⟨H3,I3,q3⟩=>?_))))
 exact wpAny_release ⟨σ,H3,I3,q3⟩
def tAsg (te:TE) (g:TG):TS:=λD σ H=>te σ H λx H1=>g x σ H1 D.nx
theorem e7 {tg e:Expr} {te:TE} {g:TG} (he:PE X e te) (hg:PG X tg g) (hs:swapsWithSole [tg] e pos.line X.env=pure false:=by rfl) (hw:swappedStores [tg] e X.env=pure none:=by rfl)
  (h1:(assignEach [tg] X.env).map (·.2)=[assign tg X.env]:=by rfl):PS X (.Assign [tg] e pos) (tAsg te g):=by
 intro pins s σ H D I h
 refine wpAny_Assign_stores (thn (he pins s σ H _ I h) λv s1 ⟨x,H1,I1,r1,q1⟩=>?_) hs hw
 rw [h1]
 exact thn (hg pins s1 σ H1 x v _ I1 r1 q1) λ_ s2 q=>q
theorem aq {i:Nat} {x:Str} {e:Expr} {te:TE} {pos':Pos} (hN:X.N.Nodup) (hi:X.N[i]? = some x) (hx:Loc X.env.scope x) (he:PE X e te) (hs:swapsWith e (some (.Name x pos')) pos.line X.env=pure false:=by rfl) (hf:X.fn x=true\/X.env.scope.names.lookup x=some .local:=by first | exact .inl rfl | exact .inr rfl | assumption) :
  PS X (.Assign [.Name x pos'] e pos) (tAsg te (cB i)):=by
 intro pins s σ H D I h
 refine wpAny_Assign_Name (thn (he pins s σ H _ I h) λv s1 ⟨y,H1,I1,r1,q1⟩=>?_) hs
 exact eO I1 hN hi hx r1 (λs2 I2=>⟨_,H1,I2,q1⟩) hf
def tPar (i j:Nat) (ta:TA):TS:=λD σ H=>ta σ H λvs H1=>∃ v w,vs=[v,w]/\D.nx ((σ.set i (some v)).set j (some w)) H1
theorem ps_par {i j:Nat} {x y:Str} {a b:Expr} {ta:TA} {px py pt:Pos} {kt k2 pt2} (hc:X.calm=true) (hN:X.N.Nodup) (hi:X.N[i]? = some x) (hj:X.N[j]? = some y) (hij:i ≠ j)
  (hx:X.env.scope.names.lookup x=some .local) (hy:X.env.scope.names.lookup y=some .local) (ha:PA X [a,b] ta)
  (hw:swappedStores [.Tuple [.Name x px,.Name y py] kt pt] (.Tuple [a,b] k2 pt2) X.env=pure (some [x,y]))
  (hs:swapsWithSole [.Tuple [.Name x px,.Name y py] kt pt] (.Tuple [a,b] k2 pt2) pos.line X.env=pure false:=by rfl) :
  PS X (.Assign [.Tuple [.Name x px,.Name y py] kt pt] (.Tuple [a,b] k2 pt2) pos) (tPar i j ta):=by
 intro pins s σ H D I h
 rw [exec_Assign_arm]
 refine wpAny_bind (wpAny_standAt ?_)
 rw [hs]
 refine wpAny_bind (wpAny_pure ?_)
 rw [if_neg (by decide)]
 refine wpAny_bind (Tuple_ (thn (ha _ pins s σ H _ I h) λus s1 ⟨vs,H1,I1,r1,q1⟩=>?_))
 obtain ⟨v,w,e1,q1⟩:=q1
 subst e1
 obtain ⟨u1,u2,rfl,rv,rw'⟩:∃ u1 u2,us=[u1,u2]/\m8 v u1/\m8 w u2:=by
  cases r1 with
  | cons p q=>
   cases q with
   | cons p' q'=>
    cases q'
    exact ⟨_,_,rfl,p,p'⟩
 refine wpAny_newObj_type ?_ (by show 2<=sizeLine; decide)
 have I2:Inv X pins σ H1 { s1 with heap:=s1.heap.push { cls:=.type "tuple",data:=.seq [u1,u2].toArray } }:=I1.kept (t':=s1.toks) λb o e=>get?_push_of_some _ e
 rw [hw]
 refine wpAny_bind (wpAny_pure ?_)
 show wpAny (model X.prog X.w) X.A (do rule "assign.swapped-stores"; let items <- unpackItems (.ref s1.heap.objs.size) 2 none; assignInOrder [λv=>bindName X.env y v,λv=>bindName X.env x v] items.reverse; pure Flow.next) _ _ _
 refine wpAny_bind (wpAny_rule (wpAny_bind (unpackItems_tuple (items:=#[u1,u2]) (I.ok.hd hc) (IsTup.new s1.heap _) λh' hx'=>?_)))
 have I3:=I2.kept (h':=h') (t':=s1.toks) λb o e=>hx' b o (Nat.ne_of_lt (lt_size e)) e
 show wpAny _ _ (assignInOrder [λv=>bindName X.env y v,λv=>bindName X.env x v] [u2,u1] >>= λ_=>pure Flow.next) _ _ _
 refine wpAny_bind (assignInOrder_cons (wpAny_bindName (eO I3 hN hj (.inl hy) rw' (λs2 I4=>?_) (.inr hy))))
 refine assignInOrder_cons (wpAny_bindName (eO I4 hN hi (.inl hx) rv (λs3 I5=>assignInOrder_nil (wpAny_pure ?_)) (.inr hx)))
 rw [List.set_comm _ _ (Ne.symm hij)] at I5
 exact ⟨_,H1,I5,q1⟩
end
section
variable {X:Cx} {pos:Pos}
def tWhile (c:TT) (tb:TS):TS:=λD σ H=>∃ W:Nat->St->Hp->Prop,(∃ m,W m σ H)/\∀ m σ H,W m σ H->
 c σ H λb H1=>if b=true then ∃ N:St->Hp->Prop,(∀ σ' H',N σ' H'->∃ m',m' < m/\W m' σ' H')/\tb { D with nx:=N,ct:=N,bk:=D.nx } σ H1 else D.nx σ H1
theorem eM {c:Expr} {body:List Stmt} {tc:TT} {tb:TS} (hp:PassesOwn (model X.prog X.w) X.A X.env X.xe) (hc:PT X c tc) (hb:PSs X body tb):PS X (.While c body [] pos) (tWhile tc tb):=by
 intro pins s σ H D I h
 obtain ⟨W,⟨m0,w0⟩,turn⟩:=h
 refine wpAny_While (codeAny_whileLoop (λn s'=>∃ σ' H',Inv X pins σ' H' s'/\W n σ' H') ?_ m0 ⟨σ,H,I,w0⟩)
 rintro n s1 ⟨σ1,H1,I1,w1⟩
 refine wpAny_passesOwn hp (thn (hc pins s1 σ1 H1 _ I1 (turn n σ1 H1 w1)) λb s2 ⟨H2,I2,q2⟩=>?_)
 cases b with
 | true=>
  obtain ⟨N,hN,q2⟩:=q2
  rw [if_pos rfl]
  refine wpAny_passesOwn hp (thn (hb pins s2 σ1 H2 _ I2 q2) λf s3 q3=>?_)
  cases f with
  | next=>
   obtain ⟨σ3,H3,I3,n3⟩:=q3
   obtain ⟨m',hm,w3⟩:=hN σ3 H3 n3
   exact ⟨m',hm,σ3,H3,I3,w3⟩
  | cont=>
   obtain ⟨σ3,H3,I3,n3⟩:=q3
   obtain ⟨m',hm,w3⟩:=hN σ3 H3 n3
   exact ⟨m',hm,σ3,H3,I3,w3⟩
  | brk=>exact q3
  | ret v=>exact q3
 | false=>
  rw [if_neg Bool.false_ne_true]
  exact wpAny_execs_nil ⟨σ1,H2,I2,q2⟩
end
structure It where
 go:Nat->Hp->Prop
 yld:Nat->Hp->V->Hp->Prop
 stop:Nat->Hp->Prop
def nI (X:Cx) (pins:List (Addr × Obj)) (H:Hp) (b:Addr):Prop:=
 H b=none/\b ≠ X.env.locals/\b ∉ X.fs/\(b ∈ X.ex\/X.s₀.heap.objs.size<=b)/\(∀ x c,X.env.cells.lookup x=some c->c ≠ b)/\∀ p ∈ X.pn++pins,p.1 ≠ b
theorem Inv.fpOk {X:Cx} {pins:List (Addr × Obj)} {σ:St} {H H':Hp} {s:Shared} {b:Addr} (I:Inv X pins σ H s) (hb:s.heap.objs.size<=b) (hn:H' b=none):nI X pins H' b:=by
 refine ⟨hn,Nat.ne_of_gt (Nat.lt_of_lt_of_le I.lt hb),I.nofs hb,.inr (Nat.le_trans I.sz hb),λx c e z=>?_,λp hp z=>?_⟩
 ·obtain ⟨v,q⟩:=I.cell x c e
  exact absurd (Nat.lt_of_lt_of_le q.lt (by rw [z]; exact hb)) (Nat.lt_irrefl _)
 ·exact absurd (Nat.lt_of_lt_of_le (lt_size (I.pin p hp).1) (by rw [z]; exact hb)) (Nat.lt_irrefl _)
structure jX (P:Program) (w:World) (K:Frag) (tg:Expr) (J:It) (fp:List Addr) (it:Addr) (tn:Nat->Heap->Prop):Prop where
 mem:it ∈ fp
 obj:∀ i h,tn i h->∀ b ∈ fp,∃ o,h.get? b=some o/\∀ v,o.data ≠ .cell v
 keep:∀ i h h',tn i h->(∀ b ∈ fp,∀ o,h.get? b=some o->h'.get? b=some o)->tn i h'
 item:∀ (X:Cx),X.prog=P->X.w=w->X.K=K->X.calm=true->∀ (i:Nat) (pins:List (Addr × Obj)) (s:Shared) (σ:St) (H:Hp) (E:Value->Shared->Prop),Inv X pins σ H s->(∀ b ∈ fp,nI X pins H b)->tn i s.heap->J.go i H->
  wpAny (model P w) X.A (pyNext (.ref it)) (λr s1=>∃ u,r=some u/\
   wpAny (model P w) X.A (letOwnedTupleGo tg (.ref it) u) (λ_ s2=>∃ x H',Inv X pins σ H' s2/\m8 x u/\J.yld i H x H'/\tn (i+1) s2.heap/\∀ b ∈ fp,H' b=none) E s1) E s
 done:∀ (X:Cx),X.prog=P->X.w=w->X.K=K->X.calm=true->∀ (i:Nat) (pins:List (Addr × Obj)) (s:Shared) (σ:St) (H:Hp) (E:Value->Shared->Prop),Inv X pins σ H s->(∀ b ∈ fp,nI X pins H b)->tn i s.heap->J.stop i H->
  wpAny (model P w) X.A (pyNext (.ref it)) (λr s1=>r=none/\Inv X pins σ H s1) E s
 self:∀ (A:Around) (i:Nat) (s:Shared) (Q:Value->Shared->Prop) (E:Value->Shared->Prop),tn i s.heap->Q (.ref it) s->wpAny (model P w) A (pyIter (.ref it)) Q E s
abbrev TI:=St->Hp->(It->Hp->Prop)->Prop
def PIE (X:Cx) (pins:List (Addr × Obj)) (σ:St) (tg:Expr) (R:It->Hp->Prop) (itv:Value) (s2:Shared):Prop:=
 ∃ (it:Addr) (fp:List Addr) (tn:Nat->Heap->Prop) (J:It) (H':Hp),itv=.ref it/\Inv X pins σ H' s2/\jX X.prog X.w X.K tg J fp it tn/\tn 0 s2.heap/\(∀ b ∈ fp,nI X pins H' b)/\R J H'
def PI (X:Cx) (tg iter:Expr) (wi:TI):Prop:=
 ∀ (pins:List (Addr × Obj)) (s:Shared) (σ:St) (H:Hp) (R:It->Hp->Prop),Inv X pins σ H s->wi σ H R->
  wpAny (model X.prog X.w) X.A (eval iter X.env) (λv s1=>wpAny (model X.prog X.w) X.A (pyIter v) (PIE X pins σ tg R) X.xe s1) X.xe s
theorem go_of {M:Model} {A:Around} {E:Value->Shared->Prop} {s:Shared} {tg:Expr} {it:Addr} {u:Value} {o:Obj} {n:String} {vs:Array Value} {Q:Unit->Shared->Prop} (ho:s.heap.get? it=some o) (hc:o.cls=.type n) (hd:o.data=.fields vs)
  (hn:["enumerate", "zip", "dict_itemiterator", "dict_reverseitemiterator", "odict_iterator", "itertools.zip_longest", "itertools.pairwise"].contains n=false) (hQ:Q () s):wpAny M A (letOwnedTupleGo tg (.ref it) u) Q E s:=by
 unfold letOwnedTupleGo
 cases tg<;>first
  | exact wpAny_pure hQ
  | (cases u<;>first
    | exact wpAny_pure hQ
    | (refine wpAny_bind (wpAny_load ho ?_)
       rw [hc,hd]
       show wpAny M A (if (["enumerate", "zip", "dict_itemiterator", "dict_reverseitemiterator", "odict_iterator", "itertools.zip_longest", "itertools.pairwise"].contains n && vs[0]? == some (rawInt _))=true then _ else _) Q E s
       rw [if_neg (by intro h; rw [hn,Bool.false_and] at h; cases h)]
       exact wpAny_pure hQ))
def Itl (K:Frag) (a:Addr):It:=
 ⟨λi H=>∃ xs x,SqL K H a xs/\xs[i]? = some x,λi H x H'=>H'=H/\∀ xs,SqL K H a xs->xs[i]? = some x,λi H=>∃ xs,SqL K H a xs/\xs.length<=i⟩
def Itt (K:Frag) (a:Addr):It:=
 ⟨λi H=>∃ xs x,SqT K H a xs/\xs[i]? = some x,λi H x H'=>H'=H/\∀ xs,SqT K H a xs->xs[i]? = some x,λi H=>∃ xs,SqT K H a xs/\xs.length<=i⟩
def Itr (lo:Int) (n:Nat):It:=⟨λi _=>i<n,λi H x H'=>H'=H/\x=.int (lo+i),λi _=>n<=i⟩
theorem turn_list {P:Program} {w:World} {K:Frag} {tg:Expr} (a it:Addr):jX P w K tg (Itl K a) [it] it (λi h=>h.IsListIter it a i) where
 mem:=by simp
 obj:=λi h st b hb=>by
  have e:b=it:=by simpa using hb
  subst e
  obtain ⟨o,e,c,d⟩:=st
  exact ⟨o,e,λv z=>by rw [d] at z; cases z⟩
 keep:=λi h h' st k=>st.at λo e=>k it (by simp) o e
 item:=by
  intro X hP hw hK hc i pins s σ H E I hf st hg
  subst hP hw hK
  obtain ⟨xs,x,hq,hx⟩:=hg
  obtain ⟨its,rv,p,hz⟩:=I.list hq
  obtain ⟨u,hu,ru⟩:=rv.get hx
  obtain ⟨f0,f1,f2,f3,f4,f5⟩:=hf it (by simp)
  refine wpAny_pyNext_list_item st p.isList (x:=u) (by simpa using hu) λh' st' sb=>?_
  have I1:Inv X pins σ H { s with heap:=h' }:=I.turned (t':=s.toks) (λb o hb e=>(sb.2 b hb).trans e) f0 f1 f3 f4 f5
  obtain ⟨o,e,c,d⟩:=id st'
  exact ⟨u,rfl,go_of (s:={ s with heap:=h' }) e c d (by decide) ⟨x,H,I1,ru,⟨rfl,λys hy=>by rw [I.list_inj hy hq]; exact hx⟩,st',λb hb=>(hf b hb).1⟩⟩
 done:=by
  intro X hP hw hK hc i pins s σ H E I hf st hg
  subst hP hw hK
  obtain ⟨xs,hq,hx⟩:=hg
  obtain ⟨its,rv,p,hz⟩:=I.list hq
  obtain ⟨f0,f1,f2,f3,f4,f5⟩:=hf it (by simp)
  have hl:=rv.length
  exact wpAny_pyNext_list_end (I.ok.hd hc) st p.isList (by simp; omega) λh' eb=>⟨rfl,I.turned (t':=s.toks) (λb o hb e=>eb b o hb e) f0 f1 f3 f4 f5⟩
 self:=λ_ _ _ _ _ st h=>wpAny_pyIter_listiter st h
theorem turn_tuple {P:Program} {w:World} {K:Frag} {tg:Expr} (a it:Addr):jX P w K tg (Itt K a) [it] it (λi h=>h.IsTupleIter it a i) where
 mem:=by simp
 obj:=λi h st b hb=>by
  have e:b=it:=by simpa using hb
  subst e
  obtain ⟨o,e,c,d⟩:=st
  exact ⟨o,e,λv z=>by rw [d] at z; cases z⟩
 keep:=λi h h' st k=>st.at λo e=>k it (by simp) o e
 item:=by
  intro X hP hw hK hc i pins s σ H E I hf st hg
  subst hP hw hK
  obtain ⟨xs,x,hq,hx⟩:=hg
  obtain ⟨its,rv,p,hz⟩:=I.tuple hq
  obtain ⟨u,hu,ru⟩:=rv.get hx
  obtain ⟨f0,f1,f2,f3,f4,f5⟩:=hf it (by simp)
  refine wpAny_pyNext_tuple_item st (show s.heap.IsTuple a its.toArray from p) (x:=u) (by simpa using hu) λh' st' sb=>?_
  have I1:Inv X pins σ H { s with heap:=h' }:=I.turned (t':=s.toks) (λb o hb e=>(sb.2 b hb).trans e) f0 f1 f3 f4 f5
  obtain ⟨o,e,c,d⟩:=id st'
  exact ⟨u,rfl,go_of (s:={ s with heap:=h' }) e c d (by decide) ⟨x,H,I1,ru,⟨rfl,λys hy=>by rw [I.tuple_inj hy hq]; exact hx⟩,st',λb hb=>(hf b hb).1⟩⟩
 done:=by
  intro X hP hw hK hc i pins s σ H E I hf st hg
  subst hP hw hK
  obtain ⟨xs,hq,hx⟩:=hg
  obtain ⟨its,rv,p,hz⟩:=I.tuple hq
  obtain ⟨f0,f1,f2,f3,f4,f5⟩:=hf it (by simp)
  have hl:=rv.length
  exact wpAny_pyNext_tuple_end (I.ok.hd hc) st (show s.heap.IsTuple a its.toArray from p) (by simp; omega) λh' eb=>⟨rfl,I.turned (t':=s.toks) (λb o hb e=>eb b o hb e) f0 f1 f3 f4 f5⟩
 self:=λ_ _ _ _ _ st h=>wpAny_pyIter_tupleiter st h
theorem turn_range {P:Program} {w:World} {K:Frag} {tg:Expr} (it:Addr) (lo:Int) (n:Nat):jX P w K tg (Itr lo n) [it] it (λi h=>IsRangeIter h it (lo+(i:Nat)*1) ((n:Int)-(i:Nat)) 1) where
 mem:=by simp
 obj:=λi h st b hb=>by
  have e:b=it:=by simpa using hb
  subst e
  exact ⟨_,st,λv z=>by
   have z':Data.fields _=Data.cell v:=z
   cases z'⟩
 keep:=λi h h' st k=>k it (by simp) _ st
 item:=by
  intro X hP hw hK hc i pins s σ H E I hf st hg
  subst hP hw hK
  obtain ⟨f0,f1,f2,f3,f4,f5⟩:=hf it (by simp)
  have W:=Walks.range (prog:=X.prog) (w:=X.w) (I.ok.hd hc) it lo 1 n
  refine W.item i s _ _ hg st λv h' tk hv st' kk=>?_
  obtain ⟨t,rfl⟩:=hv
  have I1:Inv X pins σ H { s with heap:=h',toks:=tk }:=I.turned (λb o hb e=>kk b o (by simpa using hb) e) f0 f1 f3 f4 f5
  refine ⟨_,rfl,go_of (s:={ s with heap:=h',toks:=tk }) (n := "range_iterator") st' rfl rfl (by decide) ⟨.int (lo+i),H,I1,⟨t,?_⟩,⟨rfl,rfl⟩,st',λb hb=>(hf b hb).1⟩⟩
  rw [Int.mul_one]
 done:=by
  intro X hP hw hK hc i pins s σ H E I hf st hg
  subst hP hw hK
  obtain ⟨f0,f1,f2,f3,f4,f5⟩:=hf it (by simp)
  exact wpAny_pyNext_range_end (I.ok.hd hc) st (by have:n<=i:=hg; omega) λh' eb=>⟨rfl,I.turned (t':=s.toks) (λb o hb e=>eb b o hb e) f0 f1 f3 f4 f5⟩
 self:=λ_ _ _ _ _ st h=>wpAny_pyIter_rangeiter st h
section
variable {X:Cx} {tg:Expr}
def iList (K:Frag) (tl:TE):TI:=λσ H R=>tl σ H λx H1=>∃ a,x=.ref a/\(∃ xs,SqL K H1 a xs)/\R (Itl K a) H1
def iTup (K:Frag) (tl:TE):TI:=λσ H R=>tl σ H λx H1=>∃ a,x=.ref a/\(∃ xs,SqT K H1 a xs)/\R (Itt K a) H1
theorem pi_list {l:Expr} {tl:TE} (hl:PE X l tl):PI X tg l (iList X.K tl):=by
 intro pins s σ H R I h
 refine thn (hl pins s σ H _ I h) λv s1 ⟨x,H1,I1,r1,q1⟩=>?_
 obtain ⟨a,e,⟨xs,hq⟩,q⟩:=q1
 subst e
 cases r1
 obtain ⟨its,rv,p,hz⟩:=I1.list hq
 refine wpAny_pyIter_list p.isList ?_
 refine ⟨s1.heap.objs.size,[s1.heap.objs.size],_,_,H1,rfl,I1.kept (t':=s1.toks) λb o e=>get?_push_of_some _ e,turn_list a _,⟨_,get?_push_size _ rfl,rfl,rfl⟩,λb hb=>?_,q⟩
 have e:b=s1.heap.objs.size:=by simpa using hb
 subst e
 exact I1.fpOk (Nat.le_refl _) (I1.hok.fresh (Nat.le_refl _))
theorem pi_tup {l:Expr} {tl:TE} (hl:PE X l tl):PI X tg l (iTup X.K tl):=by
 intro pins s σ H R I h
 refine thn (hl pins s σ H _ I h) λv s1 ⟨x,H1,I1,r1,q1⟩=>?_
 obtain ⟨a,e,⟨xs,hq⟩,q⟩:=q1
 subst e
 cases r1
 obtain ⟨its,rv,p,hz⟩:=I1.tuple hq
 refine wpAny_pyIter_tuple (show s1.heap.IsTuple a its.toArray from p) ?_
 refine ⟨s1.heap.objs.size,[s1.heap.objs.size],_,_,H1,rfl,I1.kept (t':=s1.toks) λb o e=>get?_push_of_some _ e,turn_tuple a _,⟨_,get?_push_size _ rfl,rfl,rfl⟩,λb hb=>?_,q⟩
 have e:b=s1.heap.objs.size:=by simpa using hb
 subst e
 exact I1.fpOk (Nat.le_refl _) (I1.hok.fresh (Nat.le_refl _))
theorem range_it {pins:List (Addr × Obj)} {σ:St} {H:Hp} {s:Shared} {R:It->Hp->Prop} {E:Value->Shared->Prop} {lo hi:Int} {t u v:Tok} {tk:Nat} (I:Inv X pins σ H s) (h1:-(2 ^ 62)<=lo) (h2:lo<2 ^ 62) (h3:-(2 ^ 62)<=hi) (h4:hi<2 ^ 62)
  (q:R (Itr lo (hi-lo).toNat) H):wpAny (model X.prog X.w) X.A (pyIter (.ref s.heap.objs.size)) (PIE X pins σ tg R) E { s with heap:=s.heap.push { cls:=.type "range",data:=.fields #[.int lo t,.int hi u,.int 1 v] },toks:=tk }:=by
 refine wpAny_pyIter_range (IsRange.new ..) (small_one h1 h2 h3 h4) ?_
 have I1:Inv X pins σ H { s with heap:=s.heap.push { cls:=.type "range",data:=.fields #[.int lo t,.int hi u,.int 1 v] },toks:=tk }:=I.kept λb o e=>get?_push_of_some _ e
 refine ⟨(s.heap.push { cls:=.type "range",data:=.fields #[.int lo t,.int hi u,.int 1 v] }).objs.size,[(s.heap.push { cls:=.type "range",data:=.fields #[.int lo t,.int hi u,.int 1 v] }).objs.size],_,_,H,rfl,
  I1.kept (t':=tk) λb o e=>get?_push_of_some _ e,turn_range _ lo (hi-lo).toNat,?_,λb hb=>?_,q⟩
 ·have e1:lo+((0:Nat):Int)*1=lo:=by simp
  have e2:(((hi-lo).toNat:Nat):Int)-((0:Nat):Int)=Builtin.Range.rangeSize lo hi 1:=by rw [rangeSize_one]; split<;>omega
  show IsRangeIter _ _ (lo+((0:Nat):Int)*1) ((((hi-lo).toNat:Nat):Int)-((0:Nat):Int)) 1
  rw [e1,e2]
  exact get?_push_size _ rfl
 ·have e:b=(s.heap.push { cls:=.type "range",data:=.fields #[.int lo t,.int hi u,.int 1 v] }).objs.size:=by simpa using hb
  subst e
  exact I1.fpOk (Nat.le_refl _) (I1.hok.fresh (Nat.le_refl _))
def iRng1 (ta:TA):TI:=λσ H R=>ta σ H λvs H1=>∃ j:Int,vs=[.int j]/\-(2 ^ 62)<=j/\j<2 ^ 62/\R (Itr 0 j.toNat) H1
def iRng2 (ta:TA):TI:=λσ H R=>ta σ H λvs H1=>∃ i j:Int,vs=[.int i,.int j]/\(-(2 ^ 62)<=i/\i<2 ^ 62/\-(2 ^ 62)<=j/\j<2 ^ 62)/\R (Itr i (j-i).toNat) H1
theorem bu {a:Expr} {ta:TA} {p pos:Pos} (hg:Gl X "range") (hm:X.mg "range" = none) (ha:PA X [a] ta) (hs:starEach [a] X.env=[(false,eval a X.env)]:=by rfl):PI X tg (.Call (.Name "range" p) [a] [] pos) (iRng1 ta):=by
 intro pins s σ H R I h
 refine Call_ (dO I hg hm boot_range (PyProof.Rows.callWith_type1 (thn (ha pos pins s σ H _ I h) λus s1 ⟨vs,H1,I1,r1,q1⟩=>?_) hs rfl))
 obtain ⟨j,e,q1,q2,q⟩:=q1
 subst e
 cases r1 with
 | cons r rr=>
  cases rr
  obtain ⟨t,rfl⟩:=r
  exact call_range_1 (range_it I1 (by omega) (by omega) q1 q2 (by simpa using q))
theorem lB {a b:Expr} {ta:TA} {p pos:Pos} (hg:Gl X "range") (hm:X.mg "range" = none) (ha:PA X [a,b] ta) (hs:starEach [a,b] X.env=[(false,eval a X.env),(false,eval b X.env)]:=by rfl) (hs2:starEach [b] X.env=[(false,eval b X.env)]:=by rfl) :
  PI X tg (.Call (.Name "range" p) [a,b] [] pos) (iRng2 ta):=by
 intro pins s σ H R I h
 refine Call_ (dO I hg hm boot_range (PyProof.Rows.callWith_type1 (thn (ha pos pins s σ H _ I h) λus s1 ⟨vs,H1,I1,r1,q1⟩=>?_) (by rw [hs,hs2]) (by rw [hs2]; rfl)))
 obtain ⟨i,j,e,⟨q1,q2,q3,q4⟩,q⟩:=q1
 subst e
 cases r1 with
 | cons r rr=>
  cases rr with
  | cons r' rr=>
   cases rr
   obtain ⟨t,rfl⟩:=r
   obtain ⟨t',rfl⟩:=r'
   exact call_range_2 (range_it I1 q1 q2 q3 q4 q)
def tFor (wi:TI) (g:TG) (tb:TS):TS:=λD σ H=>wi σ H λJ H1=>∃ W:Nat->Nat->St->Hp->Prop,(∃ m,W 0 m σ H1)/\∀ i m σ H,W i m σ H->
 (J.stop i H/\D.nx σ H)\/(J.go i H/\∃ N:St->Hp->Prop,(∀ σ' H',N σ' H'->∃ m',m' < m/\W (i+1) m' σ' H')/\∀ x H',J.yld i H x H'->g x σ H' λσ2 H2=>tb { D with nx:=N,ct:=N,bk:=D.nx } σ2 H2)
def ig (fp:List Addr) (h:Heap):List (Addr × Obj):=fp.filterMap λb=>(h.get? b).map λo=>(b,o)
theorem cb {fp:List Addr} {h:Heap} {b:Addr} {o:Obj} (hb:b ∈ fp) (e:h.get? b=some o):(b,o) ∈ ig fp h:=List.mem_filterMap.mpr ⟨b,hb,by rw [e]; rfl⟩
theorem of_pinsAt {fp:List Addr} {h:Heap} {p:Addr × Obj} (hp:p ∈ ig fp h):p.1 ∈ fp/\h.get? p.1=some p.2:=by
 obtain ⟨b,hb,e⟩:=List.mem_filterMap.mp hp
 cases q:h.get? b with
 | none=>rw [q] at e; cases e
 | some o=>
  rw [q] at e
  have e':(b,o)=p:=Option.some.inj e
  subst e'
  exact ⟨hb,q⟩
theorem Inv.pinned {pins:List (Addr × Obj)} {σ:St} {H:Hp} {s:Shared} {fp:List Addr} (I:Inv X pins σ H s) (hf:∀ b ∈ fp,nI X pins H b) (ho:∀ b ∈ fp,∃ o,s.heap.get? b=some o/\∀ v,o.data ≠ .cell v):Inv X (pins++ig fp s.heap) σ H s:=
 I.pins_of λp hp=>(List.mem_append.mp hp).elim (λz=>I.pin p (mem_append_right _ z)) λz=>by
  obtain ⟨hb,e⟩:=of_pinsAt z
  obtain ⟨f0,f1,f2,_⟩:=hf p.1 hb
  obtain ⟨o,e',d⟩:=ho p.1 hb
  rw [e] at e'; cases e'
  exact ⟨e,f0,f1,f2,d⟩
theorem Inv.unpinned {pins pl:List (Addr × Obj)} {σ:St} {H:Hp} {s:Shared} (I:Inv X (pins++pl) σ H s):Inv X pins σ H s:=I.pins_of λp hp=>I.pin p (mem_append_right _ (mem_append_left _ hp))
theorem bp {iter:Expr} {body:List Stmt} {wi:TI} {g:TG} {tb:TS} {pos:Pos} (hp:PassesOwn (model X.prog X.w) X.A X.env X.xe) (hc:X.calm=true) (hi:PI X tg iter wi) (hg:PG X tg g) (hb:PSs X body tb)
  (hs:∀ x,foldedSetIterable iter X.env x=pure x:=by intro _; rfl):PS X (.For tg iter body [] pos) (tFor wi g tb):=by
 intro pins s σ H D I h
 refine wpAny_For (thn (hi pins s σ H _ I h) λv s1 h1=>thn h1 λitv s2 h2=>?_) hs
 obtain ⟨it,fp,tn,J,H2,e,I2,T,st2,f2,W,⟨m0,w0⟩,turn⟩:=h2
 subst e
 have stat:∀ {H':Hp},(∀ b ∈ fp,H' b=none)->∀ b ∈ fp,nI X pins H' b:=λhn b hb=>⟨hn b hb,(f2 b hb).2⟩
 refine codeAny_forLoop_any (λn s'=>∃ i σ' H',Inv X pins σ' H' s'/\tn i s'.heap/\(∀ b ∈ fp,H' b=none)/\W i n σ' H') ?_ m0 ⟨0,σ,H2,I2,st2,λb hb=>(f2 b hb).1,w0⟩
 rintro n s3 ⟨i,σ3,H3,I3,st3,fr3,w3⟩
 rcases turn i n σ3 H3 w3 with ⟨stop,qn⟩ | ⟨go,N,hN,step⟩
 ·refine wpAny_passesOwn hp (thn (T.done X rfl rfl rfl hc i pins s3 σ3 H3 X.xe I3 (stat fr3) st3 stop) λr s4 ⟨hr,I4⟩=>?_)
  subst hr
  exact wpAny_execs_nil ⟨σ3,H3,I4,qn⟩
 ·refine wpAny_passesOwn hp (thn (T.item X rfl rfl rfl hc i pins s3 σ3 H3 X.xe I3 (stat fr3) st3 go) λr s4 ⟨u,hr,h4⟩=>?_)
  subst hr
  refine wpAny_passesOwn hp (thn h4 λ_ s5 ⟨x,H5,I5,r5,y5,st5,fr5⟩=>?_)
  have I5':=I5.pinned (stat fr5) (T.obj _ _ st5)
  refine wpAny_passesOwn hp (thn (hg _ s5 σ3 H5 x u _ I5' r5 (step x H5 y5)) λ_ s6 ⟨σ6,H6,I6,q6⟩=>?_)
  refine wpAny_passesOwn hp (thn (hb _ s6 σ6 H6 _ I6 q6) λf s7 q7=>?_)
  have again:∀ {σ7:St} {H7:Hp},Inv X (pins++ig fp s5.heap) σ7 H7 s7->N σ7 H7->∃ m,m<n/\∃ i σ' H',Inv X pins σ' H' s7/\tn i s7.heap/\(∀ b ∈ fp,H' b=none)/\W i m σ' H':=λ{σ7 H7} I7 n7=>by
   obtain ⟨m',hm,w7⟩:=hN σ7 H7 n7
   refine ⟨m',hm,i+1,σ7,H7,I7.unpinned,T.keep _ _ _ st5 λb hb o e=>(I7.pin (b,o) (mem_append_right _ (mem_append_right _ (cb hb e)))).1,λb hb=>?_,w7⟩
   obtain ⟨o,e,d⟩:=T.obj _ _ st5 b hb
   exact (I7.pin (b,o) (mem_append_right _ (mem_append_right _ (cb hb e)))).2.1
  cases f with
  | next=>obtain ⟨σ7,H7,I7,n7⟩:=q7; exact again I7 n7
  | cont=>obtain ⟨σ7,H7,I7,n7⟩:=q7; exact again I7 n7
  | brk=>obtain ⟨σ7,H7,I7,q7⟩:=q7; exact ⟨σ7,H7,I7.unpinned,q7⟩
  | ret v=>obtain ⟨x7,σ7,H7,I7,r7,q7⟩:=q7; exact ⟨x7,σ7,H7,I7.unpinned,r7,q7⟩
end
theorem eZ {K:Frag} {a:Addr} {xs:List V} {g:TG} {tb:TS} {D:eG} {σ:St} {H:Hp} (Pv:Nat->St->Hp->Prop) (h0:Pv 0 σ H) (hl:∀ i σ H,i<=xs.length->Pv i σ H->SqL K H a xs)
  (hs:∀ i x σ H,xs[i]? = some x->Pv i σ H->g x σ H λσ2 H2=>tb { D with nx:=Pv (i+1),ct:=Pv (i+1),bk:=D.nx } σ2 H2) (hd:∀ σ H,Pv xs.length σ H->D.nx σ H) :
  ∃ W:Nat->Nat->St->Hp->Prop,(∃ m,W 0 m σ H)/\∀ i m σ H,W i m σ H->
   ((Itl K a).stop i H/\D.nx σ H)\/((Itl K a).go i H/\∃ N:St->Hp->Prop,(∀ σ' H',N σ' H'->∃ m',m' < m/\W (i+1) m' σ' H')/\∀ x H',(Itl K a).yld i H x H'->g x σ H' λσ2 H2=>tb { D with nx:=N,ct:=N,bk:=D.nx } σ2 H2):=by
 refine ⟨λi m σ H=>m=xs.length-i/\i<=xs.length/\Pv i σ H,⟨xs.length,by simp,Nat.zero_le _,h0⟩,?_⟩
 rintro i m σ H ⟨rfl,hi,p⟩
 have q:=hl i σ H hi p
 by_cases hlt:i<xs.length
 ·refine .inr ⟨⟨xs,xs[i],q,by simp [hlt]⟩,Pv (i+1),λσ' H' p'=>⟨xs.length-(i+1),by omega,rfl,hlt,p'⟩,λx H' y=>?_⟩
  obtain ⟨e,y⟩:=y
  subst e
  exact hs i x σ _ (y xs q) p
 ·have e:i=xs.length:=by omega
  subst e
  exact .inl ⟨⟨xs,q,Nat.le_refl _⟩,hd σ H p⟩
theorem ie {lo:Int} {n:Nat} {g:TG} {tb:TS} {D:eG} {σ:St} {H:Hp} (Pv:Nat->St->Hp->Prop) (h0:Pv 0 σ H)
  (hs:∀ i σ H,i<n->Pv i σ H->g (.int (lo+i)) σ H λσ2 H2=>tb { D with nx:=Pv (i+1),ct:=Pv (i+1),bk:=D.nx } σ2 H2) (hd:∀ σ H,Pv n σ H->D.nx σ H) :
  ∃ W:Nat->Nat->St->Hp->Prop,(∃ m,W 0 m σ H)/\∀ i m σ H,W i m σ H->
   ((Itr lo n).stop i H/\D.nx σ H)\/((Itr lo n).go i H/\∃ N:St->Hp->Prop,(∀ σ' H',N σ' H'->∃ m',m' < m/\W (i+1) m' σ' H')/\∀ x H',(Itr lo n).yld i H x H'->g x σ H' λσ2 H2=>tb { D with nx:=N,ct:=N,bk:=D.nx } σ2 H2):=by
 refine ⟨λi m σ H=>m=n-i/\i<=n/\Pv i σ H,⟨n,by simp,Nat.zero_le _,h0⟩,?_⟩
 rintro i m σ H ⟨rfl,hi,p⟩
 by_cases hlt:i<n
 ·refine .inr ⟨hlt,Pv (i+1),λσ' H' p'=>⟨n-(i+1),by omega,rfl,hlt,p'⟩,λx H' y=>?_⟩
  obtain ⟨e,y⟩:=y
  subst e y
  exact hs i σ _ hlt p
 ·have e:i=n:=by omega
  subst e
  exact .inl ⟨Nat.le_refl _,hd σ H p⟩
theorem eQ {c:TT} {tb:TS} {D:eG} {σ:St} {H:Hp} (Pv:St->Hp->Prop) (μ:St->Hp->Nat) (h0:Pv σ H)
  (hs:∀ σ H,Pv σ H->c σ H λb H1=>if b=true then tb { D with nx:=λσ' H'=>Pv σ' H'/\μ σ' H' < μ σ H,ct:=λσ' H'=>Pv σ' H'/\μ σ' H' < μ σ H,bk:=D.nx } σ H1 else D.nx σ H1)
  (mono:∀ σ H Q Q',(∀ b H1,Q b H1->Q' b H1)->c σ H Q->c σ H Q'):tWhile c tb D σ H:=by
 refine ⟨λm σ H=>m=μ σ H/\Pv σ H,⟨_,rfl,h0⟩,?_⟩
 rintro m σ H ⟨rfl,p⟩
 refine mono σ H _ _ (λb H1 q=>?_) (hs σ H p)
 cases b with
 | true=>exact ⟨_,λσ' H' ⟨p',l⟩=>⟨_,l,rfl,p'⟩,q⟩
 | false=>exact q
abbrev R2:=V->V->Hp->VK->Prop
def OpR (X:Cx) (f:Value->Value->Sem Value) (r:R2):Prop:=
 ∀ (pins:List (Addr × Obj)) (s:Shared) (σ:St) (H:Hp) (x y:V) (v u:Value) (Q:VK),Inv X pins σ H s->m8 x v->m8 y u->r x y H Q->
  wpAny (model X.prog X.w) X.A (f v u) (EP X pins σ Q) X.xe s
def UnR (X:Cx) (f:Value->Sem Value) (r:V->Hp->VK->Prop):Prop:=
 ∀ (pins:List (Addr × Obj)) (s:Shared) (σ:St) (H:Hp) (x:V) (v:Value) (Q:VK),Inv X pins σ H s->m8 x v->r x H Q->
  wpAny (model X.prog X.w) X.A (f v) (EP X pins σ Q) X.xe s
def cA (X:Cx) (f:Value) (r:List V->Hp->VK->Prop):Prop:=
 ∀ (pins:List (Addr × Obj)) (s:Shared) (σ:St) (H:Hp) (xs:List V) (us:List Value) (Q:VK),Inv X pins σ H s->ni xs us->r xs H Q->
  wpAny (model X.prog X.w) X.A (call f us) (EP X pins σ Q) X.xe s
def tOp (r:R2) (ta tb:TE):TE:=λσ H Q=>ta σ H λx H1=>tb σ H1 λy H2=>r x y H2 Q
def tUn (r:V->Hp->VK->Prop) (ta:TE):TE:=λσ H Q=>ta σ H λx H1=>r x H1 Q
def rI (C:Int->Int->Prop) (g:Int->Int->V):R2:=λx y H Q=>∃ i j,x=.int i/\y=.int j/\C i j/\Q (g i j) H
def rI0 (g:Int->Int->V):R2:=λx y H Q=>∃ i j,x=.int i/\y=.int j/\Q (g i j) H
def rU (g:Int->V):V->Hp->VK->Prop:=λx H Q=>∃ i,x=.int i/\Q (g i) H
section
variable {X:Cx} {a b c:Expr} {ta tb tc:TE} {pos:Pos}
theorem binT (ha:PE X a ta) (hb:PE X b tb) {pins:List (Addr × Obj)} {s:Shared} {σ:St} {H:Hp} {R:V->V->Hp->Prop} (I:Inv X pins σ H s)
  (h:ta σ H λx H1=>tb σ H1 λy H2=>R x y H2) {Q:Value->Shared->Prop} {f:Value->Value->Sem Value}
  (hf:∀ v u s2 x y H2,Inv X pins σ H2 s2->m8 x v->m8 y u->R x y H2->wpAny (model X.prog X.w) X.A (f v u) Q X.xe s2) :
  wpAny (model X.prog X.w) X.A (eval a X.env) (λv s₁=>wpAny (model X.prog X.w) X.A (eval b X.env) (λu s₂=>wpAny (model X.prog X.w) X.A (f v u) Q X.xe s₂) X.xe s₁) X.xe s:=by
 refine thn (ha pins s σ H _ I h) λv s1 ⟨x,H1,I1,r1,q1⟩=>?_
 refine thn (hb pins s1 σ H1 _ I1 q1) λu s2 ⟨y,H2,I2,r2,q2⟩=>?_
 exact hf v u s2 x y H2 I2 r1 r2 q2
theorem ao {op:Operator} {r:R2} (ho:OpR X (binaryOp op) r) (ha:PE X a ta) (hb:PE X b tb):PE X (.BinOp a op b pos) (tOp r ta tb):=by
 intro pins s σ H Q I h
 exact wpAny_BinOp (binT ha hb I h λv u s2 x y H2 I2 rx ry q=>ho pins s2 σ H2 x y v u Q I2 rx ry q)
theorem pe_un {op:UnaryOp} {r:V->Hp->VK->Prop} (ho:UnR X (unaryOp op) r) (ha:PE X a ta):PE X (.UnaryOp op a pos) (tUn r ta):=by
 intro pins s σ H Q I h
 exact UnaryOp_ (thn (ha pins s σ H _ I h) λv s1 ⟨x,H1,I1,r1,q1⟩=>ho pins s1 σ H1 x v Q I1 r1 q1)
theorem opI {f:Value->Value->Sem Value} {C:Int->Int->Prop} {g:Int->Int->Int}
  (rule:∀ (i j:Int) (t u:Tok) (s:Shared) (Q:Value->Shared->Prop) (E:Value->Shared->Prop),C i j->Q (.int (g i j) s.toks) { s with toks:=s.toks+1 }->wpAny (model X.prog X.w) X.A (f (.int i t) (.int j u)) Q E s) :
  OpR X f (rI C λi j=>.int (g i j)):=by
 intro pins s σ H x y v u Q I rx ry h
 obtain ⟨i,j,rfl,rfl,hc,q⟩:=h
 obtain ⟨t,rfl⟩:=rx
 obtain ⟨t',rfl⟩:=ry
 exact rule i j t t' s _ _ hc ⟨.int (g i j),H,I.tok _,⟨_,rfl⟩,q⟩
theorem opI0 {f:Value->Value->Sem Value} {g:Int->Int->Int}
  (rule:∀ (i j:Int) (t u:Tok) (s:Shared) (Q:Value->Shared->Prop) (E:Value->Shared->Prop),Q (.int (g i j) s.toks) { s with toks:=s.toks+1 }->wpAny (model X.prog X.w) X.A (f (.int i t) (.int j u)) Q E s) :
  OpR X f (rI0 λi j=>.int (g i j)):=by
 intro pins s σ H x y v u Q I rx ry h
 obtain ⟨i,j,rfl,rfl,q⟩:=h
 obtain ⟨t,rfl⟩:=rx
 obtain ⟨t',rfl⟩:=ry
 exact rule i j t t' s _ _ ⟨.int (g i j),H,I.tok _,⟨_,rfl⟩,q⟩
theorem opB0 {f:Value->Value->Sem Value} {g:Int->Int->Bool}
  (rule:∀ (i j:Int) (t u:Tok) (s:Shared) (Q:Value->Shared->Prop) (E:Value->Shared->Prop),Q (.bool (g i j)) s->wpAny (model X.prog X.w) X.A (f (.int i t) (.int j u)) Q E s) :
  OpR X f (rI0 λi j=>.bl (g i j)):=by
 intro pins s σ H x y v u Q I rx ry h
 obtain ⟨i,j,rfl,rfl,q⟩:=h
 obtain ⟨t,rfl⟩:=rx
 obtain ⟨t',rfl⟩:=ry
 exact rule i j t t' s _ _ ⟨.bl (g i j),H,I,rfl,q⟩
def CPow (i j:Int):Prop:=0<=j/\j<=1000000/\i.natAbs<2 ^ 64
def CMul (i j:Int):Prop:=(-(2 ^ 64)<i/\i<2 ^ 64)\/(-(2 ^ 64)<j/\j<2 ^ 64)
theorem CMul.ok {i j:Int} (h:CMul i j):IntMulOk i j:=by
 rcases h with ⟨h1,h2⟩ | ⟨h1,h2⟩
 ·exact .of_left (intBits_le_64 h1 h2)
 ·exact .of_right (intBits_le_64 h1 h2)
theorem two_pow_nn (k:Nat):(0:Int)<=2 ^ k:=by
 rw [two_pow_cast]
 exact Int.natCast_nonneg _
theorem aG:OpR X (binaryOp .Add) (rI0 λi j=>.int (i+j)):=opI0 λ_ _ _ _ _ _ _ q=>add_int q
theorem aS:OpR X (binaryOp .Sub) (rI0 λi j=>.int (i-j)):=opI0 λ_ _ _ _ _ _ _ q=>sub_int q
theorem bc:OpR X (binaryOp .Mult) (rI CMul λi j=>.int (i*j)):=opI λ_ _ _ _ _ _ _ hc q=>mul_int q hc.ok
theorem aY:OpR X (binaryOp .Mod) (rI (λ_ j=>0<j) λi j=>.int (i % j)):=opI λi j _ _ _ _ _ hc q=>by
 have h1:(0:Int)<j:=hc
 exact mod_int' (by omega) (by rw [Int.fmod_eq_emod_of_nonneg i (by omega)]; exact q)
theorem dH:OpR X (binaryOp .Pow) (rI CPow λi j=>.int (i ^ j.toNat)):=opI λ_ _ _ _ _ _ _ hc q=>pow_int_small hc.1 hc.2.1 hc.2.2 q
theorem op_shr:OpR X (binaryOp .RShift) (rI (λ_ j=>0<=j) λi j=>.int (i / 2 ^ j.toNat)):=opI λi j _ _ _ _ _ hc q=>
 rshift_int hc (by rw [Int.fdiv_eq_ediv_of_nonneg i (two_pow_nn _)]; exact q)
theorem op_and:OpR X (binaryOp .BitAnd) (rI0 λi j=>.int (Builtin.bitAnd i j)):=opI0 λ_ _ _ _ _ _ _ q=>and_int q
theorem unI {f:Value->Sem Value} {g:Int->Int}
  (rule:∀ (i:Int) (t:Tok) (s:Shared) (Q:Value->Shared->Prop) (E:Value->Shared->Prop),Q (.int (g i) s.toks) { s with toks:=s.toks+1 }->wpAny (model X.prog X.w) X.A (f (.int i t)) Q E s) :
  UnR X f (rU λi=>.int (g i)):=by
 intro pins s σ H x v Q I rx h
 obtain ⟨i,rfl,q⟩:=h
 obtain ⟨t,rfl⟩:=rx
 exact rule i t s _ _ ⟨.int (g i),H,I.tok _,⟨_,rfl⟩,q⟩
theorem un_neg:UnR X (unaryOp .USub) (rU λi=>.int (-i)):=unI λ_ _ _ _ _ q=>neg_int q
end
def scal:V->V->Bool
 | .non,.non=>true | .non,.int _=>true | .int _,.non=>true | .non,.bl _=>true | .bl _,.non=>true | .non,.str _=>true | .str _,.non=>true
 | .int _,.int _=>true | .bl _,.bl _=>true | .str _,.str _=>true | .byt _,.byt _=>true
 | .int _,.str _=>true | .str _,.int _=>true | .bl _,.str _=>true | .str _,.bl _=>true
 | _,_=>false
def rEq:R2:=λx y H Q=>scal x y=true/\Q (.bl (decide (x=y))) H
def rNe:R2:=λx y H Q=>scal x y=true/\Q (.bl (!decide (x=y))) H
theorem dec_int {i j:Int}:decide (V.int i=V.int j)=(i == j):=by
 rw [Bool.eq_iff_iff]
 simp
theorem dec_bl {i j:Bool}:decide (V.bl i=V.bl j)=(i == j):=by
 rw [Bool.eq_iff_iff]
 simp
theorem dec_str {i j:Str}:decide (V.str i=V.str j)=(i == j):=by
 rw [Bool.eq_iff_iff]
 simp
theorem dec_byt {i j:Array UInt8}:decide (V.byt i=V.byt j)=(i.toList == j.toList):=by
 rw [Bool.eq_iff_iff]
 cases i
 cases j
 simp
section
variable {X:Cx} {a b c:Expr} {ta tb tc:TE} {pos:Pos}
theorem aN {pins:List (Addr × Obj)} {σ:St} {H:Hp} {s:Shared} {Q:VK} {k k':Bool} (I:Inv X pins σ H s) (q:Q (.bl k) H) (e:k=k'):EP X pins σ Q (.bool k') s:=by
 subst e
 exact ⟨.bl k,H,I,rfl,q⟩
theorem br:OpR X (compareOp .Eq) rEq:=by
 intro pins s σ H x y v u Q I rx ry h
 obtain ⟨hs,q⟩:=h
 cases x with
 | non=>
  cases rx
  cases y with
  | non=>cases ry; exact PySem.EqNone.eq_none_none (aN I q (by simp))
  | bl j=>cases ry; exact PySem.EqNone.eq_none_bool (aN I q (by simp))
  | int j=>obtain ⟨t',rfl⟩:=ry; exact PySem.EqNone.eq_none_int (aN I q (by simp))
  | str j=>obtain ⟨t',rfl⟩:=ry; exact PySem.EqNone.eq_none_str (aN I q (by simp))
  | _=>exact absurd (show false=true from hs) Bool.false_ne_true
 | bl i=>
  cases rx
  cases y with
  | non=>cases ry; exact PySem.EqNone.eq_bool_none (aN I q (by simp))
  | bl j=>cases ry; exact eq_bool (aN I q dec_bl)
  | str j=>obtain ⟨t',rfl⟩:=ry; exact PySem.EqMixed.eq_bool_str (aN I q (by simp))
  | _=>exact absurd (show false=true from hs) Bool.false_ne_true
 | int i=>
  obtain ⟨t,rfl⟩:=rx
  cases y with
  | non=>cases ry; exact PySem.EqNone.eq_int_none (aN I q (by simp))
  | int j=>obtain ⟨t',rfl⟩:=ry; exact eq_int (aN I q dec_int)
  | str j=>obtain ⟨t',rfl⟩:=ry; exact PySem.EqMixed.eq_int_str (aN I q (by simp))
  | _=>exact absurd (show false=true from hs) Bool.false_ne_true
 | str i=>
  obtain ⟨t,rfl⟩:=rx
  cases y with
  | non=>cases ry; exact PySem.EqNone.eq_str_none (aN I q (by simp))
  | bl j=>cases ry; exact PySem.EqMixed.eq_str_bool (aN I q (by simp))
  | int j=>obtain ⟨t',rfl⟩:=ry; exact PySem.EqMixed.eq_str_int (aN I q (by simp))
  | str j=>obtain ⟨t',rfl⟩:=ry; exact eq_str (aN I q dec_str)
  | _=>exact absurd (show false=true from hs) Bool.false_ne_true
 | byt i=>
  obtain ⟨t,rfl⟩:=rx
  cases y with
  | byt j=>obtain ⟨t',rfl⟩:=ry; exact PySem.W.eq_bytes (aN I q dec_byt)
  | _=>exact absurd (show false=true from hs) Bool.false_ne_true
 | _=>cases y<;>exact absurd (show false=true from hs) Bool.false_ne_true
theorem op_ne:OpR X (compareOp .NotEq) rNe:=by
 intro pins s σ H x y v u Q I rx ry h
 obtain ⟨hs,q⟩:=h
 cases x with
 | non=>
  cases rx
  cases y with
  | non=>cases ry; exact PySem.EqNone.ne_none_none (aN I q (by simp))
  | bl j=>cases ry; exact PySem.EqNone.ne_none_bool (aN I q (by simp))
  | int j=>obtain ⟨t',rfl⟩:=ry; exact PySem.EqNone.ne_none_int (aN I q (by simp))
  | str j=>obtain ⟨t',rfl⟩:=ry; exact PySem.EqNone.ne_none_str (aN I q (by simp))
  | _=>exact absurd (show false=true from hs) Bool.false_ne_true
 | bl i=>
  cases rx
  cases y with
  | non=>cases ry; exact PySem.EqNone.ne_bool_none (aN I q (by simp))
  | bl j=>cases ry; exact ne_bool (aN I q (congrArg not dec_bl))
  | str j=>obtain ⟨t',rfl⟩:=ry; exact PySem.EqMixed.ne_bool_str (aN I q (by simp))
  | _=>exact absurd (show false=true from hs) Bool.false_ne_true
 | int i=>
  obtain ⟨t,rfl⟩:=rx
  cases y with
  | non=>cases ry; exact PySem.EqNone.ne_int_none (aN I q (by simp))
  | int j=>obtain ⟨t',rfl⟩:=ry; exact ne_int (aN I q (congrArg not dec_int))
  | str j=>obtain ⟨t',rfl⟩:=ry; exact PySem.EqMixed.ne_int_str (aN I q (by simp))
  | _=>exact absurd (show false=true from hs) Bool.false_ne_true
 | str i=>
  obtain ⟨t,rfl⟩:=rx
  cases y with
  | non=>cases ry; exact PySem.EqNone.ne_str_none (aN I q (by simp))
  | bl j=>cases ry; exact PySem.EqMixed.ne_str_bool (aN I q (by simp))
  | int j=>obtain ⟨t',rfl⟩:=ry; exact PySem.EqMixed.ne_str_int (aN I q (by simp))
  | str j=>obtain ⟨t',rfl⟩:=ry; exact ne_str (aN I q (congrArg not dec_str))
  | _=>exact absurd (show false=true from hs) Bool.false_ne_true
 | byt i=>
  obtain ⟨t,rfl⟩:=rx
  cases y with
  | byt j=>obtain ⟨t',rfl⟩:=ry; exact PySem.W.ne_bytes (aN I q (congrArg not dec_byt))
  | _=>exact absurd (show false=true from hs) Bool.false_ne_true
 | _=>cases y<;>exact absurd (show false=true from hs) Bool.false_ne_true
theorem jB:OpR X (compareOp .Lt) (rI0 λi j=>.bl (decide (i<j))):=opB0 λ_ _ _ _ _ _ _ q=>lt_int q
theorem jO:OpR X (compareOp .LtE) (rI0 λi j=>.bl (decide (i<=j))):=opB0 λ_ _ _ _ _ _ _ q=>le_int q
theorem eh:OpR X (compareOp .Gt) (rI0 λi j=>.bl (decide (j<i))):=opB0 λ_ _ _ _ _ _ _ q=>gt_int q
theorem op_ge:OpR X (compareOp .GtE) (rI0 λi j=>.bl (decide (j<=i))):=opB0 λ_ _ _ _ _ _ _ q=>ge_int q
theorem op_isN:OpR X (compareOp .Is) (λx y H Q=>y=.non/\Q (.bl (decide (x=.non))) H):=by
 intro pins s σ H x y v u Q I rx ry h
 obtain ⟨rfl,q⟩:=h
 cases ry
 refine is_none_gen (aN I q ?_)
 cases x<;>first
  | (cases rx; rfl)
  | (obtain ⟨t,rfl⟩:=rx; rfl)
theorem op_notN:OpR X (compareOp .IsNot) (λx y H Q=>y=.non/\Q (.bl (!decide (x=.non))) H):=by
 intro pins s σ H x y v u Q I rx ry h
 obtain ⟨rfl,q⟩:=h
 cases ry
 refine isnot_none_gen (aN I q ?_)
 cases x<;>first
  | (cases rx; rfl)
  | (obtain ⟨t,rfl⟩:=rx; rfl)
theorem az (b:Expr) {op:CmpOp} (h:op ≠ .In:=by decide) (h2:op ≠ .NotIn:=by decide):behindInMarks op b=false:=by
 have e1:(op == CmpOp.In)=false:=by cases op<;>first | rfl | exact absurd rfl h
 have e2:(op == CmpOp.NotIn)=false:=by cases op<;>first | rfl | exact absurd rfl h2
 cases b<;>simp [behindInMarks,e1,e2]
theorem fw {op:CmpOp} {r:R2} (ho:OpR X (compareOp op) r) (ha:PE X a ta) (hb:PE X b tb) (hm:behindInMarks op b=false):PE X (.Compare a [op] [b] pos) (tOp r ta tb):=by
 intro pins s σ H Q I h
 exact wpAny_Compare1 (binT ha hb I h λv u s2 x y H2 I2 rx ry q=>ho pins s2 σ H2 x y v u Q I2 rx ry q) hm
def tTest (t:TE):TT:=λσ H Q=>t σ H λx H'=>∃ k,x=.bl k/\Q k H'
theorem aw {op:CmpOp} {r:R2} (ho:OpR X (compareOp op) r) (ha:PE X a ta) (hb:PE X b tb) (hm:behindInMarks op b=false):PT X (.Compare a [op] [b] pos) (tTest (tOp r ta tb)):=by
 intro pins s σ H Q I h
 refine wpAny_isTrue_Compare1 (thn (ha pins s σ H _ I h) λv s1 ⟨x,H1,I1,r1,q1⟩=>thn (hb pins s1 σ H1 _ I1 q1) λu s2 ⟨y,H2,I2,r2,q2⟩=>
  thn (ho pins s2 σ H2 x y v u _ I2 r1 r2 q2) λc s3 ⟨z,H3,I3,r3,k,e,q3⟩=>?_) hm
 subst e
 cases r3
 exact wpAny_truthy_bool ⟨H3,I3,q3⟩
def tChain (r r':R2) (ta tb tc:TE):TE:=λσ H Q=>ta σ H λx H1=>tb σ H1 λy H2=>r x y H2 λz H3=>∃ k,z=.bl k/\
 (if k=true then tc σ H3 λw' H4=>r' y w' H4 Q else Q (.bl false) H3)
theorem pt_chain {op op':CmpOp} {r r':R2} (ho:OpR X (compareOp op) r) (ho':OpR X (compareOp op') r') (ha:PE X a ta) (hb:PE X b tb) (hc:PE X c tc)
  (hm:lastMarks [op,op'] [b,c]=false:=by with_unfolding_all rfl):PT X (.Compare a [op,op'] [b,c] pos) (tTest (tChain r r' ta tb tc)):=by
 intro pins s σ H Q I h
 refine isTrue_chain (thn (ha pins s σ H _ I h) λv s1 ⟨x,H1,I1,r1,q1⟩=>test_link (thn (hb pins s1 σ H1 _ I1 q1) λu s2 ⟨y,H2,I2,r2,q2⟩=>
  thn (ho pins s2 σ H2 x y v u _ I2 r1 r2 q2) λd s3 ⟨z,H3,I3,r3,k,e,q3⟩=>?_)) hm
 subst e
 cases r3
 refine wpAny_truthy_bool ?_
 cases k with
 | false=>
  obtain ⟨k',e',q'⟩:=q3
  cases e'
  exact ite_ff ⟨H3,I3,q'⟩
 | true=>
  refine ite_tt (test_last (thn (hc pins s3 σ H3 _ I3 q3) λw' s4 ⟨z',H4,I4,r4,q4⟩=>thn (ho' pins s4 σ H4 y z' u w' _ I4 r2 r4 q4) λd' s5 ⟨z2,H5,I5,r5,k2,e2,q5⟩=>?_))
  subst e2
  cases r5
  exact wpAny_truthy_bool ⟨H5,I5,q5⟩
theorem mJ:(sizeLine:Nat)<2 ^ 63:=by rw [sizeLine_eq]; decide
theorem fG {x:V} {us:List Value} (r:ni [x] us):∃ u,us=[u]/\m8 x u:=by
 cases r with
 | cons r1 r2=>cases r2; exact ⟨_,rfl,r1⟩
theorem kT {x y:V} {us:List Value} (r:ni [x,y] us):∃ u w',us=[u,w']/\m8 x u/\m8 y w':=by
 cases r with
 | cons r1 r2=>
  cases r2 with
  | cons r3 r4=>cases r4; exact ⟨_,_,rfl,r1,r3⟩
theorem call_abs:cA X (.builtin "abs") (λxs H Q=>∃ i,xs=[.int i]/\Q (.int (if i<0 then -i else i)) H):=by
 intro pins s σ H xs us Q I r h
 obtain ⟨i,rfl,q⟩:=h
 obtain ⟨u,rfl,t,rfl⟩:=fG r
 exact call_abs_int λu tk=>⟨.int (if i<0 then -i else i),H,I.tok _,⟨_,rfl⟩,q⟩
theorem call_max2 (hc:X.calm=true):cA X (.builtin "max") (λxs H Q=>∃ i j,xs=[.int i,.int j]/\Q (.int (if j > i then j else i)) H):=by
 intro pins s σ H xs us Q I r h
 obtain ⟨i,j,rfl,q⟩:=h
 obtain ⟨u,w',rfl,⟨t,rfl⟩,⟨t',rfl⟩⟩:=kT r
 refine max_two_ints (I.ok.hd hc) λh' tk k=>⟨_,H,I.kept k,?_,q⟩
 by_cases hj:j > i
 ·rw [if_pos hj,if_pos hj]; exact ⟨_,rfl⟩
 ·rw [if_neg hj,if_neg hj]; exact ⟨_,rfl⟩
theorem call_min2 (hc:X.calm=true):cA X (.builtin "min") (λxs H Q=>∃ i j,xs=[.int i,.int j]/\Q (.int (if j<i then j else i)) H):=by
 intro pins s σ H xs us Q I r h
 obtain ⟨i,j,rfl,q⟩:=h
 obtain ⟨u,w',rfl,⟨t,rfl⟩,⟨t',rfl⟩⟩:=kT r
 refine min_two_ints (I.ok.hd hc) λh' tk k=>⟨_,H,I.kept k,?_,q⟩
 by_cases hj:j<i
 ·rw [if_pos hj,if_pos hj]; exact ⟨_,rfl⟩
 ·rw [if_neg hj,if_neg hj]; exact ⟨_,rfl⟩
theorem hW:cA X (.type "int") (λxs H Q=>(∃ i,xs=[.int i]/\Q (.int i) H)\/∃ k,xs=[.bl k]/\Q (.int (if k then 1 else 0)) H):=by
 intro pins s σ H xs us Q I r h
 rcases h with ⟨i,rfl,q⟩ | ⟨k,rfl,q⟩
 ·obtain ⟨u,rfl,t,rfl⟩:=fG r
  exact call_int_int ⟨.int i,H,I,⟨_,rfl⟩,q⟩
 ·obtain ⟨u,rfl,r1⟩:=fG r
  cases r1
  exact call_int_bool ⟨.int (if k then 1 else 0),H,I.tok _,⟨_,rfl⟩,q⟩
end
structure ObjM (h:Heap) (x dx C:Addr) (mA:Str->Option Value):Prop where
 obj:h.get? x=some (instObj C dx)
 ns:h.Ns1 dx mA
 ne:dx ≠ x
theorem lookIn_ns {h:Heap} {dx:Addr} {mA:Str->Option Value} (n:h.Ns1 dx mA):∃ od,h.get? dx=some od/\∀ name,lookIn name od=some (mA name):=by
 obtain ⟨o,es,ep,ho,hd,hk,_,hm⟩:=n
 refine ⟨o,ho,λname=>?_⟩
 have e:=hm name
 unfold nsFind findBy at e
 rw [<- Array.find?_toList] at e
 unfold lookIn
 rw [hd]
 dsimp only
 split
 ·rename_i y q
  rw [q] at e
  exact congrArg some e
 ·rename_i q
  rw [q] at e
  have a:es.toList.any (·.refKey)=false:=by
   rw [List.any_eq_false]
   intro y hy
   obtain ⟨z,t,hkey⟩:=hk y (Array.mem_toList_iff.mp hy)
   simp [DictEntry.refKey,hkey]
  have a':¬ es.toList.any (·.refKey)=true:=by rw [a]; exact Bool.false_ne_true
  rw [if_neg a']
  exact congrArg some e
theorem ObjM.look {h:Heap} {x dx C:Addr} {mA:Str->Option Value} (I:ObjM h x dx C mA):∃ od,PySem.W.InstAt h x (instObj C dx) C (some od)/\∀ name,lookIn name od=some (mA name):=
 let ⟨od,ho,hl⟩:=lookIn_ns I.ns
 ⟨od,⟨I.obj,rfl,rfl,ho⟩,hl⟩
section
variable {prog:Program} {w:World} {A:Around} {E:Value->Shared->Prop} {s:Shared} {K:Frag} {x dx C f:Addr} {mA:Str->Option Value} {name:Str} {v:Value}
theorem get_map {expr:Bool} {Q:Value->Shared->Prop} (X:K.In s.heap) (I:ObjM s.heap x dx C mA) (hg:plainGet K C name=true) (hh:hasDictIn K C=true)
  (ha:findIn K (.ref C) name=some none) (hv:mA name=some v) (hv':PySem.W.handedIn v=true) (h:Q v { s with toks:=s.toks+1 }) :
  wpAny (model prog w) A (getAttr (.ref x) name expr) Q E s:=by
 obtain ⟨od,J,hl⟩:=I.look
 exact PySem.W.get_value X J (PySem.W.plainGet_of hg).1 (PySem.W.findObj_own hh ha rfl (by rw [hl,hv])) hv' h
theorem get_meth {pl:Sem Bool} {Q:Value × List Value->Shared->Prop} (X:K.In s.heap) (I:ObjM s.heap x dx C mA) (hg:plainGet K C name=true)
  (hf:findIn K (.ref C) name=some (some (.ref f))) (ht:isFn K (.ref f)=true) (hv:mA name=none) (h:Q (.ref f,[.ref x]) s) :
  wpAny (model prog w) A (getMethod (.ref x) name pl) Q E s:=by
 obtain ⟨od,J,hl⟩:=I.look
 exact PySem.W.method_fn X J (PySem.W.plainGet_of hg).1 (PySem.W.plainGet_of hg).2 hf (beq_iff_eq.mp ht) (by show (lookIn name od).map (·.isSome)=some false; rw [hl,hv]; rfl) h
theorem set_map {ns:List Str} {Q:Unit->Shared->Prop} (X:K.In s.heap) (I:ObjM s.heap x dx C mA)
  (hs:findIn K (.ref C) "__setattr__"=some (some (.builtin "object.__setattr__"))) (hp:plainOver K C=true) (ht:PySem.W.takerIn K C name=some none) (hh:hasDictIn K C=true)
  (hw:PySem.Within mA ns) (hsz:ns.length<=sizeLine)
  (h:∀ h',ObjM h' x dx C (λy=>if y=name then some v else mA y)->Heap.SameBut dx s.heap h'->Q () { s with heap:=h',toks:=s.toks+2 }) :
  wpAny (model prog w) A (setAttr (.ref x) name v) Q E s:=by
 obtain ⟨od,J,hl⟩:=I.look
 refine PySem.W.set_plain X J hs (PySem.W.osa_open (s:={ s with toks:=s.toks+1 }) (r:=none) X J hp ht λb=>?_)
 obtain ⟨cd,hc,hd'⟩:=PySem.W.any_some hh
 have hx:s.heap.get? x=some ⟨.ref C,some dx,.plain,#[]⟩:=I.obj
 refine wpAny_bind (wpAny_pure (wpAny_bind (wpAny_bind (wpAny_loadPart hx (wpAny_bind (PySem.W.Looks.here (s:={ s with toks:=s.toks+1 }) (PySem.W.looks_clsIn X hc) ?_))))))
 rw [hd']
 refine wpAny_pure (a:=some dx) (wpAny_bind (wpAny_pure (wpAny_bind ?_)))
 refine wpAny_nsSet1 (s:={ s with toks:=s.toks+1 }) I.ns λh' hn2 hs2=>?_
 obtain ⟨oD,esD,epD,hoD,hdD,hcD⟩:=hn2.count (PySem.Within.cons name v hw)
 refine wpAny_bind (wpAny_lookBehind hoD (by rw [hdD]; exact pastItsLine_dict (Nat.le_trans hcD (by rw [length_cons]; omega))) ?_)
 exact wpAny_pure (h _ ⟨(hs2.2 _ (Ne.symm I.ne)).trans I.obj,hn2,I.ne⟩ hs2)
theorem make_map {R:Result->Shared->Prop} {vs:List Value} {kw:List (Str × Value)} (X:K.In s.heap) (hm:makesIn K C=true)
  (hi:findIn K (.ref C) "__init__"=some (some (.ref f))) (hf:PySem.W.typeIn K (.ref f)=some (.type "function"))
  (h:codeAny (model prog w) (A.under (.builtin "type.__call__" ⟨.ref C::vs,kw⟩)) (.call (.ref f) ⟨.ref (s.heap.objs.size+1)::vs,kw⟩) (PySem.W.InitBack (s.heap.objs.size+1) R)
   { s with heap:=(s.heap.push emptyDict).push (instObj C s.heap.objs.size) }) :
  codeAny (model prog w) A (.call (.ref C) ⟨vs,kw⟩) R s:=by
 obtain ⟨hh,g,d,t,os⟩:=s
 exact PySem.W.make_core (PySem.W.makes_of X hm) (looks_findIn X hi) (λself=>PySem.W.bind_fn X self hf) (.inl rfl) h
theorem make_map0 {R:Result->Shared->Prop} (X:K.In s.heap) (hm:makesIn K C=true)
  (hi:findIn K (.ref C) "__init__"=some (some (.builtin "object.__init__")))
  (hb:∀ self,Looks (model prog w) s.heap (bindSpecial (.builtin "object.__init__") self) (.builtin "object.__init__",[self]))
  (h:codeAny (model prog w) (A.under (.builtin "type.__call__" ⟨[.ref C],[]⟩)) (.call (.builtin "object.__init__") ⟨[.ref (s.heap.objs.size+1)],[]⟩) (PySem.W.InitBack (s.heap.objs.size+1) R)
   { s with heap:=(s.heap.push emptyDict).push (instObj C s.heap.objs.size) }) :
  codeAny (model prog w) A (.call (.ref C) ⟨[],[]⟩) R s:=by
 obtain ⟨hh,g,d,t,os⟩:=s
 exact PySem.W.make_core (PySem.W.makes_of X hm) (looks_findIn X hi) hb (.inr ⟨rfl,rfl⟩) h
end
def fE (f:Str) (v:V):List (Str × V)->List (Str × V)
 | []=>[(f,v)]
 | (g,x)::r=>if g=f then (g,v)::r else (g,x)::fE f v r
theorem iA (f g:Str) (v:V):∀ fs:List (Str × V),(fE f v fs).lookup g=if g=f then some v else fs.lookup g
 | []=>by
  show List.lookup g [(f,v)]=_
  by_cases h:g=f
  ·have hb:(g == f)=true:=beq_iff_eq.mpr h
   simp only [List.lookup,hb,if_pos h]
  ·have hb:(g == f)=false:=beq_eq_false_iff_ne.mpr h
   simp only [List.lookup,hb,if_neg h]
 | (k,x)::r=>by
  have ih:=iA f g v r
  rw [show fE f v ((k,x)::r)=(if k=f then (k,v)::r else (k,x)::fE f v r) from rfl]
  by_cases hk:k=f
  ·rw [if_pos hk]
   by_cases h:g=k
   ·have hb:(g == k)=true:=beq_iff_eq.mpr h
    simp only [List.lookup,hb,if_pos (h.trans hk)]
   ·have hb:(g == k)=false:=beq_eq_false_iff_ne.mpr h
    simp only [List.lookup,hb,if_neg (λe:g=f=>h (e.trans hk.symm))]
  ·rw [if_neg hk]
   by_cases h:g=k
   ·have hb:(g == k)=true:=beq_iff_eq.mpr h
    simp only [List.lookup,hb,if_neg (λe:g=f=>hk (h.symm.trans e))]
   ·have hb:(g == k)=false:=beq_eq_false_iff_ne.mpr h
    simp only [List.lookup,hb]
    exact ih
theorem gZ (f:Str) (v:V):∀ fs:List (Str × V),f ∈ (fE f v fs).map (·.1)/\∀ g,g ∈ fs.map (·.1)->g ∈ (fE f v fs).map (·.1)
 | []=>⟨by simp [fE],λg h=>by simp at h⟩
 | (k,x)::r=>by
  obtain ⟨i1,i2⟩:=gZ f v r
  rw [show fE f v ((k,x)::r)=(if k=f then (k,v)::r else (k,x)::fE f v r) from rfl]
  by_cases hk:k=f
  ·rw [if_pos hk]
   subst hk
   exact ⟨by simp,λg h=>by simpa using h⟩
  ·rw [if_neg hk]
   refine ⟨?_,λg h=>?_⟩
   ·rw [map_cons]
    exact mem_cons_of_mem _ i1
   ·rw [map_cons] at h ⊢
    rcases List.mem_cons.mp h with e | e
    ·exact List.mem_cons.mpr (.inl e)
    ·exact mem_cons_of_mem _ (i2 g e)
theorem iM (f:Str) (v:V):∀ fs:List (Str × V),(fE f v fs).length<=fs.length+1
 | []=>by simp [fE]
 | (k,x)::r=>by
  have ih:=iM f v r
  rw [show fE f v ((k,x)::r)=(if k=f then (k,v)::r else (k,x)::fE f v r) from rfl]
  by_cases hk:k=f
  ·rw [if_pos hk,length_cons,length_cons]; omega
  ·rw [if_neg hk,length_cons,length_cons]; omega
theorem RelO.some_of {v:V} {o:Option Value} (r:RelO (some v) o):∃ u,o=some u/\m8 v u:=by
 cases o with
 | none=>exact (show False from r).elim
 | some u=>exact ⟨u,rfl,r⟩
theorem RelO.none_of {o:Option Value} (r:RelO none o):o=none:=by
 cases o with
 | none=>rfl
 | some u=>exact (show False from r).elim
theorem handed_of {v:V} {u:Value} (r:m8 v u):PySem.W.handedIn u=true:=by
 cases v with
 | non=>cases (show u=Value.none from r); rfl
 | bl b=>cases (show u=Value.bool b from r); rfl
 | int i=>obtain ⟨t,e⟩:=(show ∃ t,u=Value.int i t from r); cases e; rfl
 | str x=>obtain ⟨t,e⟩:=(show ∃ t,u=Value.str x t from r); cases e; rfl
 | byt b=>obtain ⟨t,e⟩:=(show ∃ t,u=Value.bytes b t from r); cases e; rfl
 | flt b=>obtain ⟨t,e⟩:=(show ∃ t,u=Value.float b t from r); cases e; rfl
 | ref a=>cases (show u=Value.ref a from r); rfl
 | ty n=>cases (show u=Value.type n from r); rfl
section
variable {P:Program} {w:World} {H H':Hp} {h h':Heap} {a C dx:Addr} {fs fs':List (Str × V)}
theorem iU (hok:HOk P w H h) (e:H a=some (.ins C dx fs)):∃ mA,ObjM h a dx C mA/\(∀ f,RelO (fs.lookup f) (mA f))/\PySem.Within mA (fs.map (·.1))/\fs.length<=1000/\H dx=some (.own a):=by
 obtain ⟨d,z,ne,ob,mA,n,r,q⟩:=(show ny P w H h a (.ins C dx fs) from hok a _ e)
 exact ⟨mA,⟨ob,n,ne⟩,r,q,z,d⟩
end
structure Cls (K:Frag) (C:Addr):Prop where
 pg:plainGet K C Str.empty=true
 hd:hasDictIn K C=true
 po:plainOver K C=true
 sa:findIn K (.ref C) "__setattr__"=some (some (.builtin "object.__setattr__"))
theorem Cls.get {K:Frag} {C:Addr} (c:Cls K C) (f:Str):plainGet K C f=true:=c.pg
def oC (K:Frag) (C:Addr) (f:Str):Prop:=findIn K (.ref C) f=some none
theorem oC.taker {K:Frag} {C:Addr} {f:Str} (n:oC K C f):PySem.W.takerIn K C f=some none:=by
 unfold PySem.W.takerIn
 rw [show findIn K (.ref C) f=some none from n]
 rfl
structure f6 (K:Frag) (C:Addr) (m:Str) (f:Addr):Prop where
 at_:findIn K (.ref C) m=some (some (.ref f))
 fn:isFn K (.ref f)=true
 kp:keepIn K (.ref f)=true
section
variable {X:Cx} {pins:List (Addr × Obj)} {σ:St} {H:Hp} {s:Shared} {a C dx:Addr} {fs:List (Str × V)} {f:Str} {v:V} {A:Around} {E:Value->Shared->Prop}
theorem getattr_ok {b:Bool} {Q:Value->Shared->Prop} (I:Inv X pins σ H s) (e:H a=some (.ins C dx fs)) (c:Cls X.K C) (n:oC X.K C f) (l:fs.lookup f=some v)
  (h:∀ u s',Inv X pins σ H s'->m8 v u->Q u s'):wpAny (model X.prog X.w) A (getAttr (.ref a) f b) Q E s:=by
 obtain ⟨mA,O,r,_,_,_⟩:=iU I.hok e
 obtain ⟨u,hu,ru⟩:=RelO.some_of (v:=v) (o:=mA f) (by rw [<- l]; exact r f)
 exact get_map I.kIn O (c.get f) c.hd n hu (handed_of ru) (h u _ (I.tok _) ru)
theorem fY {m:Str} {g:Addr} {pl:Sem Bool} {Q:Value × List Value->Shared->Prop} (I:Inv X pins σ H s) (e:H a=some (.ins C dx fs)) (c:Cls X.K C) (k:f6 X.K C m g) (l:fs.lookup m=none)
  (h:Q (.ref g,[.ref a]) s):wpAny (model X.prog X.w) A (getMethod (.ref a) m pl) Q E s:=by
 obtain ⟨mA,O,r,_,_,_⟩:=iU I.hok e
 have hn:mA m=none:=RelO.none_of (by rw [<- l]; exact r m)
 exact get_meth I.kIn O (c.get m) k.at_ k.fn hn h
theorem setattr_ok {y:V} {u:Value} {Q:Unit->Shared->Prop} (I:Inv X pins σ H s) (e:H a=some (.ins C dx fs)) (c:Cls X.K C) (n:oC X.K C f) (hl:fs.length<1000) (ry:m8 y u)
  (h:∀ s',Inv X pins σ (upd H a (.ins C dx (fE f y fs))) s'->Q () s'):wpAny (model X.prog X.w) A (setAttr (.ref a) f u) Q E s:=by
 obtain ⟨mA,O,r,wi,_,ho⟩:=iU I.hok e
 have hz:(fs.map (·.1)).length<=sizeLine:=by rw [length_map,sizeLine_eq]; omega
 refine set_map I.kIn O c.sa c.po n.taker c.hd wi hz λh' O' sb=>h _ ?_
 have hd:∃ o,h'.get? dx=some o:=let ⟨o,_,_,e',_⟩:=O'.ns; ⟨o,e'⟩
 refine I.write (x:=a) (e:=dx) (by rw [e]; exact True.intro) (.inr ho) (λb q hb z=>(sb.2 b hb).trans z) hd ?_
 refine ⟨by rw [am O.ne]; exact ho,?_,O.ne,O'.obj,_,O'.ns,λg=>?_,λg hg=>?_⟩
 ·have:=iM f y fs; omega
 ·show RelO ((fE f y fs).lookup g) (if g=f then some u else mA g)
  rw [iA]
  by_cases q:g=f
  ·rw [if_pos q,if_pos q]; exact ry
  ·rw [if_neg q,if_neg q]; exact r g
 ·by_cases q:g=f
  ·rw [q]; exact (gZ f y fs).1
  ·refine (gZ f y fs).2 g (wi g λz=>hg ?_)
   show (if g=f then some u else mA g)=none
   rw [if_neg q]; exact z
theorem Inv.made (I:Inv X pins σ H s):Inv X pins σ (upd (upd H s.heap.objs.size (.own (s.heap.objs.size+1))) (s.heap.objs.size+1) (.ins C s.heap.objs.size []))
  { s with heap:=(s.heap.push emptyDict).push (instObj C s.heap.objs.size) }:=by
 have e1:(s.heap.push emptyDict).get? s.heap.objs.size=some emptyDict:=get?_push_size s.heap rfl
 have e2:((s.heap.push emptyDict).push (instObj C s.heap.objs.size)).get? (s.heap.objs.size+1)=some (instObj C s.heap.objs.size):=by
  have:=get?_push_size (s.heap.push emptyDict) (o:=instObj C s.heap.objs.size) rfl
  rwa [size_push] at this
 have e3:(s.heap.push emptyDict).Ns s.heap.objs.size (λ_=>none):=⟨emptyDict,#[],_,e1,rfl,(λe he=>absurd he (by simp)),λ_=>rfl⟩
 have I1:=I.laid (a:=s.heap.objs.size) (o:=.own (s.heap.objs.size+1)) (h':=s.heap.push emptyDict) (t':=s.toks) (λb u q=>get?_push_of_some _ q) (Nat.le_refl _) ⟨_,e1⟩
 refine I1.laid (a:=s.heap.objs.size+1) (o:=.ins C s.heap.objs.size []) (t':=s.toks) (λb u q=>get?_push_of_some _ q) (Nat.le_of_eq (size_push _ _)) ?_
 have ne:s.heap.objs.size ≠ s.heap.objs.size+1:=Nat.ne_of_lt (Nat.lt_succ_self _)
 refine ⟨by rw [am ne,ac],Nat.zero_le _,ne,e2,λ_=>none,(Heap.Ns1.of_empty e3).at λo q=>get?_push_of_some _ q,λ_=>True.intro,λy hy=>absurd rfl hy⟩
theorem attr_of {prog:Program} {w:World} {env:Env} {e:Expr} {f:Str} {pos:Pos} {s:Shared} {Q:Value->Shared->Prop} (hb:attributeBase e f env (eval e env)=eval e env)
  (h:wpAny (model prog w) A (eval e env) (λo s₁=>wpAny (model prog w) A (getAttr o f true) Q E s₁) E s):wpAny (model prog w) A (eval (.Attribute e f pos) env) Q E s:=
 Attribute_any_ h (by rw [arm_eval_Attribute,hb])
end
def tFld (K:Frag) (ta:TE) (f:Str):TE:=λσ H Q=>ta σ H λx H1=>∃ a C dx fs v,x=.ref a/\H1 a=some (.ins C dx fs)/\Cls K C/\oC K C f/\fs.lookup f=some v/\Q v H1
def sFld (K:Frag) (ta tv:TE) (f:Str):TS:=λD σ H=>tv σ H λy H1=>ta σ H1 λx H2=>∃ a C dx fs,x=.ref a/\H2 a=some (.ins C dx fs)/\Cls K C/\oC K C f/\fs.length<1000/\
 D.nx σ (upd H2 a (.ins C dx (fE f y fs)))
section
variable {X:Cx} {o e value:Expr} {f:Str} {pos pos' tpos:Pos} {ta tv:TE}
theorem gY (he:PE X e ta) (hb:attributeBase e f X.env (eval e X.env)=eval e X.env):PE X (.Attribute e f pos) (tFld X.K ta f):=by
 intro pins s σ H Q I h
 refine attr_of hb (thn (he pins s σ H _ I h) λu s1 ⟨x,H1,I1,rx,a,C,dx,fs,v,ex,ea,c,n,l,q⟩=>?_)
 subst ex
 obtain rfl:u=Value.ref a:=rx
 exact getattr_ok I1 ea c n l λu' s2 I2 ru=>⟨v,H1,I2,ru,q⟩
theorem ps_fld (ha:PE X o ta) (hv:PE X value tv) (hs:swapsWith value (some (.Attribute o f pos')) pos.line X.env=pure false):PS X (.Assign [.Attribute o f pos'] value pos) (sFld X.K ta tv f):=by
 intro pins s σ H D I h
 refine plainObj_wpAny_Assign_Attribute (thn (hv pins s σ H _ I h) λu s1 ⟨y,H1,I1,ry,q⟩=>thn (ha pins s1 σ H1 _ I1 q) λov s2 ⟨x,H2,I2,rx,a,C,dx,fs,ex,ea,c,n,l,q2⟩=>?_) hs
 subst ex
 obtain rfl:ov=Value.ref a:=rx
 exact setattr_ok I2 ea c n l ry λs3 I3=>⟨σ,_,I3,q2⟩
theorem methcall_of {pl:Sem Bool} {m:Str} {apos:Pos} {args:List Expr} {pins:List (Addr × Obj)} {s:Shared} {σ:St} {H:Hp} {Q:Value->Shared->Prop} {te:TE} (he:PE X e te) (I:Inv X pins σ H s)
  (h:te σ H λx H1=>∃ a C dx fs g,x=.ref a/\H1 a=some (.ins C dx fs)/\Cls X.K C/\f6 X.K C m g/\fs.lookup m=none/\
   ∀ s1,Inv X pins σ H1 s1->wpAny (model X.prog X.w) X.A (callWith pos (.ref g) [.ref a] (backTo pos (starEach args X.env)) (backToKw pos (keywordEach [] X.env))) Q X.xe s1)
  (ht:eval (.Call (.Attribute e m apos) args [] pos) X.env=(do
   let ov <- eval e X.env
   standAt apos.atName
   let (f,first) <- holding [ov] (getMethod ov m pl)
   callWith pos f first (backTo pos (starEach args X.env)) (backToKw pos (keywordEach [] X.env)))) :
  wpAny (model X.prog X.w) X.A (eval (.Call (.Attribute e m apos) args [] pos) X.env) Q X.xe s:=by
 refine PySem.W.methodCall_KW (pl:=pl) (thn (he pins s σ H _ I h) λu s1 ⟨x,H1,I1,rx,a,C,dx,fs,g,ex,ea,c,k,l,q⟩=>?_) ht
 subst ex
 obtain rfl:u=Value.ref a:=rx
 exact fY I1 ea c k l (q s1 I1)
end
section
variable {X:Cx} {pins:List (Addr × Obj)} {σ:St} {H:Hp} {s:Shared} {A:Around} {E:Value->Shared->Prop} {Q:Value->Shared->Prop} {c:Value} {b:Bool}
inductive TyOf (K:Frag) (H:Hp):V->Value->Prop where
 | non:TyOf K H .non (.type "NoneType")
 | bl (x:Bool):TyOf K H (.bl x) (.type "bool")
 | int (i:Int):TyOf K H (.int i) (.type "int")
 | str (x:Str):TyOf K H (.str x) (.type "str")
 | flt (x:UInt64):TyOf K H (.flt x) (.type "float")
 | lst {a:Addr} {xs:List V} (e:H a=some (.lst xs)):TyOf K H (.ref a) (.type "list")
 | frz {a:Addr} {o:Obj} {xs:List V} (e:H a=some (.frz o (.lst xs))):TyOf K H (.ref a) (.type "list")
 | tup {a:Addr} {xs:List V} (e:H a=some (.tup xs)):TyOf K H (.ref a) (.type "tuple")
 | dK {a:Addr} {kvs:List (Key × V)} (e:H a=some (.dK kvs)):TyOf K H (.ref a) (.type "dict")
 | dT {a:Addr} {kvs:List (List Key × V)} (e:H a=some (.dT kvs)):TyOf K H (.ref a) (.type "dict")
 | ins {a C dx:Addr} {fs:List (Str × V)} (e:H a=some (.ins C dx fs)) (cl:Cls K C) (ha:findIn K (.ref C) "__class__"=some (some (.builtin "object.__class__")))
   (hn:specialIn K (.builtin "object.__class__") "__get__"=some (some (.builtin "getset_descriptor.__get__"))) (htk:takesIn K (.builtin "object.__class__")=some true)
   (hm:mroIn K C (.type "object")=some true):TyOf K H (.ref a) (.ref C)
theorem isinst_ok {x:V} {u t:Value} (I:Inv X pins σ H s) (rx:m8 x u) (ty:TyOf X.K H x t) (e:kitOne X.K t c=some b) (h:∀ tk,Q (.bool b) { s with toks:=tk }) :
  wpAny (model X.prog X.w) A (call (.builtin "isinstance") [u,c]) Q E s:=by
 cases ty with
 | non=>cases (show u=Value.none from rx); exact kia_one PySem.W.kitx_none I.kIn True.intro e (λz=>nomatch z) h
 | bl y=>cases (show u=Value.bool y from rx); exact kia_one PySem.W.kitx_bool I.kIn True.intro e (λz=>nomatch z) h
 | int i=>obtain ⟨t,q⟩:=(show ∃ t,u=Value.int i t from rx); cases q; exact kia_one PySem.W.kitx_int I.kIn True.intro e (λz=>nomatch z) h
 | str y=>obtain ⟨t,q⟩:=(show ∃ t,u=Value.str y t from rx); cases q; exact kia_one PySem.W.kitx_str I.kIn True.intro e (λz=>nomatch z) h
 | flt y=>obtain ⟨t,q⟩:=(show ∃ t,u=Value.float y t from rx); cases q; exact kia_one PySem.W.kitx_float I.kIn True.intro e (λz=>nomatch z) h
 | @lst a xs ea=>
  cases (show u=Value.ref a from rx)
  obtain ⟨_,_,n,_,h1⟩:=(show ny X.prog X.w H s.heap a (.lst xs) from I.hok a _ ea)
  exact kia_one PySem.W.kitx_list I.kIn ⟨_,h1,rfl⟩ e (λz=>nomatch z) h
 | @frz a ob xs ea=>
  cases (show u=Value.ref a from rx)
  obtain ⟨_,_,_,n,_,h1⟩:=(show ny X.prog X.w H s.heap a (.frz ob (.lst xs)) from I.hok a _ ea)
  exact kia_one PySem.W.kitx_list I.kIn ⟨_,h1,rfl⟩ e (λz=>nomatch z) h
 | @tup a xs ea=>
  cases (show u=Value.ref a from rx)
  obtain ⟨_,_,_,p⟩:=(show ny X.prog X.w H s.heap a (.tup xs) from I.hok a _ ea)
  obtain ⟨o,h1,h2,_⟩:=p
  exact kia_one PySem.W.kitx_tuple I.kIn ⟨o,h1,h2⟩ e (λz=>nomatch z) h
 | @dK a kvs ea=>
  cases (show u=Value.ref a from rx)
  obtain ⟨_,_,vs,_,p⟩:=(show ny X.prog X.w H s.heap a (.dK kvs) from I.hok a _ ea)
  obtain ⟨o,es,ep,h1,h2,_⟩:=p
  exact kia_one PySem.W.kitx_dict I.kIn ⟨o,h1,h2.1⟩ e (λz=>nomatch z) h
 | @dT a kvs ea=>
  cases (show u=Value.ref a from rx)
  obtain ⟨_,_,xs,_,o,es,ep,h1,h2,_⟩:=(show ny X.prog X.w H s.heap a (.dT kvs) from I.hok a _ ea)
  exact kia_one PySem.W.kitx_dict I.kIn ⟨o,h1,h2.1⟩ e (λz=>nomatch z) h
 | @ins a C dx fs ea cl ha hn htk hm=>
  cases (show u=Value.ref a from rx)
  obtain ⟨mA,O,_⟩:=iU I.hok ea
  obtain ⟨od,J,_⟩:=O.look
  exact kia_one (PySem.W.kitx_own (cl.get _) cl.hd ha hn htk hm) I.kIn J e (λz=>nomatch z) h
end
structure nC (k:Nat) (A:Around):Prop where
 hd:A.handled=none
 dp:A.depth+3*k+5<recursionLimit
 un:A.units+16*k+200<cLine
theorem nC.mono {j k:Nat} {A:Around} (r:nC k A) (h:j<=k):nC j A:=⟨r.hd,by have:=r.dp; omega,by have:=r.un; omega⟩
theorem nC.deeper {k:Nat} {A:Around} (r:nC (k+1) A) (env:Env):nC k (A.deeper env):=
 ⟨r.hd,by have:=r.dp; show A.depth+1+3*k+5<_; omega,by have:=r.un; show A.units+3+16*k+200<_; omega⟩
theorem nC.in1 {k:Nat} {A:Around} (r:nC (k+1) A):nC k A.in1:=
 ⟨r.hd,by have:=r.dp; show A.depth+3*k+5<_; omega,by have:=r.un; show A.units+1+16*k+200<_; omega⟩
theorem make_depth {A:Around} {C:Addr} {us:List Value} {kw:List (Str × Value)}:(A.under (.builtin "type.__call__" ⟨.ref C::us,kw⟩)).depth=A.depth+1:=by
 first | rfl | simp [Around.under,Code.weight,Code.isCreation,Code.isGuard,Code.isCaller,Code.frames,Code.isFrame,guardIds]
theorem make_units {A:Around} {C:Addr} {us:List Value} {kw:List (Str × Value)}:(A.under (.builtin "type.__call__" ⟨.ref C::us,kw⟩)).units=A.units+1:=by
 first | rfl | simp [Around.under,Code.cUnits,Code.frames,Code.isFrame]
theorem nC.make {k:Nat} {A:Around} (r:nC (k+1) A) (C:Addr) (us:List Value) (kw:List (Str × Value)):nC k (A.under (.builtin "type.__call__" ⟨.ref C::us,kw⟩)):=
 ⟨r.hd,by have:=r.dp; rw [make_depth]; omega,by have:=r.un; rw [make_units]; omega⟩
theorem nC.depth {k:Nat} {A:Around} (r:nC k A):A.depth<recursionLimit:=by have:=r.dp; omega
theorem nC.units {k:Nat} {A:Around} (r:nC k A):A.units+64<cLine:=by have:=r.un; omega
def di:TA:=λ_ H Q=>Q [] H
def bv (ta:TE) (tr:TA):TA:=λσ H Q=>ta σ H λx H1=>tr σ H1 λxs H2=>Q (x::xs) H2
section
variable {X:Cx} {e:Expr} {es:List Expr} {te:TE} {t:TA} {pos:Pos}
theorem af:PA X [] di:=λ_ _ _ _ H Q I h=>Calls.spliced_nil ⟨[],H,I,.nil,h⟩
theorem aa (ha:PE X e te) (hr:PA X es t) (hs:starEach (e::es) X.env=(false,eval e X.env)::starEach es X.env:=by rfl):PA X (e::es) (bv te t):=by
 intro pos pins s σ H Q I h
 rw [hs]
 show wpAny _ _ (spliced ((false,eval e X.env)::backTo pos (starEach es X.env))) _ _ s
 refine Calls.spliced_cons (thn (ha pins s σ H _ I h) λu s1 ⟨x,H1,I1,r1,q1⟩=>?_)
 exact thn (hr pos pins s1 σ H1 _ I1 q1) λus s2 ⟨xs,H2,I2,r2,q2⟩=>⟨x::xs,H2,I2,.cons r1 r2,q2⟩
def tTup (t:TA):TE:=λσ H Q=>t σ H λxs H1=>xs.length<=sizeLine/\∀ p,H1 p=none->Q (.ref p) (upd H1 p (.tup xs))
def tLst (t:TA):TE:=λσ H Q=>t σ H λxs H1=>xs.length<=sizeLine/\∀ p,H1 p=none->Q (.ref p) (upd H1 p (.lst xs))
theorem aL {x1} (h:PA X es t):PE X (.Tuple es x1 pos) (tTup t):=by
 intro pins s σ H Q I hq
 refine wpAny_Tuple_spliced (thn (h pos pins s σ H _ I hq) λus s1 ⟨xs,H1,I1,r,z,q⟩=>⟨by rw [<- r.length]; exact z,?_⟩)
 have hf:H1 s1.heap.objs.size=none:=I1.hok.fresh (Nat.le_refl _)
 refine ⟨.ref s1.heap.objs.size,upd H1 s1.heap.objs.size (.tup xs),I1.laid (t':=s1.toks) (λb u e=>get?_push_of_some _ e) (Nat.le_refl _) ?_,rfl,q _ hf⟩
 exact ⟨z,us,r,⟨_,get?_push_size _ rfl,rfl,_,rfl⟩⟩
theorem aQ (h:PA X es t):PE X (.List es pos) (tLst t):=by
 intro pins s σ H Q I hq
 refine wpAny_List_spliced (thn (h pos pins s σ H _ I hq) λus s1 ⟨xs,H1,I1,r,z,q⟩=>⟨by rw [<- r.length]; exact z,?_⟩)
 have hf:H1 s1.heap.objs.size=none:=I1.hok.fresh (Nat.le_refl _)
 refine ⟨.ref s1.heap.objs.size,upd H1 s1.heap.objs.size (.lst xs),I1.laid (t':=s1.toks) (λb u e=>get?_push_of_some _ e) (Nat.le_refl _) ?_,rfl,q _ hf⟩
 exact ⟨z,us,0,r,get?_push_size _ rfl⟩
end
abbrev Sp:=List V->Hp->VK->XK->Prop
abbrev CXT:=List Env->Hp->Shared->XK->Value->Shared->Prop
structure Env0 (P:Program) (w:World) (K:Frag) (mg:Str->Option Value) (base:Heap) (A:Around) (outer:List Env) (s:Shared) (H:Hp):Prop where
 frames:A.frames=some outer
 mod:Mod K mg base
 bs:∀ b o,base.get? b=some o->s.heap.get? b=some o/\H b=none
 bsz:base.objs.size<=s.heap.objs.size
 funs:s.heap.FunFrames base outer
 frf:∀ b ∈ frs outer,H b=none
 hok:HOk P w H s.heap
 bare:AllBare s.gens
def CE (outer:List Env) (P:Program) (w:World) (H:Hp) (s:Shared) (Q:VK) (u:Value) (s':Shared):Prop:=
 ∃ v H',s'.os=s.os/\AllBare s'.gens/\Un (frs outer) [] H H' s.heap s'.heap/\HOk P w H' s'.heap/\m8 v u/\Q v H'
def CR (CX:CXT) (outer:List Env) (P:Program) (w:World) (H:Hp) (s:Shared) (Q:VK) (E:XK) (r:Result) (s':Shared):Prop:=
 match r with
 | .ok (.ret u)=>CE outer P w H s Q u s'
 | .ok _=>False
 | .error e=>CX outer H s E e s'
structure nk (P:Program) (w:World) (K:Frag) (mg:Str->Option Value) (base:Heap) (CX:CXT) (k:Nat) (f:Addr) (fd:FuncData) (ps:List Str) (sp:Sp):Prop where
 len:∀ vs H Q E,sp vs H Q E->vs.length=ps.length
 run:∀ (A:Around) (outer:List Env) (s:Shared) (H:Hp) (args:Args) (us:List Value) (vs:List V) (Q:VK) (E:XK),nC k A->Env0 P w K mg base A outer s H->BindsTo s fd args (ps.zip us)->ni vs us->sp vs H Q E->
  codeAny (model P w) A (.call (.ref f) args) (CR CX outer P w H s Q E) s
theorem nk.mono {P:Program} {w:World} {K:Frag} {mg:Str->Option Value} {base:Heap} {CX:CXT} {j k:Nat} {f:Addr} {fd:FuncData} {ps:List Str} {sp:Sp} (F:nk P w K mg base CX j f fd ps sp) (h:j<=k) :
  nk P w K mg base CX k f fd ps sp:=⟨F.len,λA outer s H args us vs Q E hr=>F.run A outer s H args us vs Q E (hr.mono h)⟩
theorem Env0.make {P:Program} {w:World} {K:Frag} {mg:Str->Option Value} {base:Heap} {A:Around} {outer:List Env} {s:Shared} {H:Hp} (e:Env0 P w K mg base A outer s H) (C:Addr) (us:List Value) (kw:List (Str × Value)) :
  Env0 P w K mg base (A.under (.builtin "type.__call__" ⟨.ref C::us,kw⟩)) outer s H:=⟨by first | exact e.frames | (simpa [Around.under,Code.envs,Code.isFrame,pushEnvs] using e.frames),e.mod,e.bs,e.bsz,e.funs,e.frf,e.hok,e.bare⟩
theorem Env0.in1 {P:Program} {w:World} {K:Frag} {mg:Str->Option Value} {base:Heap} {A:Around} {outer:List Env} {s:Shared} {H:Hp} (e:Env0 P w K mg base A outer s H) :
  Env0 P w K mg base A.in1 outer s H:=⟨e.frames,e.mod,e.bs,e.bsz,e.funs,e.frf,e.hok,e.bare⟩
section
variable {X:Cx} {pins:List (Addr × Obj)} {σ:St} {H:Hp} {s s':Shared}
theorem Inv.env0 (I:Inv X pins σ H s):Env0 X.prog X.w X.K X.mg X.base X.A X.stack s H:=
 ⟨I.ok.frames,I.ok.mod,I.bs,Nat.le_trans I.ok.bsz I.sz,I.stack,I.stkFree,I.hok,I.bare⟩
theorem Inv.after {Q:VK} {u:Value} (I:Inv X pins σ H s) (h:CE X.stack X.prog X.w H s Q u s'):EP X pins σ Q u s':=by
 obtain ⟨v,H',os,bare,un,hok,r,q⟩:=h
 obtain ⟨hh,g,d,t,os'⟩:=s'
 obtain rfl:os'=s.os:=os
 exact ⟨v,H',I.call (h':=hh) (g':=g) (d':=d) (t':=t) (ch:=[]) un hok bare (λb z=>absurd z (by simp)),r,q⟩
end
def tCall (sp:Sp) (dvs:List V) (E:XK) (t:TA):TE:=λσ H Q=>t σ H λvs H1=>sp (vs++dvs) H1 Q E
def fg (C:Addr) (m:Str) (sp:Sp) (dvs:List V) (E:XK) (ta:TE) (t:TA):TE:=λσ H Q=>ta σ H λx H1=>∃ a dx fs,x=.ref a/\H1 a=some (.ins C dx fs)/\fs.lookup m=none/\
 t σ H1 λvs H2=>sp (x::(vs++dvs)) H2 Q E
def tMake (C:Addr) (sp:Sp) (dvs:List V) (E:XK) (t:TA):TE:=λσ H Q=>t σ H λvs H1=>∀ x dx,H1 x=none->H1 dx=none->dx ≠ x->
 sp (.ref x::(vs++dvs)) (upd (upd H1 dx (.own x)) x (.ins C dx [])) (λv H2=>v=.non/\Q (.ref x) H2) E
def nY (K:Frag) (fd:FuncData) (ps:List Str) (ds:List Value):Prop:=
 ∀ (s:Shared) (us:List Value),K.In s.heap->(us++ds).length=ps.length->BindsTo s fd ⟨us,[]⟩ (ps.zip (us++ds))
theorem nY.all {K:Frag} {fd:FuncData} {ps:List Str} (h:∀ us:List Value,us.length=ps.length->bindArgs fd ⟨us,[]⟩=pure (ps.zip us)):nY K fd ps []:=λs us _ hl=>by
 rw [append_nil] at hl ⊢
 exact .of_eq (h us hl)
def cu (CX:CXT) (X:Cx) (E:XK):Prop:=∀ (pins:List (Addr × Obj)) (σ:St) (H:Hp) (s:Shared) (e:Value) (s':Shared),Inv X pins σ H s->CX X.stack H s E e s'->X.xe e s'
section
variable {X:Cx} {CX:CXT} {k:Nat} {f C:Addr} {fd:FuncData} {ps:List Str} {sp:Sp} {dvs:List V} {ds:List Value} {E:XK} {x m:Str} {p pos apos:Pos} {e o:Expr} {es:List Expr} {ta:TE} {t:TA}
theorem run_fn {pins:List (Addr × Obj)} {σ:St} {H:Hp} {s:Shared} {Q:VK} {us:List Value} {vs:List V} (F:nk X.prog X.w X.K X.mg X.base CX k f fd ps sp) (hr:nC k X.A) (hb:nY X.K fd ps ds) (hd:ni dvs ds) (hx:cu CX X E)
  (I:Inv X pins σ H s) (r:ni vs us) (h:sp (vs++dvs) H Q E):wpAny (model X.prog X.w) X.A (call (.ref f) us) (EP X pins σ Q) X.xe s:=by
 have r2:ni (vs++dvs) (us++ds):=r.append hd
 have hl:(us++ds).length=ps.length:=by rw [<- r2.length]; exact F.len _ _ _ _ h
 refine wpAny_call (codeAny_mono (F.run X.A X.stack s H ⟨us,[]⟩ (us++ds) (vs++dvs) Q E hr I.env0 (hb s us I.kIn hl) r2 h) λr s' hq=>?_)
 cases r with
 | error e=>exact hx pins σ H s e s' I hq
 | ok fl=>
  cases fl with
  | ret u=>exact I.after hq
  | next=>exact False.elim hq
  | brk=>exact False.elim hq
  | cont=>exact False.elim hq
theorem pe_call (F:nk X.prog X.w X.K X.mg X.base CX k f fd ps sp) (hr:nC k X.A) (hg:Gl X x) (hm:X.mg x=some (.ref f)) (hk:keepIn X.K (.ref f)=true) (hb:nY X.K fd ps ds) (hd:ni dvs ds) (hx:cu CX X E)
  (ha:PA X (e::es) t) (hdb:(x == ("__debug__" : Str))=false:=by decide) (he:starEach (e::es) X.env=(false,eval e X.env)::starEach es X.env:=by rfl) (hpl:(backTo pos (starEach es X.env)).any (·.1)=false:=by rfl) :
  PE X (.Call (.Name x p) (e::es) [] pos) (tCall sp dvs E t):=by
 intro pins s σ H Q I h
 refine wpAny_Call_Name_kw (dZ I hg hm ?_ hdb)
 refine callWith_K (h₀:=X.base) I.ok.mod.kin hk (thn (ha pos pins s σ H _ I h) λus s1 ⟨vs,H1,I1,r,q⟩=>⟨I1.kIn,?_⟩) he hpl
 exact run_fn F hr hb hd hx I1 r q
theorem pe_meth {pl:Sem Bool} (he:PE X o ta) (c:Cls X.K C) (hm:f6 X.K C m f) (F:nk X.prog X.w X.K X.mg X.base CX k f fd ps sp) (hr:nC k X.A) (hb:nY X.K fd ps ds) (hd:ni dvs ds) (hx:cu CX X E) (ha:PA X (e::es) t)
  (hst:starEach (e::es) X.env=(false,eval e X.env)::starEach es X.env:=by rfl) (hpl:(backTo pos (starEach es X.env)).any (·.1)=false:=by rfl)
  (ht:eval (.Call (.Attribute o m apos) (e::es) [] pos) X.env=(do
   let ov <- eval o X.env
   standAt apos.atName
   let (f,first) <- holding [ov] (getMethod ov m pl)
   callWith pos f first (backTo pos (starEach (e::es) X.env)) (backToKw pos (keywordEach [] X.env))):=by rfl) :
  PE X (.Call (.Attribute o m apos) (e::es) [] pos) (fg C m sp dvs E ta t):=by
 intro pins s σ H Q I h
 refine PySem.W.methodCall_KW (pl:=pl) (thn (he pins s σ H _ I h) λu s1 ⟨x,H1,I1,rx,a,dx,fs,ex,ea,l,q⟩=>?_) ht
 subst ex
 obtain rfl:u=Value.ref a:=rx
 refine fY I1 ea c hm l ?_
 refine callWith_K (first:=[.ref a]) (h₀:=X.base) I.ok.mod.kin hm.kp (thn (ha pos pins s1 σ H1 _ I1 q) λus s2 ⟨vs,H2,I2,r,q2⟩=>⟨I2.kIn,?_⟩) hst hpl
 exact run_fn (us:=.ref a::us) (vs:=.ref a::vs) F hr hb hd hx I2 (.cons rfl r) q2
theorem pe_meth0 {pl:Sem Bool} (he:PE X o ta) (c:Cls X.K C) (hm:f6 X.K C m f) (F:nk X.prog X.w X.K X.mg X.base CX k f fd ps sp) (hr:nC k X.A) (hb:nY X.K fd ps ds) (hd:ni dvs ds) (hx:cu CX X E)
  (ht:eval (.Call (.Attribute o m apos) [] [] pos) X.env=(do
   let ov <- eval o X.env
   standAt apos.atName
   let (f,first) <- holding [ov] (getMethod ov m pl)
   callWith pos f first (backTo pos (starEach [] X.env)) (backToKw pos (keywordEach [] X.env))):=by rfl) :
  PE X (.Call (.Attribute o m apos) [] [] pos) (fg C m sp dvs E ta di):=by
 intro pins s σ H Q I h
 refine PySem.W.methodCall_KW (pl:=pl) (thn (he pins s σ H _ I h) λu s1 ⟨x,H1,I1,rx,a,dx,fs,ex,ea,l,q⟩=>?_) ht
 subst ex
 obtain rfl:u=Value.ref a:=rx
 refine fY I1 ea c hm l ?_
 exact PySem.W.callWith_K0 (first:=[.ref a]) I1.kIn hm.kp (run_fn (us:=[.ref a]) (vs:=[.ref a]) F hr hb hd hx I1 (.cons rfl .nil) q)
structure Mk (K:Frag) (C f:Addr):Prop where
 makes:makesIn K C=true
 init:findIn K (.ref C) "__init__"=some (some (.ref f))
 fn:isFn K (.ref f)=true
 kp:keepIn K (.ref C)=true
theorem run_make {pins:List (Addr × Obj)} {σ:St} {H:Hp} {s:Shared} {Q:VK} {us:List Value} {vs:List V} (M:Mk X.K C f) (F:nk X.prog X.w X.K X.mg X.base CX k f fd ps sp) (hr:nC (k+1) X.A) (hb:nY X.K fd ps ds) (hd:ni dvs ds)
  (hx:cu CX X E) (I:Inv X pins σ H s) (r:ni vs us)
  (h:∀ x dx,H x=none->H dx=none->dx ≠ x->sp (.ref x::(vs++dvs)) (upd (upd H dx (.own x)) x (.ins C dx [])) (λv H2=>v=.non/\Q (.ref x) H2) E) :
  wpAny (model X.prog X.w) X.A (call (.ref C) us) (EP X pins σ Q) X.xe s:=by
 have hq:=h (s.heap.objs.size+1) s.heap.objs.size (I.hok.fresh (Nat.le_succ _)) (I.hok.fresh (Nat.le_refl _)) (Nat.ne_of_lt (Nat.lt_succ_self _))
 have I2:=Inv.made (C:=C) I
 have r2:ni (V.ref (s.heap.objs.size+1)::(vs++dvs)) (Value.ref (s.heap.objs.size+1)::(us++ds)):=.cons rfl (r.append hd)
 have hl:(Value.ref (s.heap.objs.size+1)::us++ds).length=ps.length:=by
  have e:=r2.length
  rw [F.len _ _ _ _ hq] at e
  exact e.symm
 refine wpAny_call (make_map (f:=f) I.kIn M.makes M.init (beq_iff_eq.mp M.fn) (codeAny_mono (F.run _ X.stack _ _ ⟨Value.ref (s.heap.objs.size+1)::us,[]⟩ (Value.ref (s.heap.objs.size+1)::(us++ds)) _ _ E (hr.make C us [])
  (I2.env0.make C us []) (hb _ (Value.ref (s.heap.objs.size+1)::us) I2.kIn hl) r2 hq) λr s' hq'=>?_))
 cases r with
 | error e=>exact hx pins σ _ _ e s' I2 hq'
 | ok fl=>
  cases fl with
  | ret u=>
   obtain ⟨v,H',I3,rv,ev,q3⟩:=I2.after hq'
   subst ev
   exact ⟨rv,⟨V.ref (s.heap.objs.size+1),H',I3,rfl,q3⟩⟩
  | next=>exact False.elim hq'
  | brk=>exact False.elim hq'
  | cont=>exact False.elim hq'
theorem pe_make (M:Mk X.K C f) (F:nk X.prog X.w X.K X.mg X.base CX k f fd ps sp) (hr:nC (k+1) X.A) (hg:Gl X x) (hm:X.mg x=some (.ref C)) (hb:nY X.K fd ps ds) (hd:ni dvs ds) (hx:cu CX X E)
  (ha:PA X (e::es) t) (hdb:(x == ("__debug__" : Str))=false:=by decide) (he:starEach (e::es) X.env=(false,eval e X.env)::starEach es X.env:=by rfl) (hpl:(backTo pos (starEach es X.env)).any (·.1)=false:=by rfl) :
  PE X (.Call (.Name x p) (e::es) [] pos) (tMake C sp dvs E t):=by
 intro pins s σ H Q I h
 refine wpAny_Call_Name_kw (dZ I hg hm ?_ hdb)
 refine callWith_K (h₀:=X.base) I.ok.mod.kin M.kp (thn (ha pos pins s σ H _ I h) λus s1 ⟨vs,H1,I1,r,q⟩=>⟨I1.kIn,?_⟩) he hpl
 exact run_make M F hr hb hd hx I1 r q
end
def PK (X:Cx) (kws:List Keyword) (t:TA):Prop:=
 ∀ (pos:Pos) (pins:List (Addr × Obj)) (s:Shared) (σ:St) (H:Hp) (Q:List V->Hp->Prop),Inv X pins σ H s->t σ H Q->wpAny (model X.prog X.w) X.A (evalAll ((backToKw pos (keywordEach kws X.env)).map (·.2))) (AP X pins σ Q) X.xe s
section
variable {X:Cx} {CX:CXT} {k:Nat} {f C:Addr} {fd:FuncData} {ps ks:List Str} {sp:Sp} {E:XK} {x m:Str} {p pos apos kpos:Pos} {e o:Expr} {es:List Expr} {kws:List Keyword} {te ta:TE} {t tk:TA} {nm:Option Str}
theorem pk_nil:PK X [] di:=λ_ _ _ _ H Q I h=>wpAny_evalAll_nil ⟨[],H,I,.nil,h⟩
theorem lI (ha:PE X e te) (hr:PK X kws t):PK X (⟨nm,e,kpos⟩ :: kws) (bv te t):=by
 intro pos pins s σ H Q I h
 show wpAny _ _ (evalAll ((do let v <- eval e X.env; standAt pos; pure v)::(backToKw pos (keywordEach kws X.env)).map (·.2))) _ _ s
 refine wpAny_evalAll_cons (wpAny_bind (thn (ha pins s σ H _ I h) λu s1 ⟨x,H1,I1,r1,q1⟩=>wpAny_bind (wpAny_standAt (wpAny_pure ?_))))
 exact thn (hr pos pins s1 σ H1 _ I1 q1) λus s2 ⟨xs,H2,I2,r2,q2⟩=>⟨x::xs,H2,I2,.cons r1 r2,q2⟩
variable {g:List Value->List Value->List Value} {gV:List V->List V->List V}
end
structure mZ (N P:List Str) (sc:Scope):Prop where
 kind:sc.kind=.function
 co:sc.isCoroutine=false
 gen:sc.isGenerator=false
 nd:N.Nodup
 pre:N.take P.length=P
 par:∀ x ∈ P,sc.names.lookup x=some .local\/sc.names.lookup x=some .cell
 nofree:∀ y ∈ sc.names,y.2 ≠ .free
theorem km {kindOf:Str->Option NameKind} {x:Str}:∀ {binds:List (Str × Value)} {m:Str->Option Value},(∀ v,(x,v) ∉ binds)->bindL kindOf binds m x=m x
 | [],_,_=>rfl
 | (n,v)::r,m,h=>by
  unfold bindL
  rw [km λw hw=>h w (mem_cons_of_mem _ hw)]
  split
  ·have:x ≠ n:=by rintro rfl; exact h v mem_cons_self
   simp [this]
  ·rfl
theorem kY {kindOf:Str->Option NameKind} {x:Str}:∀ {binds:List (Str × Value)} {m:Str->Option Value},(∀ v,(x,v) ∉ binds)->bindC kindOf binds m x=m x
 | [],_,_=>rfl
 | (n,v)::r,m,h=>by
  unfold bindC
  rw [kY λw hw=>h w (mem_cons_of_mem _ hw)]
  split
  ·rfl
  ·have:x ≠ n:=by rintro rfl; exact h v mem_cons_self
   simp [this]
theorem k9 {kindOf:Str->Option NameKind} {x:Str} {v:Value}:∀ {P:List Str} {vs:List Value} {i:Nat} {m:Str->Option Value},P.Nodup->P[i]? = some x->vs[i]? = some v->kindOf x=some .local->
  bindL kindOf (P.zip vs) m x=some v
 | [],_,_,_,_,h,_,_=>by simp at h
 | _::_,[],_,_,_,_,h,_=>by simp at h
 | p::P,w::vs,0,m,nd,h1,h2,hk=>by
  simp at h1 h2; subst h1; subst h2
  show bindL kindOf ((p,w)::P.zip vs) m p=_
  unfold bindL
  rw [km λv hv=>(List.nodup_cons.mp nd).1 (of_mem_zip hv).1,if_pos hk]
  simp
 | p::P,w::vs,i+1,m,nd,h1,h2,hk=>by
  show bindL kindOf ((p,w)::P.zip vs) m x=_
  unfold bindL
  exact k9 (i:=i) (List.nodup_cons.mp nd).2 (by simpa using h1) (by simpa using h2) hk
theorem kJ {kindOf:Str->Option NameKind} {x:Str} {v:Value}:∀ {P:List Str} {vs:List Value} {i:Nat} {m:Str->Option Value},P.Nodup->P[i]? = some x->vs[i]? = some v->kindOf x ≠ some .local->
  bindC kindOf (P.zip vs) m x=some v
 | [],_,_,_,_,h,_,_=>by simp at h
 | _::_,[],_,_,_,_,h,_=>by simp at h
 | p::P,w::vs,0,m,nd,h1,h2,hk=>by
  simp at h1 h2; subst h1; subst h2
  show bindC kindOf ((p,w)::P.zip vs) m p=_
  unfold bindC
  rw [kY λv hv=>(List.nodup_cons.mp nd).1 (of_mem_zip hv).1,if_neg hk]
  simp
 | p::P,w::vs,i+1,m,nd,h1,h2,hk=>by
  show bindC kindOf ((p,w)::P.zip vs) m x=_
  unfold bindC
  exact kJ (i:=i) (List.nodup_cons.mp nd).2 (by simpa using h1) (by simpa using h2) hk
def bS (N:List Str) (vs:List V):St:=vs.map some++List.replicate (N.length-vs.length) none
def bR (CX:CXT) (P:Program) (w:World) (K:Frag) (mg:Str->Option Value) (base:Heap) (N:List Str) (qual:Str) (scope:Scope) (f:Addr) (cd:Value) (A:Around) (outer:List Env) (s:Shared) (H:Hp) (E:XK):Cx where
 prog:=P
 w:=w
 K:=K
 mg:=mg
 base:=base
 A:=A.deeper (envOfC qual scope s.heap.objs.size f cd)
 N:=N
 s₀:=s
 H₀:=H
 env:=envOfC qual scope s.heap.objs.size f cd
 outer:=outer
 stack:=envOfC qual scope s.heap.objs.size f cd::outer
 ex:=[]
 calm:=true
 fn:=λ_=>true
 pn:=[]
 xe:=λe s'=>wpAny (model P w) (A.deeper (envOfC qual scope s.heap.objs.size f cd)) (leaving (envOfC qual scope s.heap.objs.size f cd) e) (λ_ s''=>CX outer H s E e s'') (λe' s''=>CX outer H s E e' s'') s'
theorem cell_has {sc:Scope} {n:Nat} {x:Str} (h:sc.names.lookup x=some .cell):∃ c,(cellsFrom n sc.names []).lookup x=some c:=by
 have q:=PySem.W.cellsFrom_some sc.names n [] (.inl h)
 exact Option.isSome_iff_exists.mp q
theorem lh {CX:CXT} {P:Program} {w:World} {K:Frag} {mg:Str->Option Value} {base:Heap} {N ps:List Str} {qual:Str} {scope:Scope} {f:Addr} {cd:Value} {A:Around} {outer:List Env} {s s1:Shared} {H:Hp} {E:XK} {us:List Value} {vs:List V}
  (S:mZ N ps scope) (hd:A.handled=none) (e0:Env0 P w K mg base A outer s H) (hl:vs.length=ps.length) (r:ni vs us)
  (x:InCallC s s.heap.objs.size (bindL (envOfC qual scope s.heap.objs.size f cd).kindOf (ps.zip us) λ_=>none) (cellsFrom (s.heap.objs.size+1) scope.names []) (bindC (envOfC qual scope s.heap.objs.size f cd).kindOf (ps.zip us) λ_=>none) s1) :
  Inv (bR CX P w K mg base N qual scope f cd A outer s H E) [] (bS N vs) H s1:=by
 have hpl:ps.length<=N.length:=by have:=congrArg List.length S.pre; rw [length_take] at this; omega
 obtain ⟨h1,tk,rfl,hk⟩:=x.done
 have noA:∀ b:Addr,b ∉ (bR CX P w K mg base N qual scope f cd A outer s H E).ex:=λb z=>absurd (show b ∈ ([]:List Addr) from z) (by simp)
 refine ⟨⟨e0.mod,S.kind,rfl,rfl,Nat.le_refl _,λy z c h1 h2=>?_,λy hy=>?_,λy c _ h=>?_,λ_=>hd,Around.frames_deeper e0.frames,.inr ⟨rfl,rfl⟩,λb z=>absurd z (noA b),e0.bs,e0.bsz,λb _ _=>noA b,λb z=>absurd z (noA b),e0.funs,e0.frf⟩,
  rfl,e0.bare,Un.kept hk,⟨_,x.toInCall.ns,λi y v h1 h2 h3=>?_⟩,λy c h=>⟨_,x.cell y c h⟩,e0.hok.fresh (Nat.le_refl _),λy c h=>?_,λp hp=>absurd (show p ∈ ([]:List (Addr × Obj)) from hp) (by simp),e0.hok.kept hk,?_⟩
 ·exact name_of_addr x.apart (PySem.mem_of_lookup h1) (PySem.mem_of_lookup h2)
 ·have hy:scope.names.lookup y=some .cell\/scope.names.lookup y=some .free:=hy
  rcases hy with hy | hy
  ·exact cell_has hy
  ·exact absurd rfl (S.nofree _ (PySem.mem_of_lookup hy))
 ·exact Nat.le_of_lt (x.above y c (PySem.mem_of_lookup h))
 ·have hi:i<vs.length:=by
   unfold bS at h2
   by_cases hi:i<vs.length
   ·exact hi
   ·rw [getElem?_append_right (by simpa using hi)] at h2
    rw [List.getElem?_replicate] at h2
    split at h2<;>cases h2
  have ha:vs[i]? = some v:=by
   unfold bS at h2
   rw [getElem?_append_left (by simpa using hi),getElem?_map] at h2
   cases e:vs[i]? with
   | none=>rw [e] at h2; cases h2
   | some a=>rw [e] at h2; cases h2; rfl
  obtain ⟨u,hu,rv⟩:=r.get ha
  have hp:ps[i]? = some y:=by
   rw [<- S.pre,List.getElem?_take_of_lt (by omega)]; exact h1
  have ndP:ps.Nodup:=by rw [<- S.pre]; exact S.nd.sublist (take_sublist _ _)
  refine ⟨u,rv,?_⟩
  rcases S.par y (mem_of_getElem? hp) with k | k
  ·exact .inl ⟨k,k9 ndP hp hu k⟩
  ·obtain ⟨c,e⟩:=cell_has (n:=s.heap.objs.size+1) k
   refine .inr ⟨.inl k,c,e,?_⟩
   have q:=x.cell y c e
   rw [kJ ndP hp hu (by show scope.names.lookup y ≠ _; rw [k]; decide)] at q
   exact q
 ·exact e0.hok.fresh (Nat.le_of_lt (x.above y c (PySem.mem_of_lookup h)))
 ·unfold bS
  show _=N.length
  rw [length_append,length_map,length_replicate]
  omega
theorem fn_of {CX:CXT} {P:Program} {w:World} {K:Frag} {mg:Str->Option Value} {base:Heap} {k:Nat} {f:Addr} {name qual:Str} {params:Arguments} {body:List Stmt} {scope:Scope} {dV kV doc pm cdv ct oc:Value} {an od:Option Addr}
  {osl:Array (Option Value)} {N ps:List Str} {sp:Sp} (lk:K.lookup f=some ⟨oc,od,.func (fnOf name qual params body scope dV kV doc pm an cdv ct),osl⟩) (hcd:codeIn K cdv qual=true) (S:mZ N ps scope)
  (len:∀ vs H Q E,sp vs H Q E->vs.length=ps.length)
  (hbody:∀ (A:Around) (outer:List Env) (s:Shared) (H:Hp) (vs:List V) (Q:VK) (E:XK),nC k (A.deeper (envOfC qual scope s.heap.objs.size f cdv))->sp vs H Q E->
   ∃ t,PSs (bR CX P w K mg base N qual scope f cdv A outer s H E) body t/\t { nx:=λ_ H'=>Q .non H',rt:=Q } (bS N vs) H) :
  nk P w K mg base CX (k+1) f (fnOf name qual params body scope dV kV doc pm an cdv ct) ps sp:=by
 refine ⟨len,λA outer s H args us vs Q E hr e0 hb r hsp=>?_⟩
 have hl:=len _ _ _ _ hsp
 have KX:K.In s.heap:=e0.mod.kin.keeps λb o e=>(e0.bs b o e).1
 have lim:s.heap.NoLimit:=e0.mod.nolimit.keeps λb o e=>(e0.bs b o e).1
 have hkind:∀ y ∈ ps.zip us,scope.names.lookup y.1=some .local\/(scope.names.lookup y.1=some .cell/\((cellsFrom (s.heap.objs.size+1) scope.names []).lookup y.1).isSome=true):=λ⟨n,v⟩ hy=>by
  rcases S.par n (of_mem_zip hy).1 with q | q
  ·exact .inl q
  ·exact .inr ⟨q,PySem.W.cellsFrom_some _ _ _ (.inl q)⟩
 refine codeAny_call_function hr.depth (KX _ _ lk) rfl S.co S.gen rfl (PySem.W.codeRec_of KX hcd) (hb _ _ _ _ ?_)
 refine wpAny_newFunctionEnv_cells S.kind hkind λenv he s1 x=>?_
 subst he
 refine ⟨lim.keeps x.toInCall.keep,codeAny_func ?_⟩
 obtain ⟨t,ht,hq⟩:=hbody A outer s H vs Q E (hr.deeper _) hsp
 have I:Inv (bR CX P w K mg base N qual scope f cdv A outer s H E) [] (bS N vs) H s1:=lh S hr.hd e0 hl r x
 refine wpAny_mono (ht [] s1 (bS N vs) H _ I hq) (λfl s' hs=>?_) λe s' hs=>hs
 have fin:∀ {σ':St} {H':Hp} {v:V} {u:Value},Inv (bR CX P w K mg base N qual scope f cdv A outer s H E) [] σ' H' s'->m8 v u->Q v H'->CE outer P w H s Q u s':=
  λ{σ' H' v u} J rv q=>⟨v,H',J.os,J.bare,J.base,J.hok,rv,q⟩
 cases fl with
 | ret u=>
  obtain ⟨v,σ',H',J,rv,q⟩:=hs
  exact fin J rv q
 | next=>
  obtain ⟨σ',H',J,q⟩:=hs
  exact fin (v:=V.non) (u:=Value.none) J rfl q
 | brk=>
  obtain ⟨_,_,_,q⟩:=hs
  exact False.elim q
 | cont=>
  obtain ⟨_,_,_,q⟩:=hs
  exact False.elim q
section
variable {X:Cx} {x:Str} {p pos:Pos} {e:Expr} {es:List Expr} {t:TA} {id T:String} {r:List V->Hp->VK->Prop}
def tCB (r:List V->Hp->VK->Prop) (t:TA):TE:=λσ H Q=>t σ H λvs H1=>r vs H1 Q
theorem bI (hc:cA X (.builtin id) r) (hg:Gl X x) (hm:X.mg x=none) (hv:bootBuiltins x=some (.builtin id)) (ha:PA X (e::es) t) (hn:x ≠ "__name__":=by decide) (hdb:(x == ("__debug__" : Str))=false:=by decide)
  (he:starEach (e::es) X.env=(false,eval e X.env)::starEach es X.env:=by rfl) (hpl:(backTo pos (starEach es X.env)).any (·.1)=false:=by rfl):PE X (.Call (.Name x p) (e::es) [] pos) (tCB r t):=by
 intro pins s σ H Q I h
 refine wpAny_Call_Name_kw (dO I hg hm hv ?_ hn hdb)
 exact PyProof.Rows.callWith_builtin1 (thn (ha pos pins s σ H _ I h) λus s1 ⟨vs,H1,I1,r1,q1⟩=>hc pins s1 σ H1 vs us Q I1 r1 q1) he hpl
theorem dj (hc:cA X (.type T) r) (hg:Gl X x) (hm:X.mg x=none) (hv:bootBuiltins x=some (.type T)) (ha:PA X (e::es) t) (hn:x ≠ "__name__":=by decide) (hdb:(x == ("__debug__" : Str))=false:=by decide)
  (he:starEach (e::es) X.env=(false,eval e X.env)::starEach es X.env:=by rfl) (hpl:(backTo pos (starEach es X.env)).any (·.1)=false:=by rfl):PE X (.Call (.Name x p) (e::es) [] pos) (tCB r t):=by
 intro pins s σ H Q I h
 refine wpAny_Call_Name_kw (dO I hg hm hv ?_ hn hdb)
 exact PyProof.Rows.callWith_type1 (thn (ha pos pins s σ H _ I h) λus s1 ⟨vs,H1,I1,r1,q1⟩=>hc pins s1 σ H1 vs us Q I1 r1 q1) he hpl
end
end L2
namespace HT
open PySem PyProof.Rows
def lexLt:List Int->List Int->Bool
 | [],[]=>false
 | [],_::_=>true
 | _::_,[]=>false
 | x::xs,y::ys=>if x=y then lexLt xs ys else decide (x<y)
theorem lexLt_cons (x y:Int) (xs ys:List Int):lexLt (x::xs) (y::ys)=if x=y then lexLt xs ys else decide (x<y):=rfl
theorem j9:lexLt [] []=false:=rfl
theorem jd (y:Int) (ys:List Int):lexLt [] (y::ys)=true:=rfl
theorem jT (x:Int) (xs:List Int):lexLt (x::xs) []=false:=rfl
theorem eqAt_int (A:Around) (s:Shared) (a:Int) (t:Tok) (c:Int) (u:Tok):∃ e,SeqAt.EqAt A s (.int a t) (.int c u) e/\(e=true↔a=c):=
 ⟨(a == c),SeqAt.EqAt.int_int a t c u,by simp⟩
theorem rcLt_int (A:Around) (s:Shared) (a:Int) (t:Tok) (c:Int) (u:Tok) (prog:Program) (w:World) (E:Value->Shared->Prop) (Q:Value->Shared->Prop) (h:Q (.bool (decide (a<c))) s) :
  wpAny (model prog w) A (richCompare .Lt (.int a t) (.int c u)) Q E s:=
 (PyProof.Rows.lt_int h:wpAny (model prog w) A (compareOp .Lt (.int a t) (.int c u)) Q E s)
section
open PySem.SeqAt
open PySem.AutoSeq1 (wpAny_loadPart')
open PySem.MeetsSeq PySem.MeetsSeq2 PySem.MeetsSeq3
theorem j6 (l b:Addr) (items items2:Array Value) (n n2:Nat) (dd dd2:Option Addr) (sl sl2:Array (Option Value)) (ns ms:List Int) (hi:IntsAre items.toList ns) (hj:IntsAre items2.toList ms) :
  Meets (Builtin.«tuple.__lt__» ⟨[.ref l,.ref b],[]⟩)
   (λ_ R s=>s.heap.get? l=some { cls:=.type "tuple",dict:=dd,data:=.seq items n,slots:=sl }/\s.heap.get? b=some { cls:=.type "tuple",dict:=dd2,data:=.seq items2 n2,slots:=sl2 }/\
    R (.ok (.ret (.bool (lexLt ns ms)))) s):=
 .of_wp λprog w A R s h=>by
  obtain ⟨hp,g,d,tk,os⟩:=s; obtain ⟨hl,hb,h⟩:=h
  have f2:=AutoSeq1.sub_tuple_tuple
  have z1:items.size=ns.length:=by rw [<- hi.length]; simp
  have z2:items2.size=ms.length:=by rw [<- hj.length]; simp
  wp_walk using wpAny_loadPart' hl,wpAny_loadPart' hb,wpAny_forIn_list _ (λrest b s'=>b.1=none/\s'=⟨hp,g,d,tk,os⟩/\∃ (vs ws:List Value) (ns' ms':List Int),rest=vs.zip ws/\
   IntsAre vs ns'/\IntsAre ws ms'/\ns'.length+items2.size=ms'.length+items.size/\R (.ok (.ret (.bool (lexLt ns' ms')))) ⟨hp,g,d,tk,os⟩) _
  case turn=>
   rintro ⟨y,x⟩ rest b s' ⟨hb',rfl,vs,ws,ns',ms',hz,hvi,hwi,hlen,hR⟩
   cases hvi with
   | nil=>rw [List.zip_nil_left] at hz; cases hz
   | cons a t hvi'=>
    cases hwi with
    | nil=>rw [List.zip_nil_right] at hz; cases hz
    | cons c u hwi'=>
     rw [zip_cons_cons] at hz
     injection hz with hyx hrest
     injection hyx with hy hx
     subst hy hx
     rw [lexLt_cons] at hR
     simp only [length_cons] at hlen
     obtain ⟨e,he,hiff⟩:=eqAt_int A.in1 ⟨hp,g,d,tk,os⟩ a t c u
     refine wpAny_bind (he prog w _ _ ?_)
     cases e with
     | true=>
      rw [if_pos (hiff.mp rfl)] at hR
      wp_walk
      exact ⟨rfl,rfl,_,_,_,_,hrest,hvi',hwi',by omega,hR⟩
     | false=>
      rw [if_neg (λq=>absurd (hiff.mpr q) Bool.false_ne_true)] at hR
      have hri:=rcLt_int A.in1 ⟨hp,g,d,tk,os⟩ a t c u prog w
      wp_walk using hri
      exact ⟨_,rfl,by simpa using hR⟩
  case fin=>
   rintro ⟨b1,b2⟩ s' ⟨hb',rfl,vs,ws,ns',ms',hz,hvi,hwi,hlen,hR⟩
   simp only at hb'
   subst hb'
   have hv:lexLt ns' ms'=decide (items.size<items2.size):=by
    cases hvi with
    | nil=>
     cases hwi with
     | nil=>
      simp only [length_nil] at hlen
      rw [j9]
      exact (decide_eq_false (by omega)).symm
     | cons c u hw=>
      simp only [length_nil,length_cons] at hlen
      rw [jd]
      exact (decide_eq_true (by omega)).symm
    | cons a t hv=>
     cases hwi with
     | nil=>
      simp only [length_nil,length_cons] at hlen
      rw [jT]
      exact (decide_eq_false (by omega)).symm
     | cons c u hw=>
      rw [zip_cons_cons] at hz
      cases hz
   rw [hv] at hR
   wp_walk
   exact ⟨_,rfl,by simpa [Builtin.Tuple.tupleCompareSizes] using hR⟩
  case h=>
   exact ⟨rfl,rfl,items.toList,items2.toList,ns,ms,rfl,hi,hj,by omega,h⟩
end
section
variable {prog:Program} {w:World} {A:Around} {E:Value->Shared->Prop} {s:Shared}
theorem lt_tupInts {l b:Addr} {items items2:Array Value} {ns ms:List Int} {Q:Value->Shared->Prop} (hl:IsTup s.heap l items) (hb:IsTup s.heap b items2) (hi:IntsAre items.toList ns) (hj:IntsAre items2.toList ms)
  (hu:A.units<cLine) (h:Q (.bool (lexLt ns ms)) s):wpAny (model prog w) A (compareOp .Lt (.ref l) (.ref b)) Q E s:=by
 obtain ⟨⟨cls,dd,data,sl⟩,ho,hc,n,hd⟩:=id hl
 obtain ⟨⟨cls2,dd2,data2,sl2⟩,ho2,hc2,n2,hd2⟩:=id hb
 simp only at hc hd hc2 hd2
 subst hc hd hc2 hd2
 exact richCompare_meets_room (op:=.Lt) ⟨_,ho,rfl⟩ ⟨_,ho2,rfl⟩ PySem.F.slot_tuple_lt PySem.F.entry_tuple_lt (PySem.F.args_tuple_lt_2 _ _) (j6 l b items items2 n n2 dd dd2 sl sl2 ns ms hi hj)
  ⟨ho,ho2,show Value.bool (lexLt ns ms) ≠ Value.notImplemented/\Q (.bool (lexLt ns ms)) s from ⟨(λx=>nomatch x),h⟩⟩ hu
def sIx (n d:Nat):Option Int->Nat
 | none=>d
 | some v=>if v<0 then (v+(n:Int)).toNat else min v.toNat n
theorem sIx_none (n d:Nat):sIx n d none=d:=rfl
theorem sIx_nat (n d k:Nat):sIx n d (some (k:Int))=min k n:=by
 show (if (k:Int)<0 then ((k:Int)+(n:Int)).toNat else min (k:Int).toNat n)=min k n
 rw [if_neg (by omega),Int.toNat_natCast]
end
end HT
namespace L2
open PySem PySem.Spec PyProof.Rows
abbrev TO:=St->Hp->(Option Int->Hp->Prop)->Prop
def PO (X:Cx) (e:Option Expr) (t:TO):Prop:=
 ∀ (pins:List (Addr × Obj)) (s:Shared) (σ:St) (H:Hp) (Q:Option Int->Hp->Prop),Inv X pins σ H s->t σ H Q->
  wpAny (model X.prog X.w) X.A (evalPart e X.env) (λu s'=>∃ o H',Inv X pins σ H' s'/\IsPart u o/\Q o H') X.xe s
def tNoPart:TO:=λ_ H Q=>Q none H
def tPart (t:TE):TO:=λσ H Q=>t σ H λx H1=>∃ i,x=.int i/\Q (some i) H1
theorem ja {ns:List Int}:∀ {us:List Value},ni (ns.map V.int) us->IntsAre us ns:=by
 induction ns with
 | nil=>intro us r; rw [map_nil] at r; cases r; exact .nil
 | cons n ns ih=>
  intro us r
  rw [map_cons] at r
  cases r with
  | cons r1 r2=>
   obtain ⟨t,e⟩:=r1
   subst e
   exact .cons n t (ih r2)
section
variable {X:Cx} {e:Expr} {te:TE} {lo hi:Option Expr} {tl th:TO} {pos p2:Pos}
theorem po_none:PO X none tNoPart:=by
 intro pins s σ H Q I h
 rw [evalPart_none]
 exact wpAny_pure ⟨none,H,I,.none,h⟩
theorem po_some (h:PE X e te):PO X (some e) (tPart te):=by
 intro pins s σ H Q I hw
 rw [evalPart_some]
 refine thn (h pins s σ H _ I hw) λu s1 ⟨x,H1,I1,r1,q1⟩=>?_
 obtain ⟨i,rfl,q⟩:=q1
 obtain ⟨t,rfl⟩:=r1
 exact ⟨some i,H1,I1,.int i t,q⟩
def SlR (X:Cx) (r:V->Option Int->Option Int->Hp->VK->Prop):Prop:=
 ∀ (pins:List (Addr × Obj)) (s:Shared) (σ:St) (H:Hp) (x:V) (v vl vu:Value) (lo hi:Option Int) (sl:Addr) (Q:VK),Inv X pins σ H s->m8 x v->s.heap.IsSliceOf sl vl vu .none->IsPart vl lo->IsPart vu hi->r x lo hi H Q->
  ∃ T id,typeLookup (.type T) "__getitem__" = pure (some (.builtin id))/\s.TypeIs v T/\wpAny (model X.prog X.w) X.A (getItem v (.ref sl)) (EP X pins σ Q) X.xe s
def tSl (r:V->Option Int->Option Int->Hp->VK->Prop) (te:TE) (tl th:TO):TE:=λσ H Q=>te σ H λx H1=>tl σ H1 λl H2=>th σ H2 λu H3=>r x l u H3 Q
theorem pe_slice {r:V->Option Int->Option Int->Hp->VK->Prop} (hr:SlR X r) (he:PE X e te) (hl:PO X lo tl) (hu:PO X hi th):PE X (.Subscript e (.Slice lo hi none p2) pos) (tSl r te tl th):=by
 intro pins s σ H Q I h
 refine Subscript_ (thn (he pins s σ H _ I h) λv s1 ⟨x,H1,I1,r1,q1⟩=>?_)
 refine wpAny_Slice (thn (hl pins s1 σ H1 _ I1 q1) λvl s2 ⟨l,H2,I2,pl,q2⟩=>thn (hu pins s2 σ H2 _ I2 q2) λvu s3 ⟨u,H3,I3,pu,q3⟩=>?_)
 rw [evalPart_none]
 refine wpAny_pure ?_
 have I4:Inv X pins σ H3 { s3 with heap:=s3.heap.push { cls:=.type "slice",data:=.fields #[vl,vu,.none] } }:=I3.kept (t':=s3.toks) λb ob q=>get?_push_of_some _ q
 obtain ⟨T,id,hT,ht,hg⟩:=hr pins { s3 with heap:=s3.heap.push { cls:=.type "slice",data:=.fields #[vl,vu,.none] } } σ H3 x v vl vu l u s3.heap.objs.size Q I4 r1 (Heap.IsSliceOf.new ..) pl pu q3
 show wpAny (model X.prog X.w) X.A (subscriptTail e (.Slice lo hi none p2) v (.ref s3.heap.objs.size)) (EP X pins σ Q) X.xe { s3 with heap:=s3.heap.push { cls:=.type "slice",data:=.fields #[vl,vu,.none] } }
 exact tail_any (ops:=[.ref s3.heap.objs.size,v]) ht hT hg (by with_unfolding_all rfl)
def cutV (xs:List V) (lo hi:Option Int):List V:=(xs.drop (HT.sIx xs.length 0 lo)).take (HT.sIx xs.length xs.length hi-HT.sIx xs.length 0 lo)
theorem cutV_length (xs:List V) (lo hi:Option Int):(cutV xs lo hi).length<=xs.length:=by
 unfold cutV
 rw [length_take,List.length_drop]
 omega
end
def ixN (n:Nat) (i:Int):Option Nat:=if 0<=i then (if i<n then some i.toNat else none) else if -(n:Int)<=i then some (i+n).toNat else none
def atI {α:Type} (xs:List α) (i:Int):Option α:=(ixN xs.length i).bind λj=>xs[j]?
theorem ixN_seq {n:Nat} {i:Int} {j:Nat} (h:ixN n i=some j):seqIndex? i n=some j/\j<n/\-(n:Int)<=i/\i<n:=by
 unfold ixN at h
 by_cases h0:0<=i
 ·rw [if_pos h0] at h
  by_cases h1:i<n
  ·rw [if_pos h1] at h
   have e:i.toNat=j:=Option.some.inj h
   exact ⟨by rw [seqIndex_of h0 h1,e],by omega,by omega,h1⟩
  ·rw [if_neg h1] at h; cases h
 ·rw [if_neg h0] at h
  by_cases h1:-(n:Int)<=i
  ·rw [if_pos h1] at h
   have e:(i+n).toNat=j:=Option.some.inj h
   exact ⟨by rw [seqIndex_neg (by omega) h1,e],by omega,h1,by omega⟩
  ·rw [if_neg h1] at h; cases h
theorem atI_get {α:Type} {xs:List α} {i:Int} {v:α} (h:atI xs i=some v):∃ j,seqIndex? i xs.length=some j/\xs[j]? = some v/\j<xs.length/\-(xs.length:Int)<=i/\i<xs.length:=by
 unfold atI at h
 cases e:ixN xs.length i with
 | none=>rw [e] at h; cases h
 | some j=>
  rw [e] at h
  obtain ⟨h1,h2,h3,h4⟩:=ixN_seq e
  exact ⟨j,h1,h,h2,h3,h4⟩
theorem cC {α:Type} {xs:List α} {j:Nat} {v:α} (h:xs[j]? = some v):atI xs (j:Int)=some v:=by
 have hj:j<xs.length:=(List.getElem?_eq_some_iff.mp h).1
 have e:ixN xs.length (j:Int)=some j:=by
  unfold ixN
  rw [if_pos (by omega),if_pos (by omega)]; simp
 unfold atI; rw [e]; exact h
def PlainIx (b:Expr):Prop:=∀ o i,subscripted b false o i=operate [o,i] (getItem o i)
def IxR (X:Cx) (r:R2):Prop:=
 ∀ (value slice:Expr) (pins:List (Addr × Obj)) (s:Shared) (σ:St) (H:Hp) (x y:V) (v u:Value) (Q:VK),Inv X pins σ H s->m8 x v->m8 y u->r x y H Q->
  subscripted slice false v u=operate [v,u] (getItem v u)->wpAny (model X.prog X.w) X.A (subscriptTail value slice v u) (EP X pins σ Q) X.xe s
def MtR (X:Cx) (id:String) (r:V->List V->Hp->VK->Prop):Prop:=
 ∀ (pins:List (Addr × Obj)) (s:Shared) (σ:St) (H:Hp) (x:V) (xs:List V) (v:Value) (us:List Value) (Q:VK),Inv X pins σ H s->m8 x v->ni xs us->r x xs H Q->
  wpAny (model X.prog X.w) X.A (call (.builtin id) (v::us)) (EP X pins σ Q) X.xe s
section
variable {X:Cx} {a b:Expr} {ta tb:TE} {pos:Pos}
theorem aA {r:R2} (hr:IxR X r) (ha:PE X a ta) (hb:PE X b tb) (hs:PlainIx b):PE X (.Subscript a b pos) (tOp r ta tb):=by
 intro pins s σ H Q I h
 exact Subscript_ (binT ha hb I h λv u s2 x y H2 I2 rx ry q=>hr a b pins s2 σ H2 x y v u Q I2 rx ry q (hs _ _))
def rIxL (K:Frag):R2:=λx y H Q=>∃ p xs i v,x=.ref p/\y=.int i/\SqL K H p xs/\atI xs i=some v/\Q v H
def rIxT (K:Frag):R2:=λx y H Q=>∃ p xs i v,x=.ref p/\y=.int i/\SqT K H p xs/\atI xs i=some v/\Q v H
theorem ix_list:IxR X (rIxL X.K):=by
 intro value slice pins s σ H x y v u Q I rx ry h hs
 obtain ⟨p,xs,i,z,rfl,rfl,hq,he,q⟩:=h
 cases rx
 obtain ⟨t,rfl⟩:=ry
 obtain ⟨its,r,pl,hz⟩:=I.list hq
 obtain ⟨j,h1,h2,h3,h4,h5⟩:=atI_get he
 obtain ⟨w,ew,rw'⟩:=r.get h2
 have hl:=r.length
 have hn:=mJ
 have fin:EP X pins σ Q w s:=⟨z,H,I,rw',q⟩
 by_cases h0:0<=i
 ·have hj:i.toNat=j:=by
   rw [seqIndex_of h0 h5] at h1
   exact Option.some.inj h1
  exact item_listR pl.isList h0 (by omega) (by rw [hj]; simpa using ew) fin hs
 ·have hj:(i+(its.toArray.size:Int)).toNat=j:=by
   rw [seqIndex_neg (by omega) h4] at h1
   rw [size_toArray,<- hl]
   exact Option.some.inj h1
  exact subscriptTail_builtinR (x:=w) pl.isList.typeIs slot_list_getitem.lookup
   (wpAny_getItem_list_neg (Q:=λr s'=>r=w/\EP X pins σ Q r s') pl.isList (by omega) (by rw [size_toArray]<;>omega) (by omega) (by rw [hj]; simpa using ew) ⟨rfl,fin⟩) hs
theorem ix_tup:IxR X (rIxT X.K):=by
 intro value slice pins s σ H x y v u Q I rx ry h hs
 obtain ⟨p,xs,i,z,rfl,rfl,hq,he,q⟩:=h
 cases rx
 obtain ⟨t,rfl⟩:=ry
 obtain ⟨its,r,pl,hz⟩:=I.tuple hq
 obtain ⟨j,h1,h2,h3,h4,h5⟩:=atI_get he
 obtain ⟨w,ew,rw'⟩:=r.get h2
 have hl:=r.length
 have hn:=mJ
 have fin:EP X pins σ Q w s:=⟨z,H,I,rw',q⟩
 exact subscriptTail_builtinR (x:=w) pl.typeIs slot_tuple_getitem.lookup
  (getItem_tuple (j:=j) (Q:=λr s'=>r=w/\EP X pins σ Q r s') pl (by omega) (by omega) (by rw [size_toArray,<- hl]; exact h1) (by simpa using ew) ⟨rfl,fin⟩) hs
theorem mapSeq_set (its:List Value) (n j:Nat) (u:Value):Obj.mapSeq (·.setIfInBounds j u) { cls:=.type "list",data:=.seq its.toArray n }={ cls:=.type "list",data:=.seq (its.set j u).toArray n }:=by
 simp [Obj.mapSeq]
theorem Inv.lst {pins:List (Addr × Obj)} {σ:St} {H:Hp} {s:Shared} {p:Addr} {xs:List V} (I:Inv X pins σ H s) (h:H p=some (.lst xs)) :
  ∃ (its:List Value) (n:Nat),ni xs its/\s.heap.get? p=some { cls:=.type "list",data:=.seq its.toArray n }/\xs.length<=sizeLine:=by
 obtain ⟨z,its,n,r,e⟩:=I.hok p _ h
 exact ⟨its,n,r,e,z⟩
theorem Inv.lstUpd {pins:List (Addr × Obj)} {σ:St} {H:Hp} {s:Shared} {p:Addr} {xs ys:List V} {its its':List Value} {n n':Nat} {f:Obj->Obj} (I:Inv X pins σ H s) (h:H p=some (.lst xs))
  (ho:s.heap.get? p=some { cls:=.type "list",data:=.seq its.toArray n }) (hf:f { cls:=.type "list",data:=.seq its.toArray n }={ cls:=.type "list",data:=.seq its'.toArray n' }) (r:ni ys its') (hz:ys.length<=sizeLine) (t:Nat) :
  Inv X pins σ (upd H p (.lst ys)) { s with heap:=s.heap.update p f,toks:=t }:=by
 have e:(s.heap.update p f).get? p=some { cls:=.type "list",data:=.seq its'.toArray n' }:=by
  rw [get?_update_self f ho (by rw [hf]<;>rfl),hf]
 refine I.write (x:=p) (e:=p) (by rw [h]; trivial) (.inl rfl) (λb u hb q=>(get?_update_other _ _ (Ne.symm hb)).trans q) ⟨_,e⟩ ?_
 exact ⟨hz,its',n',r,e⟩
def rSetL:V->V->V->Hp->(Hp->Prop)->Prop:=λo i v H Q=>∃ p xs k j,o=.ref p/\i=.int k/\H p=some (.lst xs)/\ixN xs.length k=some j/\Q (upd H p (.lst (xs.set j v)))
theorem gE:PSet X rSetL:=by
 intro pins s σ H o i v ov iv u Q I ro ri rv h
 obtain ⟨p,xs,k,j,rfl,rfl,hp,hj,q⟩:=h
 cases ro
 obtain ⟨t,rfl⟩:=ri
 obtain ⟨its,n,r,ho,hz⟩:=I.lst hp
 obtain ⟨h1,h2,h3,h4⟩:=ixN_seq hj
 have hl:=r.length
 have hn:=mJ
 have I':Inv X pins σ (upd H p (.lst (xs.set j v))) { s with heap:=s.heap.update p (Obj.mapSeq (·.setIfInBounds j u)) }:=
  I.lstUpd hp ho (mapSeq_set its n j u) (r.set rv j) (by rw [List.length_set]; exact hz) s.toks
 by_cases h0:0<=k
 ·have hk:k.toNat=j:=by
   rw [seqIndex_of h0 h4] at h1
   exact Option.some.inj h1
  exact PySem.W.ki_setAt ho h0 (by omega) (by rw [size_toArray,<- hl]; exact h4) (by rw [hk]; exact ⟨_,I',q⟩)
 ·have hk:(k+(its.toArray.size:Int)).toNat=j:=by
   rw [seqIndex_neg (by omega) h3] at h1
   rw [size_toArray,<- hl]
   exact Option.some.inj h1
  exact PySem.W.ki_setBack ho (by omega) (by rw [size_toArray,<- hl]; exact h3) (by omega) (by rw [hk]; exact ⟨_,I',q⟩)
theorem mF (lo hi:Option Int) (n:Nat):(sliceBounds lo hi none n).1=((HT.sIx n 0 lo:Nat):Int)/\(sliceBounds lo hi none n).2.1=((HT.sIx n n hi:Nat):Int)/\(sliceBounds lo hi none n).2.2=1:=by
 refine ⟨?_,?_,rfl⟩
 ·cases lo with
  | none=>simp [sliceBounds,HT.sIx]
  | some i=>
   simp only [sliceBounds,HT.sIx,Option.getD_none,show (1:Int) > 0 by decide,if_true]
   by_cases h:i<0
   ·simp only [h,if_true]<;>omega
   ·simp only [h,if_false]<;>omega
 ·cases hi with
  | none=>simp [sliceBounds,HT.sIx]
  | some i=>
   simp only [sliceBounds,HT.sIx,Option.getD_none,show (1:Int) > 0 by decide,if_true]
   by_cases h:i<0
   ·simp only [h,if_true]<;>omega
   ·simp only [h,if_false]<;>omega
theorem jW (its:List Value) (lo hi:Option Int):slicePick its.toArray lo hi none=((its.drop (HT.sIx its.length 0 lo)).take (HT.sIx its.length its.length hi-HT.sIx its.length 0 lo)).toArray:=by
 obtain ⟨h1,h2,h3⟩:=mF lo hi its.toArray.size
 unfold slicePick
 rw [h1,h2,h3]
 simp only [sliceRange_one,pick_run,size_toArray]<;>rfl
def rSlL (K:Frag):V->Option Int->Option Int->Hp->VK->Prop:=λx lo hi H Q=>∃ a xs,x=.ref a/\SqL K H a xs/\∀ p,H p=none->Q (.ref p) (upd H p (.lst (cutV xs lo hi)))
theorem sl_list:SlR X (rSlL X.K):=by
 intro pins s σ H x v vl vu lo hi sl Q I rx hs pl pu h
 obtain ⟨a,xs,rfl,hx,q⟩:=h
 cases rx
 obtain ⟨its,r,ht,hz⟩:=I.list hx
 have hlen:=r.length
 refine ⟨"list",_,slot_list_getitem.lookup,ht.isList.typeIs,?_⟩
 refine wpAny_getItem_list_slice ht.isList hs pl pu .none (by simp) ?_ (by rw [size_toArray]<;>omega)
 rw [jW,<- hlen]
 refine ⟨.ref s.heap.objs.size,_,I.laid (t':=s.toks) (o:=.lst (cutV xs lo hi)) (λb ob q=>get?_push_of_some _ q) (Nat.le_refl _) ?_,rfl,q _ (I.hok.fresh (Nat.le_refl _))⟩
 exact ⟨Nat.le_trans (cutV_length xs lo hi) hz,_,0,(r.drop (HT.sIx xs.length 0 lo)).take (HT.sIx xs.length xs.length hi-HT.sIx xs.length 0 lo),get?_push_size _ rfl⟩
theorem mf:cA X (.builtin "len") (λxs H Q=>∃ p ys,xs=[.ref p]/\(SqL X.K H p ys\/SqT X.K H p ys)/\Q (.int ys.length) H):=by
 intro pins s σ H xs us Q I r h
 obtain ⟨p,ys,rfl,hq,q⟩:=h
 obtain ⟨u,rfl,rx⟩:=fG r
 cases rx
 have hn:=mJ
 rcases hq with hq | hq
 ·obtain ⟨its,r',pl,hz⟩:=I.list hq
  have hlen:=r'.length
  exact Calls.call_len_list pl.isList (by simp only [size_toArray]<;>omega) ⟨.int ys.length,H,I.tok _,⟨s.toks+1,by rw [size_toArray,hlen]⟩,q⟩
 ·obtain ⟨its,r',pl,hz⟩:=I.tuple hq
  have hlen:=r'.length
  exact len_tuple pl (by simp only [size_toArray]<;>omega) ⟨.int ys.length,H,I.tok _,⟨s.toks+1,by rw [size_toArray,hlen]⟩,q⟩
theorem lU:cA X (.type "list") (λxs H Q=>∃ p ys,xs=[.ref p]/\(SqL X.K H p ys\/SqT X.K H p ys)/\∀ l,H l=none->Q (.ref l) (upd H l (.lst ys))):=by
 intro pins s σ H xs us Q I r h
 obtain ⟨p,ys,rfl,hq,q⟩:=h
 obtain ⟨u,rfl,rx⟩:=fG r
 cases rx
 have fin:∀ (its:List Value),ni ys its->ys.length<=sizeLine->∀ (h':Heap) (c':Nat),(∀ b o',s.heap.get? b=some o'->h'.get? b=some o')->
   h'.get? s.heap.objs.size=some { cls:=.type "list",dict:=none,data:=.seq its.toArray c',slots:=#[] }->EP X pins σ Q (.ref s.heap.objs.size) { s with heap:=h' }:=λits r' hz h' c' kp e=>
  ⟨.ref s.heap.objs.size,_,I.laid (t':=s.toks) kp (Nat.le_refl _) (show ny X.prog X.w _ h' _ (.lst ys) from ⟨hz,its,c',r',e⟩),rfl,q _ (I.hok.fresh (Nat.le_refl _))⟩
 rcases hq with hq | hq
 ·obtain ⟨its,r',pl,hz⟩:=I.list hq
  have hlen:=r'.length
  obtain ⟨o,ho,hc,n,hd⟩:=pl.isList
  exact call_list_seq p (.inl rfl) ho hc hd (λh' c' kp e=>fin its r' hz h' c' kp e) (by simp only [size_toArray]<;>omega)
 ·obtain ⟨its,r',pl,hz⟩:=I.tuple hq
  have hlen:=r'.length
  obtain ⟨o,ho,hc,n,hd⟩:=pl
  exact call_list_seq p (.inr rfl) ho hc hd (λh' c' kp e=>fin its r' hz h' c' kp e) (by simp only [size_toArray]<;>omega)
theorem j0:cA X (.type "tuple") (λxs H Q=>∃ p ys,xs=[.ref p]/\((SqL X.K H p ys/\∀ l,H l=none->Q (.ref l) (upd H l (.tup ys)))\/(SqT X.K H p ys/\Q (.ref p) H))):=by
 intro pins s σ H xs us Q I r h
 obtain ⟨p,ys,rfl,h⟩:=h
 obtain ⟨u,rfl,rx⟩:=fG r
 cases rx
 rcases h with ⟨hq,q⟩ | ⟨hq,q⟩
 ·obtain ⟨its,r',pl,hz⟩:=I.list hq
  have hlen:=r'.length
  refine call_tuple_list pl.isList (λh' kp=>?_) (by simp only [size_toArray]<;>omega)
  have I1:Inv X pins σ H { s with heap:=h' }:=I.kept (t':=s.toks) kp
  have I2:Inv X pins σ (upd H h'.objs.size (.tup ys)) { s with heap:=h'.push { cls:=.type "tuple",data:=.seq its.toArray } }:=
   I1.laid (t':=s.toks) (λb o e=>get?_push_of_some _ e) (Nat.le_refl _) (show ny X.prog X.w _ _ _ (.tup ys) from ⟨hz,its,r',IsTup.new _ _⟩)
  exact ⟨.ref h'.objs.size,_,I2,rfl,q _ (I1.hok.fresh (Nat.le_refl _))⟩
 ·obtain ⟨its,r',pl,hz⟩:=I.tuple hq
  exact call_tuple_same pl ⟨.ref p,H,I,rfl,q⟩
def tyV (K:Frag) (T:String) (x:V) (H:Hp):Prop:=match x with
 | .str _=>T = "str"
 | .int _=>T = "int"
 | .ref p=>(T = "list"/\∃ xs,SqL K H p xs)\/(T = "tuple"/\∃ o,K.lookup p=some o/\o.cls=.type "tuple"/\o.dict=none) \/
   (T = "dict"/\((∃ kvs,H p=some (.dK kvs))\/∃ kvs,H p=some (.dT kvs)))\/(T = "set"/\∃ S n,H p=some (.set S n))
 | _=>False
theorem tyV_is {pins:List (Addr × Obj)} {σ:St} {H:Hp} {s:Shared} {T:String} {x:V} {v:Value} (I:Inv X pins σ H s) (r:m8 x v) (ty:tyV X.K T x H) :
  s.TypeIs v T/\∀ a,v=.ref a->∃ ob,s.heap.get? a=some ob/\ob.dict=none:=by
 cases x with
 | str z=>
  obtain ⟨t,rfl⟩:=r
  cases (show T = "str" from ty)
  exact ⟨typeIs_str s z t,λ_ e=>nomatch e⟩
 | int i=>
  obtain ⟨t,rfl⟩:=r
  cases (show T = "int" from ty)
  exact ⟨typeIs_int s i t,λ_ e=>nomatch e⟩
 | ref p=>
  cases r
  rcases ty with ⟨rfl,xs,hq⟩ | ⟨rfl,o,hk,hc,hd⟩ | ⟨rfl,hk⟩ | ⟨rfl,S,n,hk⟩
  ·obtain ⟨its,_,pl,_⟩:=I.list hq
   refine ⟨pl.isList.typeIs,λa e=>?_⟩
   cases e
   obtain ⟨o,n,e,c,hd,_⟩:=pl
   exact ⟨o,e,hd⟩
  ·refine ⟨⟨o,I.kIn p o hk,hc⟩,λa e=>?_⟩
   cases e
   exact ⟨o,I.kIn _ o hk,hd⟩
  ·have z:∃ o,s.heap.get? p=some o/\o.ExactDict:=by
    rcases hk with ⟨kvs,hk⟩ | ⟨kvs,hk⟩
    ·obtain ⟨_,_,_,_,o,_,_,e,ex,_⟩:=I.hok p _ hk
     exact ⟨o,e,ex⟩
    ·obtain ⟨_,_,_,_,o,_,_,e,ex,_⟩:=I.hok p _ hk
     exact ⟨o,e,ex⟩
   obtain ⟨o,e,ex⟩:=z
   refine ⟨⟨o,e,ex.1⟩,λa e2=>?_⟩
   cases e2
   exact ⟨o,e,ex.2.1⟩
  ·obtain ⟨o,_,_,_,e,ex,_⟩:=I.hok p _ hk
   refine ⟨⟨o,e,ex.1⟩,λa e2=>?_⟩
   cases e2
   exact ⟨o,e,ex.2.1⟩
 | _=>exact False.elim ty
def tBM0 (K:Frag) (T:String) (r:V->List V->Hp->VK->Prop) (to:TE):TE:=λσ H Q=>to σ H λx H1=>tyV K T x H1/\r x [] H1 Q
def tBM (K:Frag) (T:String) (r:V->List V->Hp->VK->Prop) (to:TE) (t:TA):TE:=λσ H Q=>to σ H λx H1=>tyV K T x H1/\t σ H1 λxs H2=>r x xs H2 Q
variable {o e:Expr} {es:List Expr} {to:TE} {t:TA} {name:Str} {apos cpos:Pos} {T id:String} {r:V->List V->Hp->VK->Prop}
theorem pe_bm0 (pa:PlainAttrs T) (slot:Slot T name id) (hty:typeOf (.builtin id)=pure (.type "method_descriptor")) (hm:MtR X id r) (ho:PE X o to)
  (hbase:attributeBase o name X.env (eval o X.env)=eval o X.env:=by rfl) (hline:(apos.endLine == cpos.line)=true:=by rfl):PE X (.Call (.Attribute o name apos) [] [] cpos) (tBM0 X.K T r to):=by
 intro pins s σ H Q I h
 refine wpAny_Call_method0_late hbase hline (thn (ho pins s σ H _ I h) λv s1 ⟨x,H1,I1,r1,ty,q1⟩=>?_)
 obtain ⟨h1,h2⟩:=tyV_is I1 r1 ty
 exact ⟨T,id,pa,slot,hty,h1,h2,Calls.callWith_builtin rfl (PySem.evalArgs_none (hm pins s1 σ H1 x [] v [] Q I1 r1 .nil q1))⟩
theorem pe_bm (pa:PlainAttrs T) (slot:Slot T name id) (hty:typeOf (.builtin id)=pure (.type "method_descriptor")) (hm:MtR X id r) (ho:PE X o to) (ha:PA X (e::es) t)
  (hbase:attributeBase o name X.env (eval o X.env)=eval o X.env:=by rfl)
  (hfew:((backTo cpos (starEach (e::es) X.env)).all (λx=>!x.1) && (backToKw cpos (keywordEach [] X.env)).all (λx=>x.1.isSome)
   && decide ((e::es).length+([]:List Keyword).length+(if ([]:List Keyword).isEmpty then 0 else 1)<30))=true:=by rfl)
  (hline:(apos.endLine == cpos.line)=true:=by rfl) (hs:starEach (e::es) X.env=(false,eval e X.env)::starEach es X.env:=by rfl) (hplain:(backTo cpos (starEach es X.env)).any (·.1)=false:=by rfl) :
  PE X (.Call (.Attribute o name apos) (e::es) [] cpos) (tBM X.K T r to t):=by
 intro pins s σ H Q I h
 refine wpAny_Call_method_late hbase hfew hline rfl (thn (ho pins s σ H _ I h) λv s1 ⟨x,H1,I1,r1,ty,q1⟩=>?_)
 obtain ⟨h1,h2⟩:=tyV_is I1 r1 ty
 refine ⟨T,id,pa,slot,hty,h1,h2,?_⟩
 have hA:=ha cpos pins s1 σ H1 _ I1 q1
 rw [hs] at hA ⊢
 refine Calls.callWith_builtin (by show (false || (backTo cpos (starEach es X.env)).any (·.1))=false; rw [hplain]<;>rfl) (Calls.evalArgs_plain ?_)
 exact thn hA λus s2 ⟨vs,H2,I2,r2,q2⟩=>hm pins s2 σ H2 x vs v us Q I2 r1 r2 q2
end
def MtM (X:Cx) (id:String) (r:V->List V->Hp->VK->Prop):Prop:=
 ∀ (pins:List (Addr × Obj)) (s:Shared) (σ:St) (H:Hp) (x:V) (xs:List V) (v:Value) (us:List Value) (Q:VK),Inv X pins σ H s->m8 x v->ni xs us->r x xs H Q->
  wpAny (model X.prog X.w) X.A (call (.builtin id) (v::us)) (EP X pins σ Q) X.xe s
theorem ni.one:∀ {x:V} {us:List Value},ni [x] us->∃ u,us=[u]/\m8 x u
 | _,_,.cons r .nil=>⟨_,rfl,r⟩
theorem ni.two:∀ {x y:V} {us:List Value},ni [x,y] us->∃ u v,us=[u,v]/\m8 x u/\m8 y v
 | _,_,_,.cons r (.cons q .nil)=>⟨_,_,rfl,r,q⟩
theorem ni.reverse {xs:List V} {us:List Value} (h:ni xs us):ni xs.reverse us.reverse:=by
 induction h with
 | nil=>exact .nil
 | cons r t ih=>rw [List.reverse_cons,List.reverse_cons]; exact ni.append ih (.cons r .nil)
section
variable {X:Cx} {pins:List (Addr × Obj)} {σ:St} {H:Hp} {s:Shared} {l b:Addr} {xs ys zs:List V}
theorem Inv.lset {its its':List Value} {n:Nat} {f:Array Value->Array Value} {t':Nat} (I:Inv X pins σ H s) (hH:H l=some (.lst xs))
  (e:s.heap.get? l=some { cls:=.type "list",data:=.seq its.toArray n }) (hf:f its.toArray=its'.toArray) (hv:ni ys its') (hz:ys.length<=sizeLine) :
  Inv X pins σ (upd H l (.lst ys)) { s with heap:=s.heap.update l (Obj.mapSeq f),toks:=t' }:=by
 have q:=PySem.IsL.update e f
 rw [hf] at q
 refine I.write (x:=l) (e:=l) (by rw [hH]; exact trivial) (.inl rfl) (λb' u hb hu=>(get?_update_other s.heap (Obj.mapSeq f) (Ne.symm hb)).trans hu) ⟨_,q⟩ ?_
 exact ⟨hz,its',_,hv,q⟩
theorem Inv.lnew {its:List Value} {t':Nat} (I:Inv X pins σ H s) (hv:ni ys its) (hz:ys.length<=sizeLine) :
  Inv X pins σ (upd H s.heap.objs.size (.lst ys)) { s with heap:=s.heap.push { cls:=.type "list",data:=.seq its.toArray },toks:=t' }:=
 I.laid (λ_ _ q=>get?_push_of_some _ q) (Nat.le_refl _) ⟨hz,its,0,hv,get?_push_size _ rfl⟩
theorem Inv.fresh (I:Inv X pins σ H s):H s.heap.objs.size=none:=I.hok.fresh (Nat.le_refl _)
theorem Inv.lstM (I:Inv X pins σ H s) (hH:H l=some (.lst xs)):xs.length<=sizeLine/\∃ (its:List Value) (n:Nat),ni xs its/\xs.length=its.length/\s.heap.get? l=some { cls:=.type "list",data:=.seq its.toArray n }:=by
 obtain ⟨z,its,n,r,e⟩:=I.hok l _ hH
 exact ⟨z,its,n,r,r.length,e⟩
theorem notLongL {n:Nat} (h:n<=sizeLine):Builtin.List.listTooLong n=false:=by
 unfold Builtin.List.listTooLong
 exact decide_eq_false (by omega)
end
section
variable {X:Cx}
def rAppend:V->List V->Hp->VK->Prop:=λx vs H Q=>∃ l xs y,x=.ref l/\vs=[y]/\H l=some (.lst xs)/\xs.length<sizeLine/\Q .non (upd H l (.lst (xs++[y])))
theorem g9:MtM X "list.append" rAppend:=by
 intro pins s σ H x vs v us Q I rx rv h
 obtain ⟨l,xs,y,rfl,rfl,hH,hz,q⟩:=h
 cases rx
 obtain ⟨u,rfl,ru⟩:=rv.one
 obtain ⟨z,its,n,r,hl,e⟩:=I.lstM hH
 refine call_meets F.slot_list_append ⟨_,e,rfl⟩ F.entry_list_append (F.args_list_append_2 _ _) (PySem.list_append l its.toArray n u (by rw [size_toArray]; omega)) ⟨e,?_⟩
 refine ⟨.non,_,I.lset (its':=its++[u]) hH e (by simp) (r.append (.cons ru .nil)) ?_,rfl,q⟩
 rw [length_append,length_singleton]
 omega
def rExtend:V->List V->Hp->VK->Prop:=λx vs H Q=>∃ l b xs zs,x=.ref l/\vs=[.ref b]/\H l=some (.lst xs)/\H b=some (.lst zs)/\xs.length+zs.length<=sizeLine/\Q .non (upd H l (.lst (xs++zs)))
theorem mt_extend:MtM X "list.extend" rExtend:=by
 intro pins s σ H x vs v us Q I rx rv h
 obtain ⟨l,b,xs,zs,rfl,rfl,hH,hB,hz,q⟩:=h
 cases rx
 obtain ⟨u,rfl,ru⟩:=rv.one
 cases ru
 obtain ⟨z,its,n,r,hl,e⟩:=I.lstM hH
 obtain ⟨z2,its2,n2,r2,hl2,e2⟩:=I.lstM hB
 have hsz:its.toArray.size+its2.toArray.size<=sizeLine:=by rw [size_toArray,size_toArray]; omega
 have hlong:¬ (!its.toArray.isEmpty && Builtin.List.listTooLong (its.toArray.size+its2.toArray.size))=true:=by
  rw [notLongL hsz,Bool.and_false]
  exact Bool.false_ne_true
 refine call_meets F.slot_list_extend ⟨_,e,rfl⟩ F.entry_list_extend (F.args_list_extend_2 _ _)
  (AutoSeq1.list_extend_list_list_0 l its.toArray n b its2.toArray n2 hlong (by rw [size_toArray]; omega) (by omega)) ⟨e,e2,?_⟩
 refine ⟨.non,_,I.lset (its':=its++its2) hH e (by simp) (r.append r2) ?_,rfl,q⟩
 rw [length_append]
 omega
def rCat:R2:=λx y H Q=>∃ l b xs zs,x=.ref l/\y=.ref b/\H l=some (.lst xs)/\H b=some (.lst zs)/\xs.length+zs.length<=sizeLine/\∀ p,H p=none->Q (.ref p) (upd H p (.lst (xs++zs)))
theorem op_cat:OpR X (binaryOp .Add) rCat:=by
 intro pins s σ H x y v u Q I rx ry h
 obtain ⟨l,b,xs,zs,rfl,rfl,hH,hB,hz,q⟩:=h
 cases rx
 cases ry
 obtain ⟨z,its,n,r,hl,e⟩:=I.lstM hH
 obtain ⟨z2,its2,n2,r2,hl2,e2⟩:=I.lstM hB
 refine PySem.P.add_list e e2 ?_ (by rw [size_toArray,size_toArray]; omega)
 have ea:its.toArray++its2.toArray=(its++its2).toArray:=by simp
 rw [ea]
 exact ⟨.ref _,_,I.lnew (t':=s.toks) (r.append r2) (by rw [length_append]; omega),rfl,q _ I.fresh⟩
end
section
variable {prog:Program} {w:World} {A:Around} {E:Value->Shared->Prop} {s:Shared}
end
section
variable {X:Cx}
end
end L2
namespace Att
open PySem PySem.W PySem.Calls PyProof.Rows
theorem iT {P:Params} {h:Heap}:∀ (ns:List Int) (vs:List Value),WellAll P h vs (ns.map WData.int)->IntsAre vs ns:=by
 intro ns
 induction ns with
 | nil=>
  intro vs w
  rw [map_nil] at w
  cases w
  exact .nil
 | cons n ns ih=>
  intro vs w
  rw [map_cons] at w
  cases w with
  | cons a b=>
   cases a
   exact .cons _ _ (ih _ b)
theorem script_of {l:OpenLaw} {n:Nat} (hn:l.most=some n) {P:Params} {h:Heap} {args:List WData} {vals:List Value}
  (hpre:l.row.toRowW.claim.pre args=true) (hwl:WellAll P h vals args) :
  ∃ a vs ns,vals=[Value.ref a]/\args=[WData.list (ns.map WData.int)]/\h.get? a=some { cls:=.type "list",data:=.seq vs.toArray }/\IntsAre vs ns/\ns.length<=n:=by
 have hsh:WShape.hasAll [] args [.list .int]=true:=(pre_splitW hpre).1
 have hc:l.pre.holds [] { args:=args }=true:=(pre_splitW hpre).2
 obtain ⟨d,r,rfl,h1,h2⟩:=hasAllW_cons hsh
 obtain rfl:=hasAllW_nil h2
 obtain ⟨xs,rfl,h3⟩:=hasW_list h1
 obtain ⟨ns,rfl⟩:=items_int h3
 have hlen:ns.length<=n:=by
  unfold OpenLaw.pre at hc
  have h4:(WTm.not (.lt (.lit (.int (n:Int))) (.len (.arg 0)))).holds [] { args:=[.list (ns.map .int)] }=true:=by
   have h4:=(holds_andW hc).1
   rw [hn] at h4
   exact h4
  have h5:=condW_of h4 (w_not (w_lt w_lit (w_len_list (w_arg rfl))))
  rw [length_map] at h5
  refine Nat.le_of_not_lt λq=>?_
  have q':(n:Int)<((ns.length:Nat):Int):=by omega
  first
   | (rw [decide_eq_true q'] at h5; exact absurd h5 (by decide))
   | (simp at h5; omega)
 cases hwl with
 | cons w1 w2=>
  cases w2
  cases w1 with
  | list ho hall=>exact ⟨_,_,ns,rfl,rfl,ho,iT ns _ hall,hlen⟩
theorem post_true (l:OpenLaw) (args:List WData):l.row.toRowW.claim.post args (.bool true) args=true:=
 postW_of (r:=l.row.toRowW) (X:=(true == true))
  (show WShape.has [] (.bool true) .bool=true by first | rfl | decide | simp [WShape.has,WShape.arms,WShape.armsAll])
  (show (WTm.eq .res (.lit (.bool true))).value [] { args:=args,res:=some (.bool true),after:=args }=some (.bool (true == true)) from w_eq_bool (w_res rfl) w_lit) rfl
theorem attach_call {l:OpenLaw} {n:Nat} {q:Program} {loose:List Str} {XP:(Str->Option Value)->Heap->Prop} {YP:World->Heap->Prop} {d:DefRec}
  (hn:l.most=some n) (hdf:d.params.defaults=[])
  (call:∀ (w:World) (s₀ s₁:Shared) (mg mb:Str->Option Value) (fa:Addr) (o:Obj) (pm cd doc:Value) (a:Addr) (vs:List Value) (ns:List Int),
   Ground q loose [] XP w s₀ mg mb s₁.heap->YP w s₁.heap->
   s₁.heap.get? fa=some o->o.data=.func (docDef d.name d.params d.body d.scope pm cd doc)->s₁.heap.CodeRec cd d.name->mg d.name=some (.ref fa)->
   s₁.heap.get? a=some { cls:=.type "list",data:=.seq vs.toArray }->IntsAre vs ns->ns.length<=n->s₁.gens = #[]->
   codeAny (model l.prog w) callerA (.call (.ref fa) ⟨[.ref a],[]⟩) (λr s'=>r=.ok (.ret (.bool true))/\OldK s₁.heap s'.heap/\s'.os=s₁.os/\AllBare s'.gens) s₁) :
  WalkO q loose XP YP l.row.toRowW d [] (λf vs=>PySem.call f vs):=by
 intro w s₀ s₁ mg mb G Y fa o pm cd doc dV kV ho hd hcd hD hmg hg args vals as hpre hlay hrd hwl hlo
 obtain rfl:dV=.none:=Dflts.none hD hdf
 obtain rfl:kV=.none:=Dflts.noKw hD
 obtain ⟨a,vs,ns,rfl,rfl,hobj,hints,hlen⟩:=script_of hn hpre hwl
 refine enter_call (codeAny_mono (call w s₀ s₁ mg mb fa o pm cd doc a vs ns G Y ho (fd_plain hd) hcd hmg hobj hints hlen hg) λr s' hq=>?_)
 obtain ⟨rfl,h2,h3,h4⟩:=hq
 exact ⟨.inl ⟨.bool true,.bool true,[],rfl,λ_=>rfl,.bool true,post_true l _,λ_=>⟨List.Pairwise.nil,λ_ hm=>(nomatch hm)⟩⟩,h2,h3,h4⟩
section
variable {prog:Program} {w:World} {A:Around} {E:Value->Shared->Prop} {s:Shared} {K:Frag}
end
end Att
namespace L2
open PySem PySem.Spec PyProof.Rows
theorem ki:∀ {vs:List Value} {ns:List Int},IntsAre vs ns->ni (ns.map V.int) vs
 | _,_,.nil=>.nil
 | _,_,.cons n t h=>.cons ⟨t,rfl⟩ (ki h)
def inClass (s:Stmt) (j:Nat):Stmt:=match s with
 | .ClassDef _ _ _ body _ _ _ _ _ _ _=>body.getD j (.Pass ⟨0,0,0,0⟩)
 | _=>.Pass ⟨0,0,0,0⟩
def aR (s:Stmt):Arguments:=match s with
 | .FunctionDef _ a _ _ _ _ _ _ _ _=>a
 | _=>{ posonlyargs:=[],args:=[],vararg:=none,kwonlyargs:=[],kw_defaults:=[],kwarg:=none,defaults:=[] }
def aK (s:Stmt):List Stmt:=match s with
 | .FunctionDef _ _ b _ _ _ _ _ _ _=>b
 | _=>[]
def al (s:Stmt):Scope:=match s with
 | .FunctionDef _ _ _ _ _ _ sc _ _ _=>sc
 | _=>{ kind:=.function,names:=[],isGenerator:=false,isCoroutine:=false }
abbrev CX0:CXT:=λ_ _ _ _ _ _=>False
abbrev E0:XK:=λ_ _ _=>False
theorem pass0 {X:Cx}:cu CX0 X E0:=λ_ _ _ _ _ _ _ h=>h.elim
structure Fun (K:Frag) (x qual:Str) (st:Stmt) (f:Addr) (fd:FuncData):Prop where
 ex:∃ (oc:Value) (od:Option Addr) (kV doc pm:Value) (an:Option Addr) (cdv ct:Value) (osl:Array (Option Value)),
  fd=fnOf x qual (aR st) (aK st) (al st) .none kV doc pm an cdv ct/\K.lookup f=some ⟨oc,od,.func fd,osl⟩/\codeIn K cdv qual=true
 kp:keepIn K (.ref f)=true
section
variable {P:Program} {w:World} {K:Frag} {mg:Str->Option Value} {base:Heap}
theorem Fun.ok {x qual:Str} {st:Stmt} {f:Addr} {fd:FuncData} {N ps:List Str} {k:Nat} {sp:Sp} (F:Fun K x qual st f fd) (S:mZ N ps (al st)) (len:∀ vs H Q E,sp vs H Q E->vs.length=ps.length)
  (hbody:∀ (cdv:Value) (A:Around) (outer:List Env) (s:Shared) (H:Hp) (vs:List V) (Q:VK) (E:XK),nC k (A.deeper (envOfC qual (al st) s.heap.objs.size f cdv))->sp vs H Q E->
   ∃ t,PSs (bR CX0 P w K mg base N qual (al st) f cdv A outer s H E).nox (aK st) t/\t { nx:=λ_ H'=>Q .non H',rt:=Q } (bS N vs) H):nk P w K mg base CX0 (k+1) f fd ps sp:=by
 obtain ⟨oc,od,kV,doc,pm,an,cdv,ct,osl,rfl,lk,hcd⟩:=F.ex
 refine fn_of lk hcd S len λA outer s H vs Q E hr hsp=>?_
 obtain ⟨t,h,q⟩:=hbody cdv A outer s H vs Q E hr hsp
 exact ⟨t,h.nox,q⟩
theorem Fun.binds {x qual:Str} {st:Stmt} {f:Addr} {fd:FuncData} {ps:List Str} (F:Fun K x qual st f fd)
  (h:∀ (kV doc pm:Value) (an:Option Addr) (cdv ct:Value) (us:List Value),us.length=ps.length->bindArgs (fnOf x qual (aR st) (aK st) (al st) .none kV doc pm an cdv ct) ⟨us,[]⟩=pure (ps.zip us)):nY K fd ps []:=by
 obtain ⟨oc,od,kV,doc,pm,an,cdv,ct,osl,rfl,lk,hcd⟩:=F.ex
 exact .all (h kV doc pm an cdv ct)
theorem eB {x qual:Str} {st:Stmt} {f:Addr} {oc:Value} {od an:Option Addr} {osl:Array (Option Value)} {kV doc pm cdv ct:Value} (l:K.lookup f=some ⟨oc,od,.func (fnOf x qual (aR st) (aK st) (al st) .none kV doc pm an cdv ct),osl⟩)
  (c:codeIn K cdv qual=true) (k:keepIn K (.ref f)=true):Fun K x qual st f (fnOf x qual (aR st) (aK st) (al st) .none kV doc pm an cdv ct):=⟨⟨oc,od,kV,doc,pm,an,cdv,ct,osl,rfl,l,c⟩,k⟩
end
theorem fu {n:Nat} (h:n<=1000):n<sizeLine:=Nat.lt_of_le_of_lt h (by decide)
section
variable {X:Cx}
theorem pv (i:Nat) {x:Str} {pos:Pos} (hN:X.N[i]? = some x:=by rfl) (hv:Vis X.env.scope x:=by first | exact Or.inl rfl | exact Or.inr (Or.inl rfl) | exact Or.inr (Or.inr rfl)) (hd:(x == ("__debug__" : Str))=false:=by decide)
  (hcd:(x == ("__classdict__" : Str))=false:=by decide):PE X (.Name x pos) (tVar i):=pe_var hN hv hd hcd
end
theorem bx {A B:Prop} (h:B):if false=true then A else B:=by
 rw [if_neg Bool.false_ne_true]
 exact h
theorem bH {A B:Prop} (h:A):if true=true then A else B:=by
 rw [if_pos rfl]
 exact h
theorem bf {c A B:Prop} [Decidable c] (h1:c->A) (h2:¬ c->B):if c then A else B:=by
 by_cases h:c
 ·rw [if_pos h]
  exact h1 h
 ·rw [if_neg h]
  exact h2 h
theorem iteNS {c A B:Prop} [Decidable c] (hc:c) (h:B):if (!decide c)=true then A else B:=by
 rw [decide_eq_true hc]
 exact bx h
def mY (H H':Hp):Prop:=∀ b o,H b=some o->H' b=some o
theorem mY.refl (H:Hp):mY H H:=λ_ _ h=>h
theorem mY.trans {H H1 H2:Hp} (a:mY H H1) (b:mY H1 H2):mY H H2:=λc o h=>b c o (a c o h)
theorem mY.free {H H':Hp} (e:mY H H') {l:Addr} (h:H' l=Option.none):H l=Option.none:=by
 cases q:H l with
 | none=>rfl
 | some o=>
  rw [e l o q] at h
  cases h
theorem mY.seq {K:Frag} {H H':Hp} {a:Addr} {xs:List V} (e:mY H H') (h:SqL K H a xs):SqL K H' a xs:=by
 rcases h with (h | ⟨o,h⟩) | h
 ·exact .inl (.inl (e _ _ h))
 ·exact .inl (.inr ⟨o,e _ _ h⟩)
 ·exact .inr h
section
variable {prog:Program} {w:World} {A:Around} {R:Result->Shared->Prop} {s:Shared}
theorem gr {elt target iter:Expr} {ifs:List Expr} {scope:Scope} {pos:Pos} {it acc:Value} {env:Env} (I:Nat->Shared->Prop)
  (turn:∀ n s,I n s->wpAny (model prog w) A (pyNext it) (λr s₁=>match r with
   | none=>R (.ok .next) s₁
   | some v=>wpAny (model prog w) A (letOwnedTupleGo target it v) (λ_ s₁'=>wpAny (model prog w) A (assign target env v) (λ_ s₂=>
     wpAny (model prog w) A (forIn ifs true λc r=>if r=true then do let ok <- isTrue c env (eval c env); pure (ForInStep.yield ok) else pure (ForInStep.yield r)) (λok s₃=>
      if ok=true then wpAny (model prog w) A (eval elt env) (λx s₄=>
       wpAny (model prog w) A (call (.builtin "list.append") [acc,x]) (λ_ s₅=>∃ m,m<n/\I m s₅) (λ_ _=>False) s₄) (λ_ _=>False) s₃
      else ∃ m,m<n/\I m s₃) (λ_ _=>False) s₂) (λ_ _=>False) s₁') (λ_ _=>False) s₁) (λ_ _=>False) s)
  (n:Nat) (h:I n s) :
  codeAny (model prog w) A (.compLoop (.ListComp elt [⟨target,iter,ifs,0⟩] scope pos) 0 it acc env) R s:=by
 refine codeAny_loop rfl I (λn s hI=>?_) n h
 show wpAny _ A ((compTurn (.ListComp elt [⟨target,iter,ifs,0⟩] scope pos) 0 it acc env).onRaise (λx=>do noteFrame x env; theTreesLotGoes x)) _ _ s
 refine wpAny_noted ?_
 rw [compTurn_list]
 refine wpAny_bind (wpAny_standAt (wpAny_bind (wpAny_mono (turn n s hI) (λr s₁ h₁=>?_) λ_ _ h'=>h'.elim)))
 cases r with
 | none=>exact wpAny_pure h₁
 | some v=>
  refine wpAny_bind (wpAny_mono h₁ (λ_ s₁' h₁'=>?_) λ_ _ h'=>h'.elim)
  refine wpAny_bind (wpAny_mono h₁' (λ_ s₂ h₂=>wpAny_bind (wpAny_mono h₂ (λok s₃ h₃=>?_) λ_ _ h'=>h'.elim)) λ_ _ h'=>h'.elim)
  cases ok with
  | false=>exact wpAny_pure ⟨rfl,h₃⟩
  | true=>
   exact wpAny_bind (wpAny_bind (wpAny_mono h₃ (λx s₄ h₄=>wpAny_bind (wpAny_mono h₄ (λ_ s₅ h₅=>wpAny_pure (wpAny_pure ⟨rfl,h₅⟩)) λ_ _ h'=>h'.elim)) λ_ _ h'=>h'.elim))
end
def bK (env:Env):List (Str × NameKind)->List (Str × Addr)->List (Str × Addr)
 | [],cs=>cs
 | (n,k)::r,cs=>bK env r (if k == .free then (n,(env.cells.lookup n).getD 0)::cs else cs)
theorem jD {env:Env}:∀ (l:List (Str × NameKind)) (cs:List (Str × Addr)),(∀ x ∈ l,x.2=.free->∃ c,env.cells.lookup x.1=some c)->
  (do let r <- forIn l cs (λ(x:Str × NameKind) (cs:List (Str × Addr))=>if (x.2 == .free)=true then do let a <- cellOf env x.1; pure (ForInStep.yield ((x.1,a)::cs)) else pure (ForInStep.yield cs)); pure r:Sem (List (Str × Addr)))=pure (bK env l cs)
 | [],cs,_=>rfl
 | (n,k)::r,cs,h=>by
  have ih:=λcs'=>jD (env:=env) r cs' λx hx=>h x (mem_cons_of_mem _ hx)
  rw [forIn_cons]
  cases hk:(k == NameKind.free) with
  | false=>
   simp only [hk,Bool.false_eq_true,if_false]
   show (do let r <- forIn r cs _; pure r:Sem _)=_
   rw [ih]
   simp only [bK,hk,Bool.false_eq_true,if_false]
  | true=>
   obtain ⟨c,hc⟩:=h (n,k) mem_cons_self (by simpa using hk)
   have hco:cellOf env n=pure c:=by unfold cellOf; simp only at hc; rw [hc]
   simp only [hk,if_true,hco]
   show (do let r <- forIn r ((n,c)::cs) _; pure r:Sem _)=_
   rw [ih]
   simp only at hc
   simp only [bK,hk,if_true,hc,Option.getD_some]
theorem fO {env:Env} {scope:Scope} (h:∀ x ∈ scope.names,x.2=.free->∃ c,env.cells.lookup x.1=some c):closureFor scope env=pure (bK env scope.names []):=by
 have q:=jD scope.names [] h
 unfold closureFor
 exact congrArg (λ(m:Sem (List (Str × Addr)))=>m >>= pure) q
theorem cls_in {env:Env}:∀ (l:List (Str × NameKind)) (cs:List (Str × Addr)) (n:Str) (c:Addr),(∀ x ∈ l,x.2=.free->∃ c,env.cells.lookup x.1=some c)->
  (bK env l cs).lookup n=some c->env.cells.lookup n=some c\/cs.lookup n=some c
 | [],cs,n,c,_,h=>.inr h
 | (m,k)::r,cs,n,c,hf,h=>by
  have ih:=cls_in r (if (k == .free)=true then (m,(env.cells.lookup m).getD 0)::cs else cs) n c (λx hx=>hf x (mem_cons_of_mem _ hx)) h
  cases hk:(k == NameKind.free) with
  | false=>
   simp only [hk,Bool.false_eq_true,if_false] at ih
   exact ih
  | true=>
   simp only [hk,if_true] at ih
   rcases ih with ih | ih
   ·exact .inl ih
   ·cases hx:n == m with
    | true=>
     simp only [lookup_cons,hx] at ih
     obtain ⟨c',hc'⟩:=hf (m,k) mem_cons_self (by simpa using hk)
     simp only at hc'
     rw [hc'] at ih
     have e:n=m:=by simpa using hx
     subst e
     exact .inl (hc'.trans ih)
    | false=>
     simp only [lookup_cons,hx] at ih
     exact .inr ih
theorem cls_keep {env:Env}:∀ (l:List (Str × NameKind)) (cs:List (Str × Addr)) (n:Str),(∃ c,cs.lookup n=some c)->∃ c,(bK env l cs).lookup n=some c
 | [],cs,n,h=>h
 | (m,k)::r,cs,n,⟨c,h⟩=>by
  refine cls_keep r _ n ?_
  by_cases hk:(k == NameKind.free)=true
  ·rw [if_pos hk]
   cases hx:n == m with
   | true=>exact ⟨(env.cells.lookup m).getD 0,by simp only [lookup_cons,hx]⟩
   | false=>exact ⟨c,by simp only [lookup_cons,hx]; exact h⟩
  ·rw [if_neg hk]
   exact ⟨c,h⟩
theorem gs {env:Env}:∀ (l:List (Str × NameKind)) (cs:List (Str × Addr)) (n:Str),(n,NameKind.free) ∈ l->∃ c,(bK env l cs).lookup n=some c
 | [],_,_,h=>absurd h (by simp)
 | (m,k)::r,cs,n,h=>by
  rcases List.mem_cons.mp h with e | e
  ·cases e
   refine cls_keep r _ _ ?_
   exact ⟨_,by simp [lookup_cons]; rfl⟩
  ·exact gs r _ n e
theorem bO {env:Env}:∀ (names:List (Str × NameKind)) (x:Str),
  (names.map λ(n,k)=>if (k == NameKind.free && env.scope.kind == .function && env.kindOf n == some .cell) then (n,NameKind.cell) else (n,k)).lookup x
   = (names.lookup x).map λk=>if (k == NameKind.free && env.scope.kind == .function && env.kindOf x == some .cell)=true then NameKind.cell else k
 | [],x=>rfl
 | (n,k)::r,x=>by
  have ih:=bO (env:=env) r x
  show List.lookup x ((if (k == NameKind.free && env.scope.kind == .function && env.kindOf n == some .cell)=true then (n,NameKind.cell) else (n,k))::_)=_
  cases hx:x == n with
  | true=>
   have e:x=n:=by simpa using hx
   subst e
   by_cases hc:(k == NameKind.free && env.scope.kind == .function && env.kindOf x == some .cell)=true
   ·rw [if_pos hc]; simp only [lookup_cons,hx,Option.map_some]; rw [if_pos hc]
   ·rw [if_neg hc]; simp only [lookup_cons,hx,Option.map_some]; rw [if_neg hc]
  | false=>
   by_cases hc:(k == NameKind.free && env.scope.kind == .function && env.kindOf n == some .cell)=true
   ·rw [if_pos hc]; simp only [lookup_cons,hx]; exact ih
   ·rw [if_neg hc]; simp only [lookup_cons,hx]; exact ih
def mD (outer scope:Scope):Bool:=
 scope.kind == .function && outer.kind == .function && scope.names.all λx=>x.2 != .cell && (x.2 != .local || scope.names.lookup x.1 == some .local) && (x.2 != .free || (outer.names.lookup x.1 == some .cell || outer.names.lookup x.1 == some .free))
def gk (XN N:List Str) (src:List (Option Nat)) (scope:Scope):Bool:=
 src.length == N.length && (List.range N.length).all λi=>match src[i]?.join with
  | none=>true
  | some j=>N[i]? == XN[j]? && (N[i]?).any λx=>scope.names.lookup x == some .free
def bG (src:List (Option Nat)) (σ:St):St:=src.map λo=>o.bind λj=>(σ[j]?).join
def cxC (X:Cx) (N:List Str) (scope:Scope) (s:Shared) (H:Hp) (ex:List Addr):Cx where
 prog:=X.prog
 w:=X.w
 K:=X.K
 mg:=X.mg
 base:=X.base
 A:=X.A
 N:=N
 s₀:=s
 H₀:=H
 env:=compEnvC scope (bK X.env scope.names []) s.heap.objs.size X.env
 outer:=X.stack
 stack:=X.stack
 ex:=ex
 fn:=λ_=>false
 calm:=X.calm
 pn:=[]
 xe:=λ_ _=>False
structure nX (X:Cx) (scope:Scope):Prop where
 kind:scope.kind=.function
 nocell:∀ x ∈ scope.names,x.2 ≠ .cell
 names:∀ x ∈ scope.names,x.2=.local->scope.names.lookup x.1=some .local
 free:∀ x ∈ scope.names,x.2=.free->X.env.kindOf x.1=some .cell\/X.env.kindOf x.1=some .free
theorem kA {X:Cx} {scope:Scope} (h:mD X.env.scope scope=true):nX X scope:=by
 unfold mD at h
 simp only [Bool.and_eq_true,beq_iff_eq,all_eq_true,Bool.or_eq_true,bne_iff_ne] at h
 obtain ⟨⟨h1,_⟩,h2⟩:=h
 refine ⟨h1,λx hx=>(h2 x hx).1.1,λx hx e=>?_,λx hx e=>?_⟩
 ·rcases (h2 x hx).1.2 with z | z
  ·exact absurd e z
  ·exact z
 ·rcases (h2 x hx).2 with z | z
  ·exact absurd e z
  ·exact z
theorem nX.cells {X:Cx} {scope:Scope} (f:nX X scope) (ok:X.Ok):∀ x ∈ scope.names,x.2=.free->∃ c,X.env.cells.lookup x.1=some c:=λx hx e=>ok.has x.1 (f.free x hx e)
theorem nX.cl {X:Cx} {scope:Scope} (f:nX X scope) (ok:X.Ok) {n:Str} {c:Addr} (h:(bK X.env scope.names []).lookup n=some c):X.env.cells.lookup n=some c:=by
 rcases cls_in _ _ _ _ (f.cells ok) h with z | z
 ·exact z
 ·cases z
theorem nX.kf {X:Cx} {scope:Scope} (f:nX X scope) {x:Str} (h:(relabel scope X.env).names.lookup x=some .cell\/(relabel scope X.env).names.lookup x=some .free):scope.names.lookup x=some .free:=by
 unfold relabel at h
 simp only at h
 rw [bO] at h
 cases e:scope.names.lookup x with
 | none=>rw [e] at h; rcases h with z | z<;>cases z
 | some k=>
  rw [e] at h
  simp only [Option.map_some,Option.some.injEq] at h
  cases k with
  | free=>rfl
  | cell=>exact absurd rfl (f.nocell _ (PySem.mem_of_lookup e))
  | _=>simp at h
theorem nX.fk {X:Cx} {scope:Scope} {x:Str} (h:scope.names.lookup x=some .free):(relabel scope X.env).names.lookup x=some .cell\/(relabel scope X.env).names.lookup x=some .free:=by
 unfold relabel
 simp only
 rw [bO,h]
 simp only [Option.map_some,Option.some.injEq]
 split
 ·exact .inl rfl
 ·exact .inr rfl
theorem srcOk_ix {XN N:List Str} {src:List (Option Nat)} {scope:Scope} (h:gk XN N src scope=true):src.length=N.length/\∀ (i:Nat) (x:Str) (j:Nat),N[i]? = some x->src[i]? = some (some j)->XN[j]? = some x/\scope.names.lookup x=some .free:=by
 unfold gk at h
 simp only [Bool.and_eq_true,beq_iff_eq,all_eq_true] at h
 refine ⟨h.1,λi x j h1 h2=>?_⟩
 have hi:i<N.length:=(List.getElem?_eq_some_iff.mp h1).1
 have q:=h.2 i (List.mem_range.mpr hi)
 rw [h2,h1] at q
 simp only [Option.join_some,Bool.and_eq_true,beq_iff_eq,Option.any_some] at q
 exact ⟨q.1.symm,q.2⟩
section
variable {X:Cx} {pins:List (Addr × Obj)} {σ:St} {H:Hp} {s:Shared}
theorem comp_start {N:List Str} {src:List (Option Nat)} {scope:Scope} {ex:List Addr} {h1:Heap} {m:Str->Option Value} {tk:Nat} (I:Inv X pins σ H s) (f:nX X scope) (hsrc:gk X.N N src scope=true)
  (hex:∀ b ∈ ex,b<s.heap.objs.size/\b ≠ X.env.locals/\b ∉ X.fs/\(∀ x c,X.env.cells.lookup x=some c->c ≠ b)/\∀ o,X.base.get? b ≠ some o)
  (hn:h1.Ns s.heap.objs.size m) (hk:∀ b o,s.heap.get? b=some o->h1.get? b=some o) :
  Inv (cxC X N scope s H ex) [] (bG src σ) H { s with heap:=h1,toks:=tk }:=by
 obtain ⟨hlen,hix⟩:=srcOk_ix hsrc
 have ok:=I.ok
 have cellL:∀ x c,(bK X.env scope.names []).lookup x=some c->∃ v,s.heap.IsCell c v:=λx c e=>I.cell x c (f.cl ok e)
 have cellLt:∀ x c,(bK X.env scope.names []).lookup x=some c->c<s.heap.objs.size:=λx c e=>by
  obtain ⟨v,o,ho,_⟩:=cellL x c e
  exact lt_size ho
 have fsL:∀ b ∈ frs X.stack,b ∈ X.env.locals::X.fs:=I.stkSub
 refine ⟨⟨ok.mod,f.kind,ok.glob,ok.blt,Nat.le_refl _,λx y c h1 h2=>ok.inj x y c (f.cl ok h1) (f.cl ok h2),λx hx=>?_,λx c hx=>?_,ok.hd,ok.frames,.inl rfl,λb hb=>⟨Nat.ne_of_lt (hex b hb).1,λx c e=>(hex b hb).2.2.2.1 x c (f.cl ok e)⟩,I.bs,Nat.le_trans ok.bsz I.sz,λb o e hb=>(hex b hb).2.2.2.2 o e,λb hb hb'=>?_,I.stack,I.stkFree⟩,
  rfl,I.bare,Un.kept hk,⟨m,hn,λi x v e1 e2 e3=>?_⟩,λx c e=>?_,I.hok.fresh (Nat.le_refl _),λx c e=>I.freeC x c (f.cl ok e),λp hp=>absurd (show p ∈ ([]:List (Addr × Obj)) from hp) (by simp),I.hok.kept hk,?_⟩
 ·exact gs _ _ _ (PySem.mem_of_lookup (f.kf hx))
 ·cases hx
 ·rcases List.mem_cons.mp (fsL b hb') with z | z
  ·exact (hex b hb).2.1 z
  ·exact (hex b hb).2.2.1 z
 ·have e2':(bG src σ)[i]? = some (some v):=e2
  unfold bG at e2'
  rw [getElem?_map] at e2'
  cases hs:src[i]? with
  | none=>rw [hs] at e2'; cases e2'
  | some o=>
   rw [hs] at e2'
   cases o with
   | none=>cases e2'
   | some j=>
    obtain ⟨q1,q2⟩:=hix i x j e1 hs
    have e4:σ[j]? = some (some v):=by
     simp only [Option.map_some,Option.bind_some,Option.some.injEq] at e2'
     cases z:σ[j]? with
     | none=>rw [z] at e2'; cases e2'
     | some o=>rw [z] at e2'; simp only [Option.join_some] at e2'; rw [e2']
    have kx:=f.free (x,.free) (PySem.mem_of_lookup q2) rfl
    obtain ⟨mX,hnX,hl⟩:=I.loc
    obtain ⟨u,r,l⟩:=hl j x v q1 e4 (by rcases kx with z | z; exact .inr (.inl z); exact .inr (.inr z))
    refine ⟨u,r,.inr ⟨nX.fk (X:=X) q2,?_⟩⟩
    rcases l with ⟨l,_⟩ | ⟨_,c,ec,ic⟩
    ·rcases kx with z | z
     ·rw [z] at l; cases l
     ·rw [z] at l; cases l
    ·obtain ⟨c',hc'⟩:=gs (env:=X.env) scope.names [] x (PySem.mem_of_lookup q2)
     have z:=f.cl ok hc'
     rw [ec] at z
     cases z
     obtain ⟨oc,ho,hd⟩:=ic
     exact ⟨c,hc',oc,hk c oc ho,hd⟩
 ·obtain ⟨v,o,ho,hd⟩:=cellL x c e
  exact ⟨v,o,hk c o ho,hd⟩
 ·show (bG src σ).length=N.length
  unfold bG
  rw [length_map]
  exact hlen
def PIf (X:Cx) (ifs:List Expr) (t:TT):Prop:=
 ∀ (pins:List (Addr × Obj)) (s:Shared) (σ:St) (H:Hp) (Q:Bool->Hp->Prop),Inv X pins σ H s->t σ H Q->
  wpAny (model X.prog X.w) X.A (forIn ifs true λc r=>if r=true then do let ok <- isTrue c X.env (eval c X.env); pure (ForInStep.yield ok) else pure (ForInStep.yield r)) (TP X pins σ Q) X.xe s
def tYes:TT:=λ_ H Q=>Q true H
theorem bj:PIf X [] tYes:=λpins s σ H Q I h=>wpAny_pure ⟨H,I,h⟩
theorem cV {c:Expr} {t:TT} (hc:PT X c t):PIf X [c] t:=by
 intro pins s σ H Q I h
 rw [forIn_cons]
 simp only [if_true]
 refine wpAny_bind (wpAny_bind (thn (hc pins s σ H Q I h) λb s1 q=>wpAny_pure ?_))
 exact wpAny_pure q
def cf (J:It) (src:List (Option Nat)) (g:TG) (tt:TT) (te:TE) (σ:St) (H1:Hp) (Q:VK):Prop:=∀ acc,H1 acc=none->
 ∃ W:Nat->Nat->St->Hp->Prop,(∃ m,W 0 m (bG src σ) (upd H1 acc (.lst [])))/\∀ i m σ H,W i m σ H->
  (J.stop i H/\Q (.ref acc) H)\/(J.go i H/\∃ N:St->Hp->Prop,(∀ σ' H',N σ' H'->∃ m',m' < m/\W (i+1) m' σ' H')/\∀ x H',J.yld i H x H'->g x σ H' λσ2 H2=>tt σ2 H2 λb H3=>
   if b=true then te σ2 H3 λy H4=>∃ ys,H4 acc=some (.lst ys)/\ys.length<sizeLine/\N σ2 (upd H4 acc (.lst (ys++[y]))) else N σ2 H3)
def tComp (src:List (Option Nat)) (wi:TI) (g:TG) (tt:TT) (te:TE):TE:=λσ H Q=>wi σ H λJ H1=>cf J src g tt te σ H1 Q
theorem comp_run {elt tg iter:Expr} {ifs:List Expr} {scope:Scope} {pos:Pos} {N:List Str} {src:List (Option Nat)} {g:TG} {tt:TT} {te:TE} (use:Option (Value->Sem Unit)) (PQ:Value->Shared->Prop) (E:Value->Shared->Prop)
  (hcalm:X.calm=true) (f:nX X scope) (hsrc:gk X.N N src scope=true)
  (hb:∀ (s:Shared) (H:Hp) (ex:List Addr),PG (cxC X N scope s H ex) tg g/\PIf (cxC X N scope s H ex) ifs tt/\PE (cxC X N scope s H ex) elt te)
  {it:Addr} {fp:List Addr} {tn:Nat->Heap->Prop} {J:It} (I:Inv X pins σ H s) (T:jX X.prog X.w X.K tg J fp it tn) (st:tn 0 s.heap) (hf:∀ b ∈ fp,nI X pins H b) {Q:VK}
  (h:cf J src g tt te σ H Q)
  (hfin:∀ (acc C:Addr) (s':Shared) (H':Hp) (m:Str->Option Value),s'.heap.Ns C m->nI X pins H' C->(∀ h',Heap.SameBut C s'.heap h'->Inv X pins σ H' { s' with heap:=h' })->Q (.ref acc) H'->compPost (model X.prog X.w) X.A E use PQ (.ref acc) C (.ok .next) s') :
  wpAny (model X.prog X.w) X.A (newList []) (λacc s₃=>
   wpAny (model X.prog X.w) X.A (newFunctionEnv scope X.env.globals (bK X.env scope.names []) [] X.env.qual none .none (some X.env)) (λcenv s₄=>
    codeAny (model X.prog X.w) X.A (.compStart (.ListComp elt [⟨tg,iter,ifs,0⟩] scope pos) 0 (.ref it) acc { cenv with scope:=relabel scope X.env }) (compPost (model X.prog X.w) X.A E use PQ acc cenv.locals) s₄) E s₃) E s:=by
 have ok:=I.ok
 have I3:Inv X pins σ (upd H s.heap.objs.size (.lst [])) { s with heap:=s.heap.push { cls:=.type "list",data:=.seq ([]:List Value).toArray },toks:=s.toks }:=I.lnew (ys:=[]) (its:=[]) .nil (Nat.zero_le _)
 obtain ⟨W,⟨m0,w0⟩,turn⟩:=h s.heap.objs.size (I.hok.fresh (Nat.le_refl _))
 refine wpAny_newObj_type (wpAny_newFunctionEnv f.nocell (by intro y hy; simp at hy) (λh₁ hns₁ hsb₁=>?_) f.kind)
 dsimp only at hns₁ hsb₁ ⊢
 generalize hs3:({ s with heap:=s.heap.push { cls:=.type "list",data:=.seq ([]:List Value).toArray },toks:=s.toks }:Shared)=s3 at I3
 have e3:s3.heap=s.heap.push { cls:=.type "list",data:=.seq ([]:List Value).toArray }:=by rw [<- hs3]
 have hk:∀ b o,s3.heap.get? b=some o->h₁.get? b=some o:=λb o e=>by
  rw [e3] at e
  exact hsb₁.extBut b o (Nat.ne_of_lt (lt_size e)) (get?_push_of_some _ e)
 have up3:∀ b o,s.heap.get? b=some o->s3.heap.get? b=some o:=λb o e=>by rw [e3]; exact get?_push_of_some _ e
 have nacc:∀ b ∈ fp,b ≠ s.heap.objs.size:=λb hb z=>by
  obtain ⟨o,e,_⟩:=T.obj 0 _ st b hb
  exact absurd (lt_size e) (by rw [z]; exact Nat.lt_irrefl _)
 have hex:∀ b ∈ fp,b<s3.heap.objs.size/\b ≠ X.env.locals/\b ∉ X.fs/\(∀ x c,X.env.cells.lookup x=some c->c ≠ b)/\∀ o,X.base.get? b ≠ some o:=λb hb=>by
  obtain ⟨o,e,_⟩:=T.obj 0 _ st b hb
  obtain ⟨f0,f1,f2,f3,f4,f5⟩:=hf b hb
  refine ⟨lt_size (up3 b o e),f1,f2,f4,λo' z=>?_⟩
  rcases f3 with q | q
  ·exact ok.noex b o' z q
  ·exact absurd (Nat.lt_of_lt_of_le (lt_size (ok.bs b o' z).1) q) (Nat.lt_irrefl _)
 have hns₁':h₁.Ns s3.heap.objs.size (λx=>([]:List (Str × Value)).reverse.lookup x):=by rw [e3]; exact hns₁
 have IY0:Inv (cxC X N scope s3 (upd H s.heap.objs.size (.lst [])) fp) [] (bG src σ) (upd H s.heap.objs.size (.lst [])) { s3 with heap:=h₁,toks:=s.toks+([]:List (Str × Value)).length }:=
  comp_start (tk:=s.toks+([]:List (Str × Value)).length) I3 f hsrc hex hns₁' hk
 generalize hY:cxC X N scope s3 (upd H s.heap.objs.size (.lst [])) fp=Y at IY0
 have hb':PG Y tg g/\PIf Y ifs tt/\PE Y elt te:=by rw [<- hY]; exact hb s3 _ fp
 obtain ⟨hg,ht,he⟩:=hb'
 have Yp:Y.prog=X.prog:=by rw [<- hY]; rfl
 have Yw:Y.w=X.w:=by rw [<- hY]; rfl
 have YK:Y.K=X.K:=by rw [<- hY]; rfl
 have YA:Y.A=X.A:=by rw [<- hY]; rfl
 have Yc:Y.calm=true:=by rw [<- hY]; exact hcalm
 have Yx:Y.xe=λ_ _=>False:=by rw [<- hY]; rfl
 have Ye:Y.env=compEnvC scope (bK X.env scope.names []) s3.heap.objs.size X.env:=by rw [<- hY]; rfl
 have Ys:Y.s₀=s3:=by rw [<- hY]; rfl
 have YH:Y.H₀=upd H s.heap.objs.size (.lst []):=by rw [<- hY]; rfl
 have Yf:Y.fs=frs X.stack:=by rw [<- hY]; rfl
 have Yex:Y.ex=fp:=by rw [<- hY]; rfl
 have Ypn:Y.pn=[]:=by rw [<- hY]; rfl
 have stat:∀ {H':Hp},(∀ b ∈ fp,H' b=none)->∀ b ∈ fp,nI Y [] H' b:=λ{H'} hn b hb=>by
  obtain ⟨x1,x2,x3,x4,x5⟩:=hex b hb
  refine ⟨hn b hb,?_,?_,.inl (by rw [Yex]; exact hb),?_,λp hp=>?_⟩
  ·rw [Ye]; exact Nat.ne_of_lt x1
  ·rw [Yf]
   intro z
   rcases List.mem_cons.mp (I.stkSub b z) with q | q
   ·exact x2 q
   ·exact x3 q
  ·rw [Ye]
   intro x c e
   exact x4 x c (f.cl ok e)
  ·rw [Ypn] at hp
   exact absurd hp (by simp)
 have loop:∀ s4:Shared,s4=({ s3 with heap:=h₁,toks:=s.toks+([]:List (Str × Value)).length }:Shared)->
   codeAny (model X.prog X.w) X.A (.compLoop (.ListComp elt [⟨tg,iter,ifs,0⟩] scope pos) 0 (.ref it) (.ref s.heap.objs.size) (compEnvC scope (bK X.env scope.names []) s3.heap.objs.size X.env))
    (compPost (model X.prog X.w) X.A E use PQ (.ref s.heap.objs.size) s3.heap.objs.size) s4:=by
  rintro s4 rfl
  refine gr (λn s'=>∃ i σ' H',Inv Y [] σ' H' s'/\tn i s'.heap/\(∀ b ∈ fp,H' b=none)/\W i n σ' H') ?_ m0
   ⟨0,bG src σ,_,IY0,T.keep 0 _ _ st λb hb o e=>hk b o (up3 b o e),λb hb=>by rw [am (nacc b hb)]; exact (hf b hb).1,w0⟩
  rintro n s5 ⟨i,σ5,H5,I5,st5,fr5,w5⟩
  rcases turn i n σ5 H5 w5 with ⟨stop,qn⟩ | ⟨go,Nn,hNn,step⟩
  ·have q:=T.done Y Yp Yw YK Yc i [] s5 σ5 H5 (λ_ _=>False) I5 (stat fr5) st5 stop
   rw [YA] at q
   refine thn q λr s6 ⟨hr,I6⟩=>?_
   subst hr
   obtain ⟨m6,hn6,_⟩:=id I6.loc
   have eL:Y.env.locals=s3.heap.objs.size:=by rw [Ye]; rfl
   rw [eL] at hn6
   refine hfin s.heap.objs.size s3.heap.objs.size s6 H5 m6 hn6 (I3.fpOk (Nat.le_refl _) (by have z:=I6.free; rw [eL] at z; exact z)) (λh' sb=>?_) qn
   ·have b6:=I6.base
    rw [Ys,YH,Yf,Yex] at b6
    have ne:∀ b o,s3.heap.get? b=some o->b ≠ s3.heap.objs.size:=λb o e=>Nat.ne_of_lt (lt_size e)
    have u6:Un (frs X.stack) fp (upd H s.heap.objs.size (.lst [])) H5 s3.heap h':=
     ⟨λb o e n hb hx=>(sb.2 b (ne b o e)).trans (b6.keep b o e n hb hx),λb o e n hb hx=>by
       obtain ⟨sl,z⟩:=b6.slot b o e n hb hx
       exact ⟨sl,(sb.2 b (ne b o e)).trans z⟩,b6.free,λb o e hx=>by
       obtain ⟨o',z⟩:=b6.there b o e hx
       exact ⟨o',(sb.2 b (ne b o e)).trans z⟩,b6.tups,b6.frzs,b6.tbls⟩
    have fL:H5 s3.heap.objs.size=none:=by
     have z:=I6.free
     rw [eL] at z
     exact z
    have hok6:HOk X.prog X.w H5 h':=by
     have z:=I6.hok
     rw [Yp,Yw] at z
     intro b ob e
     refine (z b ob e).stay (λc w' hc q=>(sb.2 c ?_).trans q) (λ_ q=>q) λ_ _ q=>q
     rintro rfl
     rcases hc with rfl | hc
     ·rw [fL] at e; cases e
     ·rw [fL] at hc; cases hc
    have os6:s6.os=s3.os:=by
     have z:=I6.os
     rw [Ys] at z
     exact z
    refine Inv.call' (s':={ s6 with heap:=h' }) I3 os6 u6 hok6 I6.bare λb hb=>?_
    obtain ⟨f0,f1,f2,f3,f4,f5⟩:=hf b hb
    exact ⟨f3,f1,f4,f5⟩
  ·have q:=T.item Y Yp Yw YK Yc i [] s5 σ5 H5 (λ_ _=>False) I5 (stat fr5) st5 go
   rw [YA] at q
   refine thn q λr s6 ⟨u,hr,h6⟩=>?_
   subst hr
   refine thn h6 λ_ s7 ⟨x,H7,I7,r7,y7,st7,fr7⟩=>?_
   have I7':=I7.pinned (stat fr7) (T.obj _ _ st7)
   have back:∀ {σ9:St} {H9:Hp} {s9:Shared},Inv Y ([]++ig fp s7.heap) σ9 H9 s9->tn (i+1) s9.heap/\∀ b ∈ fp,H9 b=none:=λ{σ9 H9 s9} I9=>
    ⟨T.keep _ _ _ st7 λb hb o e=>(I9.pin (b,o) (mem_append_right _ (mem_append_right _ (cb hb e)))).1,λb hb=>by
     obtain ⟨o,e,d⟩:=T.obj _ _ st7 b hb
     exact (I9.pin (b,o) (mem_append_right _ (mem_append_right _ (cb hb e)))).2.1⟩
   have g1:=hg _ s7 σ5 H7 x u _ I7' r7 (step x H7 y7)
   rw [YA,Yx,Yp,Yw,Ye] at g1
   refine thn g1 λ_ s8 ⟨σ8,H8,I8,q8⟩=>?_
   have g2:=ht _ s8 σ8 H8 _ I8 q8
   rw [YA,Yx,Yp,Yw,Ye] at g2
   refine thn g2 λb s9 ⟨H9,I9,q9⟩=>?_
   cases b with
   | false=>
    simp only [Bool.false_eq_true,if_false] at q9 ⊢
    obtain ⟨m',hm,w9⟩:=hNn _ _ q9
    exact ⟨m',hm,i+1,σ8,H9,I9.unpinned,(back I9).1,(back I9).2,w9⟩
   | true=>
    simp only [if_true] at q9 ⊢
    have g3:=he _ s9 σ8 H9 _ I9 q9
    rw [YA,Yx,Yp,Yw,Ye] at g3
    refine thn g3 λyv s10 ⟨y,H10,I10,r10,ys,hys,hz,n10⟩=>?_
    obtain ⟨m',hm,w10⟩:=hNn _ _ n10
    have g4:=g9 (X:=Y) _ s10 σ8 H10 (.ref s.heap.objs.size) [y] (.ref s.heap.objs.size) [yv] (λ_ H11=>H11=upd H10 s.heap.objs.size (.lst (ys++[y]))) I10 rfl (.cons r10 .nil) ⟨_,ys,y,rfl,rfl,hys,hz,rfl⟩
    rw [YA,Yx,Yp,Yw] at g4
    refine thn g4 λ_ s11 ⟨_,H11,I11,_,e11⟩=>?_
    subst e11
    exact ⟨m',hm,i+1,σ8,_,I11.unpinned,(back I11).1,(back I11).2,w10⟩
 have q:=loop _ rfl
 have eqs:({ s3 with heap:=h₁,toks:=s.toks+([]:List (Str × Value)).length }:Shared)={ s with heap:=h₁,toks:=s.toks+([]:List (Str × Value)).length }:=by rw [<- hs3]
 rw [eqs] at q
 rw [e3] at q
 have stn:tn 0 h₁:=T.keep 0 _ _ st λb hb o e=>hk b o (up3 b o e)
 exact codeAny_compStart_list q (T.self X.A 0 _ _ _ stn q)
theorem aX {elt tg iter:Expr} {ifs:List Expr} {scope:Scope} {pos:Pos} {N:List Str} {src:List (Option Nat)} {wi:TI} {g:TG} {tt:TT} {te:TE}
  (hcalm:X.calm=true) (hsc:mD X.env.scope scope=true) (hsrc:gk X.N N src scope=true) (hi:PI X tg iter wi)
  (hb:∀ (s:Shared) (H:Hp) (ex:List Addr),PG (cxC X N scope s H ex) tg g/\PIf (cxC X N scope s H ex) ifs tt/\PE (cxC X N scope s H ex) elt te)
  (hs:∀ x,foldedSetIterable iter X.env x=pure x:=by intro _; rfl) :
  PE X (.ListComp elt [⟨tg,iter,ifs,0⟩] scope pos) (tComp src wi g tt te):=by
 intro pins s σ H Q I h
 have f:=kA hsc
 rw [eval_ListComp]
 refine wpAny_comprehension_free (use:=none) rfl hs (fO (f.cells I.ok)) f.kind f.names (thn (hi pins s σ H _ I h) λv s1 h1=>thn h1 λitv s2 h2=>?_)
 obtain ⟨it,fp,tn,J,H2,rfl,I2,T,st2,f2,q2⟩:=h2
 refine comp_run (N:=N) (src:=src) none (EP X pins σ Q) X.xe hcalm f hsrc hb I2 T st2 f2 q2 ?_
 intro acc C s' H' m hn _ hI hq
 exact ⟨m,hn,λh' sb=>⟨.ref acc,H',hI h' sb,rfl,hq⟩⟩
theorem mS {i:Nat} {y:Str} {py spos:Pos} {elt tg iter:Expr} {ifs:List Expr} {scope:Scope} {pos:Pos} {N:List Str} {src:List (Option Nat)} {wi:TI} {g:TG} {tt:TT} {te:TE}
  (hN:X.N.Nodup) (hix:X.N[i]? = some y) (hx:Loc X.env.scope y)
  (hcalm:X.calm=true) (hsc:mD X.env.scope scope=true) (hsrc:gk X.N N src scope=true) (hi:PI X tg iter wi)
  (hb:∀ (s:Shared) (H:Hp) (ex:List Addr),PG (cxC X N scope s H ex) tg g/\PIf (cxC X N scope s H ex) ifs tt/\PE (cxC X N scope s H ex) elt te)
  (hs:∀ x,foldedSetIterable iter X.env x=pure x:=by intro _; rfl)
  (hsw:swapsWith (.ListComp elt [⟨tg,iter,ifs,0⟩] scope pos) (some (.Name y py)) spos.line X.env=pure true:=by rfl)
  (hf:X.fn y=true\/X.env.scope.names.lookup y=some .local:=by first | exact .inl rfl | exact .inr rfl | assumption) :
  PS X (.Assign [.Name y py] (.ListComp elt [⟨tg,iter,ifs,0⟩] scope pos) spos) (tAsg (tComp src wi g tt te) (cB i)):=by
 intro pins s σ H D I h
 have f:=kA hsc
 rw [exec_Assign_Name_used _ _ _ _ hsw]
 refine wpAny_bind (wpAny_standAt (wpAny_bind ?_))
 show wpAny _ X.A (do let _ <- comprehension (.ListComp elt [⟨tg,iter,ifs,0⟩] scope pos) scope X.env _ (newList []) false (eval iter X.env) (some (assign (.Name y py) X.env))) _ _ s
 refine wpAny_bind (wpAny_mono (wpAny_comprehension_free (use:=some (assign (.Name y py) X.env)) (Q:=λ_ s'=>SP X pins D .next s') rfl hs (fO (f.cells I.ok)) f.kind f.names
  (thn (hi pins s σ H _ I h) λv s1 h1=>thn h1 λitv s2 h2=>?_)) (λ_ s' hq=>wpAny_pure (wpAny_pure hq)) λ_ _ e=>e)
 obtain ⟨it,fp,tn,J,H2,rfl,I2,T,st2,f2,q2⟩:=h2
 refine comp_run (N:=N) (src:=src) (some (assign (.Name y py) X.env)) (λ_ s'=>SP X pins D .next s') X.xe hcalm f hsrc hb I2 T st2 f2 (Q:=λx H1=>cB i x σ H1 D.nx) q2 ?_
 intro acc C s' H' m hn fpC hI hq
 obtain ⟨c0,c1,c2,c3,c4,c5⟩:=fpC
 have I':Inv X pins σ H' s':=hI s'.heap (Heap.SameBut.refl ..)
 show wpAny _ X.A (assign (.Name y py) X.env (.ref acc)) _ _ _
 refine wpAny_assign_Name (kP (v:=.ref acc) I' hN hix hx rfl (λs2 J2 ⟨a,sb,ha⟩=>?_) hf)
 have hCa:C ≠ a:=by
  rcases ha with rfl | ha
  ·exact c1
  ·exact λz=>c4 y a ha z.symm
 refine ⟨m,hn.sameBut sb hCa,λh' sb'=>?_⟩
 exact ⟨_,H',J2.turned (t':=s2.toks) (λb o hb e=>(sb'.2 b hb).trans e) c0 c1 c3 c4 c5,hq⟩
end
def SqI (t:Bool) (h:Heap) (it l:Addr) (i:Nat):Prop:=if t=true then h.IsTupleIter it l i else h.IsListIter it l i
def SqO (t:Bool) (h:Heap) (l:Addr) (xs:Array Value):Prop:=if t=true then h.IsTuple l xs else h.IsList l xs
def SqV (t:Bool) (K:Frag) (H:Hp) (a:Addr) (xs:List V):Prop:=if t=true then SqT K H a xs else SqL K H a xs
theorem SqI.at {t:Bool} {h h':Heap} {it l:Addr} {i:Nat} (x:SqI t h it l i) (k:∀ o,h.get? it=some o->h'.get? it=some o):SqI t h' it l i:=by
 cases t
 ·exact Heap.IsListIter.at x k
 ·obtain ⟨o,ho,r⟩:=(show h.IsTupleIter it l i from x)
  exact (show h'.IsTupleIter it l i from ⟨o,k o ho,r⟩)
theorem SqI.obj {t:Bool} {h:Heap} {it l:Addr} {i:Nat} (x:SqI t h it l i):∃ o,h.get? it=some o/\∀ v,o.data ≠ .cell v:=by
 cases t
 ·obtain ⟨o,ho,_,d⟩:=(show h.IsListIter it l i from x)
  exact ⟨o,ho,λv z=>by rw [d] at z; cases z⟩
 ·obtain ⟨o,ho,_,d⟩:=(show h.IsTupleIter it l i from x)
  exact ⟨o,ho,λv z=>by rw [d] at z; cases z⟩
theorem SqO.at {t:Bool} {h h':Heap} {l:Addr} {xs:Array Value} (x:SqO t h l xs) (k:∀ o,h.get? l=some o->h'.get? l=some o):SqO t h' l xs:=by
 cases t
 ·obtain ⟨o,ho,r⟩:=(show h.IsList l xs from x)
  exact (show h'.IsList l xs from ⟨o,k o ho,r⟩)
 ·obtain ⟨o,ho,r⟩:=(show h.IsTuple l xs from x)
  exact (show h'.IsTuple l xs from ⟨o,k o ho,r⟩)
theorem SqO.obj {t:Bool} {h:Heap} {l:Addr} {xs:Array Value} (x:SqO t h l xs):∃ o,h.get? l=some o:=by
 cases t
 ·obtain ⟨o,ho,r⟩:=(show h.IsList l xs from x)
  exact ⟨o,ho⟩
 ·obtain ⟨o,ho,r⟩:=(show h.IsTuple l xs from x)
  exact ⟨o,ho⟩
theorem Inv.seqV {X:Cx} {pins:List (Addr × Obj)} {σ:St} {H:Hp} {s:Shared} {t:Bool} {a:Addr} {xs:List V} (I:Inv X pins σ H s) (h:SqV t X.K H a xs):∃ its:List Value,ni xs its/\SqO t s.heap a its.toArray/\xs.length<=sizeLine:=by
 cases t
 ·obtain ⟨its,r,p,z⟩:=I.list (show SqL X.K H a xs from h)
  exact ⟨its,r,p.isList,z⟩
 ·obtain ⟨its,r,p,z⟩:=I.tuple (show SqT X.K H a xs from h)
  exact ⟨its,r,p,z⟩
theorem Inv.seqV_inj {X:Cx} {pins:List (Addr × Obj)} {σ:St} {H:Hp} {s:Shared} {t:Bool} {a:Addr} {xs ys:List V} (I:Inv X pins σ H s) (h:SqV t X.K H a xs) (h':SqV t X.K H a ys):xs=ys:=by
 cases t
 ·exact I.list_inj h h'
 ·exact I.tuple_inj h h'
section
variable {prog:Program} {w:World} {A:Around} {E:Value->Shared->Prop} {s:Shared}
theorem gq {it l:Addr} {i:Nat} {items:Array Value} {x:Value} {Q:Value->Shared->Prop} (hit:s.heap.IsTupleIter it l i)
  (hl:s.heap.IsTuple l items) (hx:items[i]? = some x)
  (hQ:∀ h',h'.IsTupleIter it l (i+1)->Heap.SameBut it s.heap h'->Q x { s with heap:=h' }) :
  wpAny (model prog w) A (Builtin.SmallTypes.nextOf (.ref it)) Q E s:=by
 obtain ⟨o,ho,hc,hd⟩:=id hit
 obtain ⟨ol,hol,_,nl,hdl⟩:=hl
 unfold Builtin.SmallTypes.nextOf
 refine wpAny_bind (wpAny_callSpecial?_slot (name:=Str.ofString "__next__") hit.typeIs F.slot_tuple_iterator_next
  (wpAny_call_entry F.slot_tuple_iterator_next hit.typeIs F.entry_tuple_iterator_next ?_ (F.args_tuple_iterator_next_1 _)))
 show wpAny _ _ (field (.ref it) 0 >>= _) _ _ s
 refine wpAny_bind (wpAny_field ho hd (x:=.ref l) rfl ?_)
 show wpAny _ _ (if (Value.ref l == Value.none)=true then _ else _) _ _ s
 rw [if_neg (show ¬ ((Value.ref l == Value.none)=true) from Bool.false_ne_true)]
 show wpAny _ _ (field (.ref it) 1 >>= _) _ _ s
 refine wpAny_bind (wpAny_field ho hd (x:=.int i 0) rfl ?_)
 show wpAny _ _ (seqItems? (.ref l) >>= _) _ _ s
 refine wpAny_bind (wpAny_seqItems hol hdl ?_)
 simp only [Int.toNat_natCast,hx]
 refine wpAny_bind (wpAny_setField ho hd (by simp) (wpAny_pure ⟨x,rfl,wpAny_pure (hQ _ ?_ (Heap.SameBut.update ..))⟩))
 exact ⟨_,get?_update_self _ ho (Obj.isFreed_of_fields (Obj.data_mapFields hd _)),(Obj.cls_mapFields ..).trans hc,by
  rw [Obj.data_mapFields hd]; simp [rawInt]⟩
theorem ii {it l:Addr} {i:Nat} {items:Array Value} {Q:Value->Shared->Prop} (hh:A.handled=none)
  (hit:s.heap.IsTupleIter it l i) (hl:s.heap.IsTuple l items) (hx:items[i]? = none)
  (hE:∀ h' e,Heap.ExtBut it s.heap h'->(∃ o,h'.get? e=some o/\o.cls=.type "StopIteration")->E (.ref e) { s with heap:=h' }) :
  wpAny (model prog w) A (Builtin.SmallTypes.nextOf (.ref it)) Q E s:=by
 obtain ⟨o,ho,hc,hd⟩:=id hit
 obtain ⟨ol,hol,_,nl,hdl⟩:=hl
 unfold Builtin.SmallTypes.nextOf
 refine wpAny_bind (wpAny_callSpecial?_slot (name:=Str.ofString "__next__") hit.typeIs F.slot_tuple_iterator_next
  (wpAny_call_entry F.slot_tuple_iterator_next hit.typeIs F.entry_tuple_iterator_next ?_ (F.args_tuple_iterator_next_1 _)))
 show wpAny _ _ (field (.ref it) 0 >>= _) _ _ s
 refine wpAny_bind (wpAny_field ho hd (x:=.ref l) rfl ?_)
 show wpAny _ _ (if (Value.ref l == Value.none)=true then _ else _) _ _ s
 rw [if_neg (show ¬ ((Value.ref l == Value.none)=true) from Bool.false_ne_true)]
 show wpAny _ _ (field (.ref it) 1 >>= _) _ _ s
 refine wpAny_bind (wpAny_field ho hd (x:=.int i 0) rfl ?_)
 show wpAny _ _ (seqItems? (.ref l) >>= _) _ _ s
 refine wpAny_bind (wpAny_seqItems hol hdl ?_)
 simp only [Int.toNat_natCast,hx]
 refine wpAny_bind (wpAny_rule (wpAny_bind (wpAny_setField ho hd (by simp) ?_)))
 show wpAny _ _ (newExc (.type "StopIteration") [] >>= _) _ _ _
 refine wpAny_bind ?_
 simp only [newExc,newTuple]
 refine wpAny_bind (wpAny_newObj_type ?_ (by size_fits))
 refine wpAny_bind (m:=firstArgMember _ _) (wpAny_of_eq (a:=Value.none) (by first | rfl | (simp only [firstArgMember]; rfl)) ?_)
 refine wpAny_newObj_type ?_ (by size_fits)
 simp only [raiseNew]
 refine wpAny_bind (wpAny_handled ?_)
 first | rw [show A.in1.handled=none from hh] | rw [hh]
 refine wpAny_bind (wpAny_pure (wpAny_throw ?_))
 exact hE _ _ (((Heap.SameBut.update ..).extBut.push _).push _) ⟨_,get?_push_size _ rfl,rfl⟩
theorem eW {t:Bool} {it l:Addr} {i:Nat} {items:Array Value} {x:Value} {Q:Value->Shared->Prop} (hit:SqI t s.heap it l i)
  (hl:SqO t s.heap l items) (hx:items[i]? = some x)
  (hQ:∀ h',SqI t h' it l (i+1)->Heap.SameBut it s.heap h'->Q x { s with heap:=h' }) :
  wpAny (model prog w) A (Builtin.SmallTypes.nextOf (.ref it)) Q E s:=by
 cases t
 ·exact wpAny_nextOf_list_item hit hl hx hQ
 ·exact gq hit hl hx hQ
theorem jg {t:Bool} {it l:Addr} {i:Nat} {items:Array Value} {Q:Value->Shared->Prop} (hh:A.handled=none)
  (hit:SqI t s.heap it l i) (hl:SqO t s.heap l items) (hx:items[i]? = none)
  (hE:∀ h' e,Heap.ExtBut it s.heap h'->(∃ o,h'.get? e=some o/\o.cls=.type "StopIteration")->E (.ref e) { s with heap:=h' }) :
  wpAny (model prog w) A (Builtin.SmallTypes.nextOf (.ref it)) Q E s:=by
 cases t
 ·exact wpAny_nextOf_list_end hh hit hl hx hE
 ·exact ii hh hit hl hx hE
theorem fi {t:Bool} {l:Addr} {items:Array Value} {Q:Value->Shared->Prop} (hl:SqO t s.heap l items)
  (hQ:∀ o,SqI t (s.heap.push o) s.heap.objs.size l 0->Q (.ref s.heap.objs.size) { s with heap:=s.heap.push o }):wpAny (model prog w) A (pyIter (.ref l)) Q E s:=by
 cases t
 ·exact wpAny_pyIter_list hl (hQ _ (show Heap.IsListIter _ _ _ _ from ⟨_,get?_push_size _ rfl,rfl,rfl⟩))
 ·exact wpAny_pyIter_tuple hl (hQ _ (show Heap.IsTupleIter _ _ _ _ from ⟨_,get?_push_size _ rfl,rfl,rfl⟩))
theorem zipN_item {t1 t2:Bool} {z TI TO i1 i2 l1 l2:Addr} {k1 k2:Nat} {xs ys:Array Value} {x y a b:Value} {Q:Value->Shared->Prop} (D:ZipApart z TI TO i1 i2 l1 l2)
  (hz:IsZip s.heap z TI TO .none) (hTI:IsPair s.heap TI (.ref i1) (.ref i2)) (hTO:IsPair s.heap TO a b)
  (h1:SqI t1 s.heap i1 l1 k1) (h2:SqI t2 s.heap i2 l2 k2) (hl1:SqO t1 s.heap l1 xs) (hl2:SqO t2 s.heap l2 ys) (hx:xs[k1]? = some x) (hy:ys[k2]? = some y)
  (hQ:∀ h',IsZip h' z TI TO (rawInt s.heap.objs.size)->IsPair h' TO x y->SqI t1 h' i1 l1 (k1+1)->SqI t2 h' i2 l2 (k2+1)->IsPair h' s.heap.objs.size x y->h'.objs.size=s.heap.objs.size+1->
   (∀ c o,c ≠ z->c ≠ TO->c ≠ i1->c ≠ i2->s.heap.get? c=some o->h'.get? c=some o)->Q (.ref s.heap.objs.size) { s with heap:=h' }) :
  wpAny (model prog w) A (Builtin.«zip.__next__» ⟨[.ref z],[]⟩) (λfin s'=>∃ v,fin=.done (.ret v)/\Q v s') E s:=by
 show wpAny _ _ (field (.ref z) 2 >>= _) _ _ _
 refine wpAny_bind (wpAny_field hz rfl (x:=.bool false) rfl ?_)
 show wpAny _ _ (field (.ref z) 3 >>= _) _ _ _
 refine wpAny_bind (wpAny_field hz rfl (x:=.ref TI) rfl ?_)
 refine wpAny_bind (wpAny_seqItems hTI rfl ?_)
 show wpAny _ _ (Builtin.SmallTypes.ownedTupleIsFree (.ref z) >>= _) _ _ _
 refine wpAny_bind ?_
 unfold Builtin.SmallTypes.ownedTupleIsFree
 refine wpAny_bind (wpAny_field hz rfl (x:=.none) rfl (wpAny_pure ?_))
 simp only [if_true]
 refine wpAny_bind (wpAny_rule ?_)
 refine wpAny_bind (wpAny_field hz rfl (x:=.ref TO) rfl ?_)
 refine wpAny_bind (wpAny_setField_rec hz (by simp) λh₁ hz₁ hs₁=>?_)
 replace hz₁:IsZip h₁ z TI TO .ellipsis:=hz₁
 refine wpAny_bind ?_
 simp only [List.zipIdx_cons,List.zipIdx_nil,forIn_cons,forIn_nil]
 refine wpAny_bind (wpAny_bind (wpAny_onRaise ?_))
 show wpAny _ _ (Builtin.SmallTypes.nextOf (.ref i1) >>= _) _ _ _
 refine wpAny_bind (eW (h1.at λo e=>hs₁.extBut _ _ D.i1z e) (hl1.at λo e=>hs₁.extBut _ _ D.l1z e) hx λh₂ h1₂ hs₂=>wpAny_pure ?_)
 have hTO₂:IsPair h₂ TO a b:=hs₂.extBut _ _ D.TOi1 (hs₁.extBut _ _ D.TOz hTO)
 refine wpAny_bind (wpAny_seqItems hTO₂ rfl ?_)
 refine wpAny_bind (wpAny_updateSeq_pair hTO₂ λh₃ hTO₃ hs₃=>?_)
 replace hTO₃:IsPair h₃ TO x b:=hTO₃
 refine wpAny_bind (wpAny_letGo (wpAny_pure ?_))
 refine wpAny_bind (wpAny_bind (wpAny_onRaise ?_))
 show wpAny _ _ (Builtin.SmallTypes.nextOf (.ref i2) >>= _) _ _ _
 refine wpAny_bind (eW (h2.at λo e=>hs₃.extBut _ _ D.TOi2.symm (hs₂.extBut _ _ D.i12.symm (hs₁.extBut _ _ D.i2z e)))
  (hl2.at λo e=>hs₃.extBut _ _ D.l2TO (hs₂.extBut _ _ D.l2i1 (hs₁.extBut _ _ D.l2z e))) hy λh₄ h2₄ hs₄=>wpAny_pure ?_)
 have hTO₄:IsPair h₄ TO x b:=hs₄.extBut _ _ D.TOi2 hTO₃
 refine wpAny_bind (wpAny_seqItems hTO₄ rfl ?_)
 refine wpAny_bind (wpAny_updateSeq_pair hTO₄ λh₅ hTO₅ hs₅=>?_)
 replace hTO₅:IsPair h₅ TO x y:=hTO₅
 refine wpAny_bind (wpAny_letGo (wpAny_pure (wpAny_pure ?_)))
 refine wpAny_bind (wpAny_seqItems hTO₅ rfl ?_)
 refine wpAny_bind (wpAny_newTuple ?_)
 have hsz:h₅.objs.size=s.heap.objs.size:=by rw [hs₅.1,hs₄.1,hs₃.1,hs₂.1,hs₁.1]
 have hz₅:IsZip h₅ z TI TO .ellipsis:=hs₅.extBut _ _ D.TOz.symm (hs₄.extBut _ _ D.i2z.symm (hs₃.extBut _ _ D.TOz.symm (hs₂.extBut _ _ D.i1z.symm hz₁)))
 have hk₅:∀ c o,c ≠ z->c ≠ TO->c ≠ i1->c ≠ i2->s.heap.get? c=some o->h₅.get? c=some o:=λc o c1 c2 c3 c4 e=>
  hs₅.extBut _ _ c2 (hs₄.extBut _ _ c4 (hs₃.extBut _ _ c2 (hs₂.extBut _ _ c3 (hs₁.extBut _ _ c1 e))))
 have h1₅:SqI t1 h₅ i1 l1 (k1+1):=h1₂.at λo e=>hs₅.extBut _ _ D.TOi1.symm (hs₄.extBut _ _ D.i12 (hs₃.extBut _ _ D.TOi1.symm e))
 have h2₅:SqI t2 h₅ i2 l2 (k2+1):=h2₄.at λo e=>hs₅.extBut _ _ D.TOi2.symm e
 have hzlt:z<h₅.objs.size:=lt_size hz₅
 have hTOlt:TO<h₅.objs.size:=lt_size hTO₅
 show wpAny _ _ (Builtin.SmallTypes.ownedTupleHandOut (.ref z) (.ref h₅.objs.size) >>= _) _ _ _
 refine wpAny_bind ?_
 unfold Builtin.SmallTypes.ownedTupleHandOut
 have hz₆:IsZip (h₅.push { cls:=.type "tuple",data:=.seq #[x,y] }) z TI TO .ellipsis:=get?_push_of_some _ hz₅
 refine wpAny_bind (wpAny_setField_rec hz₆ (by simp) λh₇ hz₇ hs₇=>?_)
 replace hz₇:IsZip h₇ z TI TO (rawInt h₅.objs.size):=hz₇
 refine wpAny_setField_rec hz₇ (by simp) λh₈ hz₈ hs₈=>?_
 replace hz₈:IsZip h₈ z TI TO (rawInt h₅.objs.size):=hz₈
 have up:∀ c o,c ≠ z->h₅.get? c=some o->h₈.get? c=some o:=λc o c1 e=>hs₈.extBut _ _ c1 (hs₇.extBut _ _ c1 (get?_push_of_some _ e))
 have hT₈:IsPair h₈ h₅.objs.size x y:=hs₈.extBut _ _ (Nat.ne_of_gt hzlt) (hs₇.extBut _ _ (Nat.ne_of_gt hzlt) (get?_push_size _ rfl))
 have hz8:h₈.objs.size=h₅.objs.size+1:=by rw [hs₈.1,hs₇.1,size_push]
 rw [hsz] at hz₈ hT₈ hz8
 refine wpAny_pure ⟨_,rfl,?_⟩
 show Q (.ref h₅.objs.size) _
 rw [hsz]
 exact hQ h₈ hz₈ (up _ _ D.TOz hTO₅) (h1₅.at λo e=>up _ o D.i1z e) (h2₅.at λo e=>up _ o D.i2z e) hT₈ hz8 λc o c1 c2 c3 c4 e=>up c o c1 (hk₅ c o c1 c2 c3 c4 e)
theorem zipN_end {t1 t2:Bool} {z TI TO i1 i2 l1 l2:Addr} {k1 k2:Nat} {xs ys:Array Value} {a b:Value} {Q:PySem.Fin->Shared->Prop} (hh:A.handled=none) (D:ZipApart z TI TO i1 i2 l1 l2)
  (hz:IsZip s.heap z TI TO .none) (hTI:IsPair s.heap TI (.ref i1) (.ref i2)) (hTO:IsPair s.heap TO a b)
  (h1:SqI t1 s.heap i1 l1 k1) (h2:SqI t2 s.heap i2 l2 k2) (hl1:SqO t1 s.heap l1 xs) (hl2:SqO t2 s.heap l2 ys) (hend:xs[k1]? = none\/ys[k2]? = none)
  (hE:∀ h' e,(∀ c o,c ≠ z->c ≠ TO->c ≠ i1->c ≠ i2->s.heap.get? c=some o->h'.get? c=some o)->(∃ o,h'.get? e=some o/\o.cls=.type "StopIteration")->E (.ref e) { s with heap:=h' }) :
  wpAny (model prog w) A (Builtin.«zip.__next__» ⟨[.ref z],[]⟩) Q E s:=by
 show wpAny _ _ (field (.ref z) 2 >>= _) _ _ _
 refine wpAny_bind (wpAny_field hz rfl (x:=.bool false) rfl ?_)
 show wpAny _ _ (field (.ref z) 3 >>= _) _ _ _
 refine wpAny_bind (wpAny_field hz rfl (x:=.ref TI) rfl ?_)
 refine wpAny_bind (wpAny_seqItems hTI rfl ?_)
 show wpAny _ _ (Builtin.SmallTypes.ownedTupleIsFree (.ref z) >>= _) _ _ _
 refine wpAny_bind ?_
 unfold Builtin.SmallTypes.ownedTupleIsFree
 refine wpAny_bind (wpAny_field hz rfl (x:=.none) rfl (wpAny_pure ?_))
 simp only [if_true]
 refine wpAny_bind (wpAny_rule ?_)
 refine wpAny_bind (wpAny_field hz rfl (x:=.ref TO) rfl ?_)
 refine wpAny_bind (wpAny_setField_rec hz (by simp) λh₁ hz₁ hs₁=>?_)
 replace hz₁:IsZip h₁ z TI TO .ellipsis:=hz₁
 refine wpAny_bind ?_
 simp only [List.zipIdx_cons,List.zipIdx_nil,forIn_cons,forIn_nil]
 refine wpAny_bind (wpAny_bind (wpAny_onRaise ?_))
 show wpAny _ _ (Builtin.SmallTypes.nextOf (.ref i1) >>= _) _ _ _
 cases hx:xs[k1]? with
 | none=>
  refine wpAny_bind (jg hh (h1.at λo e=>hs₁.extBut _ _ D.i1z e) (hl1.at λo e=>hs₁.extBut _ _ D.l1z e) hx λh₂ e hs₂ he=>?_)
  obtain ⟨oe,hoe,hce⟩:=he
  have hz₂:IsZip h₂ z TI TO .ellipsis:=hs₂ _ _ D.i1z.symm hz₁
  have hez:e ≠ z:=λx=>by subst x; rw [hz₂] at hoe; cases hoe; simp at hce
  refine wpAny_setField_rec hz₂ (by simp) λh₃ _ hs₃=>hE h₃ e (λc o c1 _ c3 _ x=>hs₃.extBut _ _ c1 (hs₂ _ _ c3 (hs₁.extBut _ _ c1 x))) ⟨oe,hs₃.extBut _ _ hez hoe,hce⟩
 | some x=>
  have hy:ys[k2]? = none:=by rcases hend with h | h; rw [hx] at h; cases h; exact h
  refine wpAny_bind (eW (h1.at λo e=>hs₁.extBut _ _ D.i1z e) (hl1.at λo e=>hs₁.extBut _ _ D.l1z e) hx λh₂ h1₂ hs₂=>wpAny_pure ?_)
  have hTO₂:IsPair h₂ TO a b:=hs₂.extBut _ _ D.TOi1 (hs₁.extBut _ _ D.TOz hTO)
  refine wpAny_bind (wpAny_seqItems hTO₂ rfl ?_)
  refine wpAny_bind (wpAny_updateSeq_pair hTO₂ λh₃ hTO₃ hs₃=>?_)
  refine wpAny_bind (wpAny_letGo (wpAny_pure ?_))
  refine wpAny_bind (wpAny_bind (wpAny_onRaise ?_))
  show wpAny _ _ (Builtin.SmallTypes.nextOf (.ref i2) >>= _) _ _ _
  refine wpAny_bind (jg hh (h2.at λo e=>hs₃.extBut _ _ D.TOi2.symm (hs₂.extBut _ _ D.i12.symm (hs₁.extBut _ _ D.i2z e)))
   (hl2.at λo e=>hs₃.extBut _ _ D.l2TO (hs₂.extBut _ _ D.l2i1 (hs₁.extBut _ _ D.l2z e))) hy λh₄ e hs₄ he=>?_)
  obtain ⟨oe,hoe,hce⟩:=he
  have hz₄:IsZip h₄ z TI TO .ellipsis:=hs₄ _ _ D.i2z.symm (hs₃.extBut _ _ D.TOz.symm (hs₂.extBut _ _ D.i1z.symm hz₁))
  have hez:e ≠ z:=λx=>by subst x; rw [hz₄] at hoe; cases hoe; simp at hce
  refine wpAny_setField_rec hz₄ (by simp) λh₅ _ hs₅=>hE h₅ e (λc o c1 c2 c3 c4 x=>hs₅.extBut _ _ c1 (hs₄ _ _ c4 (hs₃.extBut _ _ c2 (hs₂.extBut _ _ c3 (hs₁.extBut _ _ c1 x))))) ⟨oe,hs₅.extBut _ _ hez hoe,hce⟩
theorem g8 {t1 t2:Bool} {z TI TO i1 i2 l1 l2:Addr} {k1 k2:Nat} {xs ys:Array Value} {x y a b:Value} {Q:Option Value->Shared->Prop} (D:ZipApart z TI TO i1 i2 l1 l2)
  (hz:IsZip s.heap z TI TO .none) (hTI:IsPair s.heap TI (.ref i1) (.ref i2)) (hTO:IsPair s.heap TO a b)
  (h1:SqI t1 s.heap i1 l1 k1) (h2:SqI t2 s.heap i2 l2 k2) (hl1:SqO t1 s.heap l1 xs) (hl2:SqO t2 s.heap l2 ys) (hx:xs[k1]? = some x) (hy:ys[k2]? = some y)
  (hQ:∀ h',IsZip h' z TI TO (rawInt s.heap.objs.size)->IsPair h' TO x y->SqI t1 h' i1 l1 (k1+1)->SqI t2 h' i2 l2 (k2+1)->IsPair h' s.heap.objs.size x y->h'.objs.size=s.heap.objs.size+1->
   (∀ c o,c ≠ z->c ≠ TO->c ≠ i1->c ≠ i2->s.heap.get? c=some o->h'.get? c=some o)->Q (some (.ref s.heap.objs.size)) { s with heap:=h' }) :
  wpAny (model prog w) A (pyNext (.ref z)) Q E s:=by
 have hT:s.TypeIs (.ref z) "zip":=⟨_,hz,rfl⟩
 unfold pyNext
 exact wpAny_bind (wpAny_attempt (wpAny_callSpecial?_slot (name:=Str.ofString "__next__") hT F.slot_zip_next
  (wpAny_call_entry F.slot_zip_next hT F.entry_zip_next
   (zipN_item D hz hTI hTO h1 h2 hl1 hl2 hx hy λh' a1 a2 a3 a4 a5 a6 a7=>wpAny_pure (hQ h' a1 a2 a3 a4 a5 a6 a7)) (F.args_zip_next_1 _))))
theorem iO {t1 t2:Bool} {z TI TO i1 i2 l1 l2:Addr} {k1 k2:Nat} {xs ys:Array Value} {a b:Value} {Q:Option Value->Shared->Prop} (hh:A.handled=none) (D:ZipApart z TI TO i1 i2 l1 l2)
  (hz:IsZip s.heap z TI TO .none) (hTI:IsPair s.heap TI (.ref i1) (.ref i2)) (hTO:IsPair s.heap TO a b)
  (h1:SqI t1 s.heap i1 l1 k1) (h2:SqI t2 s.heap i2 l2 k2) (hl1:SqO t1 s.heap l1 xs) (hl2:SqO t2 s.heap l2 ys) (hend:xs[k1]? = none\/ys[k2]? = none)
  (hQ:∀ h',(∀ c o,c ≠ z->c ≠ TO->c ≠ i1->c ≠ i2->s.heap.get? c=some o->h'.get? c=some o)->Q none { s with heap:=h' }):wpAny (model prog w) A (pyNext (.ref z)) Q E s:=by
 have hT:s.TypeIs (.ref z) "zip":=⟨_,hz,rfl⟩
 unfold pyNext
 refine wpAny_bind (wpAny_attempt (wpAny_callSpecial?_slot (name:=Str.ofString "__next__") hT F.slot_zip_next
  (wpAny_call_entry F.slot_zip_next hT F.entry_zip_next (zipN_end hh D hz hTI hTO h1 h2 hl1 hl2 hend λh' e hk he=>?_) (F.args_zip_next_1 _))))
 obtain ⟨o,ho,hc⟩:=he
 refine wpAny_bind (wpAny_isInstance (T := "StopIteration") (b:=true) ⟨o,ho,hc⟩ isSubtype_stop ?_)
 exact wpAny_pure (hQ _ hk)
end
def itObj (t:Bool) (l:Addr):Obj:=if t=true then { cls:=.type "tuple_iterator",data:=.fields #[.ref l,.int 0 0] } else { cls:=.type "list_iterator",data:=.fields #[.ref l,.int 0 0] }
theorem itObj_is {t:Bool} {h:Heap} {it l:Addr} (e:h.get? it=some (itObj t l)):SqI t h it l 0:=by
 cases t
 ·exact (show h.IsListIter it l 0 from ⟨_,e,rfl,rfl⟩)
 ·exact (show h.IsTupleIter it l 0 from ⟨_,e,rfl,rfl⟩)
abbrev zpH1 (t1:Bool) (h:Heap) (l1:Addr):Heap:=h.push (itObj t1 l1)
abbrev zpH2 (t1 t2:Bool) (h:Heap) (l1 l2:Addr):Heap:=(zpH1 t1 h l1).push (itObj t2 l2)
abbrev zpH3 (t1 t2:Bool) (h:Heap) (l1 l2:Addr):Heap:=(zpH2 t1 t2 h l1 l2).push { cls:=.type "tuple",data:=.seq #[.ref h.objs.size,.ref (zpH1 t1 h l1).objs.size] }
abbrev zpH4 (t1 t2:Bool) (h:Heap) (l1 l2:Addr):Heap:=(zpH3 t1 t2 h l1 l2).push { cls:=.type "tuple",data:=.seq #[.none,.none] }
abbrev zpH5 (t1 t2:Bool) (h:Heap) (l1 l2:Addr):Heap:=(zpH4 t1 t2 h l1 l2).push { cls:=.type "zip",data:=.fields #[.none,.bool false,.bool false,.ref (zpH2 t1 t2 h l1 l2).objs.size,.ref (zpH3 t1 t2 h l1 l2).objs.size] }
set_option maxHeartbeats 8000000 in
theorem meets_zipN (t1 t2:Bool) (l1 l2:Addr) (xs ys:Array Value) :
  Meets (Builtin.«zip.__new__» ⟨[.type "zip",.ref l1,.ref l2],[]⟩) (λ_ R s=>SqO t1 s.heap l1 xs/\SqO t2 s.heap l2 ys/\
   R (.ok (.ret (.ref (zpH4 t1 t2 s.heap l1 l2).objs.size))) { s with heap:=zpH5 t1 t2 s.heap l1 l2 }):=
 .of_wp λprog w A R s h=>by
  obtain ⟨hp,g,d,tk,os⟩:=s; obtain ⟨hl1,hl2,h⟩:=h
  have hsub:=sub_zip
  cases t1<;>cases t2
  ·have hL1:Heap.IsList (Shared.heap ⟨hp,g,d,tk,os⟩) l1 xs:=hl1
   have hL2:Heap.IsList (Shared.heap ⟨hp.push { cls:=.type "list_iterator",data:=.fields #[.ref l1,.int 0 0] },g,d,tk,os⟩) l2 ys:=Heap.IsList.push hl2 _
   wp_walk using wpAny_pyIter_list hL1,wpAny_pyIter_list hL2
   exact ⟨_,rfl,h⟩
  ·have hL1:Heap.IsList (Shared.heap ⟨hp,g,d,tk,os⟩) l1 xs:=hl1
   have hL2:Heap.IsTuple (Shared.heap ⟨hp.push { cls:=.type "list_iterator",data:=.fields #[.ref l1,.int 0 0] },g,d,tk,os⟩) l2 ys:=Heap.IsTuple.push hl2 _
   wp_walk using wpAny_pyIter_list hL1,wpAny_pyIter_tuple hL2
   exact ⟨_,rfl,h⟩
  ·have hL1:Heap.IsTuple (Shared.heap ⟨hp,g,d,tk,os⟩) l1 xs:=hl1
   have hL2:Heap.IsList (Shared.heap ⟨hp.push { cls:=.type "tuple_iterator",data:=.fields #[.ref l1,.int 0 0] },g,d,tk,os⟩) l2 ys:=Heap.IsList.push hl2 _
   wp_walk using wpAny_pyIter_tuple hL1,wpAny_pyIter_list hL2
   exact ⟨_,rfl,h⟩
  ·have hL1:Heap.IsTuple (Shared.heap ⟨hp,g,d,tk,os⟩) l1 xs:=hl1
   have hL2:Heap.IsTuple (Shared.heap ⟨hp.push { cls:=.type "tuple_iterator",data:=.fields #[.ref l1,.int 0 0] },g,d,tk,os⟩) l2 ys:=Heap.IsTuple.push hl2 _
   wp_walk using wpAny_pyIter_tuple hL1,wpAny_pyIter_tuple hL2
   exact ⟨_,rfl,h⟩
section
variable {prog:Program} {w:World} {A:Around} {E:Value->Shared->Prop} {s:Shared}
theorem call_zipN {t1 t2:Bool} {l1 l2:Addr} {xs ys:Array Value} {Q:Value->Shared->Prop} (hl1:SqO t1 s.heap l1 xs) (hl2:SqO t2 s.heap l2 ys)
  (h:∀ h',IsZip h' (s.heap.objs.size+4) (s.heap.objs.size+2) (s.heap.objs.size+3) .none->IsPair h' (s.heap.objs.size+2) (.ref s.heap.objs.size) (.ref (s.heap.objs.size+1))->
   IsPair h' (s.heap.objs.size+3) .none .none->SqI t1 h' s.heap.objs.size l1 0->SqI t2 h' (s.heap.objs.size+1) l2 0->h'.objs.size=s.heap.objs.size+5->
   (∀ c o,s.heap.get? c=some o->h'.get? c=some o)->Q (.ref (s.heap.objs.size+4)) { s with heap:=h' }) :
  wpAny (model prog w) A (call (.type "zip") [.ref l1,.ref l2]) Q E s:=by
 refine callType_new F.called_zip (by decide) (F.typeCall_zip_2 _ _) (F.newCall_zip_2 _ _) (λobj=>F.args_object_init_3 obj _ _) F.entry_zip_new
  (meets_zipN t1 t2 l1 l2 xs ys) ⟨hl1,hl2,?_⟩
 have fr:∀ t l,(itObj t l).isFreed=false:=λt l=>by cases t<;>rfl
 have z1:(zpH1 t1 s.heap l1).objs.size=s.heap.objs.size+1:=size_push ..
 have z2:(zpH2 t1 t2 s.heap l1 l2).objs.size=s.heap.objs.size+2:=by rw [size_push,z1]
 have z3:(zpH3 t1 t2 s.heap l1 l2).objs.size=s.heap.objs.size+3:=by rw [size_push,z2]
 have z4:(zpH4 t1 t2 s.heap l1 l2).objs.size=s.heap.objs.size+4:=by rw [size_push,z3]
 have z5:(zpH5 t1 t2 s.heap l1 l2).objs.size=s.heap.objs.size+5:=by rw [size_push,z4]
 have g5:(zpH5 t1 t2 s.heap l1 l2).get? (zpH4 t1 t2 s.heap l1 l2).objs.size=some _:=get?_push_size _ rfl
 have g4:(zpH5 t1 t2 s.heap l1 l2).get? (zpH3 t1 t2 s.heap l1 l2).objs.size=some _:=get?_push_of_some _ (get?_push_size _ rfl)
 have g3:(zpH5 t1 t2 s.heap l1 l2).get? (zpH2 t1 t2 s.heap l1 l2).objs.size=some _:=get?_push_of_some _ (get?_push_of_some _ (get?_push_size _ rfl))
 have g2:(zpH5 t1 t2 s.heap l1 l2).get? (zpH1 t1 s.heap l1).objs.size=some _:=get?_push_of_some _ (get?_push_of_some _ (get?_push_of_some _ (get?_push_size _ (fr t2 l2))))
 have g1:(zpH5 t1 t2 s.heap l1 l2).get? s.heap.objs.size=some _:=get?_push_of_some _ (get?_push_of_some _ (get?_push_of_some _ (get?_push_of_some _ (get?_push_size _ (fr t1 l1)))))
 show _/\_
 rw [z2,z3,z4] at g5
 rw [z1,z2] at g3
 rw [z3] at g4
 rw [z1] at g2
 rw [z4]
 exact ⟨⟨_,g5,rfl⟩,h _ g5 g3 g4 (itObj_is g1) (itObj_is g2) z5 λc o x=>
  get?_push_of_some _ (get?_push_of_some _ (get?_push_of_some _ (get?_push_of_some _ (get?_push_of_some _ x))))⟩
end
def Itz (t1 t2:Bool) (K:Frag) (a b:Addr):It:=
 ⟨λi H=>∃ xs ys x y,SqV t1 K H a xs/\SqV t2 K H b ys/\xs[i]? = some x/\ys[i]? = some y,
  λi H v H'=>∃ p x y,v=.ref p/\H p=none/\H'=upd H p (.tup [x,y])/\(∀ xs,SqV t1 K H a xs->xs[i]? = some x)/\∀ ys,SqV t2 K H b ys->ys[i]? = some y,
  λi H=>∃ xs ys,SqV t1 K H a xs/\SqV t2 K H b ys/\(xs.length<=i\/ys.length<=i)⟩
def Zst (t1 t2:Bool) (z TI TO i1 i2 a b:Addr) (i:Nat) (h:Heap):Prop:=
 IsZip h z TI TO .none/\IsPair h TI (.ref i1) (.ref i2)/\(∃ x y,IsPair h TO x y)/\SqI t1 h i1 a i/\SqI t2 h i2 b i
structure ZDist (z TI TO i1 i2:Addr):Prop where
 TIz:TI ≠ z
 TOz:TO ≠ z
 i1z:i1 ≠ z
 i2z:i2 ≠ z
 TITO:TI ≠ TO
 TIi1:TI ≠ i1
 TIi2:TI ≠ i2
 TOi1:TO ≠ i1
 TOi2:TO ≠ i2
 i12:i1 ≠ i2
theorem Inv.turnedN {X:Cx} {pins:List (Addr × Obj)} {σ:St} {H:Hp} {s:Shared} {h':Heap} {t':Nat} {fp:List Addr} (I:Inv X pins σ H s) (k:∀ b o,b ∉ fp->s.heap.get? b=some o->h'.get? b=some o) (hf:∀ b ∈ fp,nI X pins H b):Inv X pins σ H { s with heap:=h',toks:=t' }:=by
 have nit:∀ b u,H b=some u->b ∉ fp:=λb u e z=>by rw [(hf b z).1] at e; cases e
 refine I.step (g':=s.gens) (d':=s.drawn) (ch:=fp) (λb hb=>?_) (λb o _ _ hc e _=>k b o hc e) (λb o _ _ hc e _=>⟨o.slots,k b o hc e⟩) (λ_ _ _ _ n=>n)
  (λb o hc e=>⟨o,k b o hc e⟩) (λ_ _ e=>e) (λ_ _ _ e=>e) (λb ps e=>⟨#[],by rw [e]; simp⟩) (λm hm=>?_) (λb u e=>?_) I.bare
 ·obtain ⟨f0,f1,f2,f3,f4,f5⟩:=hf b hb
  exact ⟨f3,f1,f4,f5⟩
 ·obtain ⟨o,es,ep,ho,r⟩:=hm
  exact ⟨o,es,ep,k _ o (λz=>(hf _ z).2.1 rfl) ho,r⟩
 ·refine (I.hok b u e).stay (λc v hc q=>k c v ?_ q) (λ_ q=>q) λ_ _ q=>q
  rcases hc with z | z
  ·rw [z]; exact nit b u e
  ·exact nit c _ z
theorem zdist (n:Nat):ZDist (n+4) (n+2) (n+3) n (n+1):=by
 constructor<;>(intro h; have h':(_:Nat)=_:=h; omega)
theorem eC {X:Cx} {pins:List (Addr × Obj)} {σ:St} {H:Hp} {s:Shared} {fp:List Addr} {t:Bool} {l:Addr} {vs:List V} (I:Inv X pins σ H s) (hf:∀ b ∈ fp,nI X pins H b) (q:SqV t X.K H l vs):l ∉ fp:=λhl=>by
 have hn:=hf l hl
 have old:∀ o,X.K.lookup l=some o->False:=λo hk=>by
  rcases hn.2.2.2.1 with z' | z'
  ·exact I.ok.noex l o (I.ok.mod.kin l o hk) z'
  ·exact absurd (Nat.lt_of_lt_of_le (lt_size (I.ok.bs l o (I.ok.mod.kin l o hk)).1) z') (Nat.lt_irrefl _)
 cases t
 ·rcases (show SqL X.K H l vs from q) with (q | ⟨o,q⟩) | ⟨o,_,_,hk,_⟩
  ·rw [hn.1] at q; cases q
  ·rw [hn.1] at q; cases q
  ·exact old o hk
 ·rcases (show SqT X.K H l vs from q) with (q | ⟨o,q⟩) | ⟨o,_,_,hk,_⟩
  ·rw [hn.1] at q; cases q
  ·rw [hn.1] at q; cases q
  ·exact old o hk
theorem turn_zip {P:Program} {w:World} {K:Frag} {es:List Expr} {ek:Nat} {ep:Pos} {t1 t2:Bool} (a b z TI TO i1 i2:Addr) (D:ZDist z TI TO i1 i2) :
  jX P w K (.Tuple es ek ep) (Itz t1 t2 K a b) [z,TI,TO,i1,i2] z (Zst t1 t2 z TI TO i1 i2 a b) where
 mem:=by simp
 obj:=λi h ⟨hz,hTI,⟨x,y,hTO⟩,h1,h2⟩ c hc=>by
  simp only [mem_cons,not_mem_nil,or_false] at hc
  rcases hc with rfl | rfl | rfl | rfl | rfl
  ·exact ⟨_,hz,λv z=>by cases z⟩
  ·exact ⟨_,hTI,λv z=>by cases z⟩
  ·exact ⟨_,hTO,λv z=>by cases z⟩
  ·exact h1.obj
  ·exact h2.obj
 keep:=λi h h' ⟨hz,hTI,⟨x,y,hTO⟩,h1,h2⟩ k=>
  ⟨k z (by simp) _ hz,k TI (by simp) _ hTI,⟨x,y,k TO (by simp) _ hTO⟩,h1.at λo e=>k i1 (by simp) o e,h2.at λo e=>k i2 (by simp) o e⟩
 item:=by
  intro X hP hw hK hc i pins s σ H E I hf st hg
  subst hP hw hK
  obtain ⟨xs,ys,x,y,qx,qy,hx,hy⟩:=hg
  obtain ⟨hz,hTI,⟨xo,yo,hTO⟩,h1,h2⟩:=st
  obtain ⟨ix,rx,px,zx⟩:=I.seqV qx
  obtain ⟨iy,ry,py,zy⟩:=I.seqV qy
  obtain ⟨u,hu,ru⟩:=rx.get hx
  obtain ⟨v,hv,rv⟩:=ry.get hy
  have inFp:∀ c,c ∈ [z,TI,TO,i1,i2]->H c=none:=λc hc=>(hf c hc).1
  have na:=eC I hf qx
  have nb:=eC I hf qy
  simp only [mem_cons,not_mem_nil,or_false,not_or] at na nb
  have DA:ZipApart z TI TO i1 i2 a b:=⟨D.TIz,D.TOz,D.i1z,D.i2z,D.TITO,D.TIi1,D.TIi2,D.TOi1,D.TOi2,D.i12,na.1,na.2.2.1,na.2.2.2.1,na.2.2.2.2,nb.1,nb.2.2.1,nb.2.2.2.1,nb.2.2.2.2⟩
  refine g8 DA hz hTI hTO h1 h2 px py (x:=u) (y:=v) (by simpa using hu) (by simpa using hv) λh' a1 a2 a3 a4 a5 a6 hk=>?_
  refine ⟨_,rfl,wpAny_letOwnedTupleGo_zip a1 λh'' hz'' sb=>?_⟩
  have kk:∀ c o,c ∉ [z,TI,TO,i1,i2]->s.heap.get? c=some o->h''.get? c=some o:=λc o hc e=>by
   simp only [mem_cons,not_mem_nil,or_false,not_or] at hc
   exact (sb.2 c hc.1).trans (hk c o hc.1 hc.2.2.1 hc.2.2.2.1 hc.2.2.2.2 e)
  have lt5:∀ c ∈ [z,TI,TO,i1,i2],c<s.heap.objs.size:=λc hc=>by
   simp only [mem_cons,not_mem_nil,or_false] at hc
   rcases hc with rfl | rfl | rfl | rfl | rfl
   ·exact lt_size hz
   ·exact lt_size hTI
   ·exact lt_size hTO
   ·obtain ⟨o,e,_⟩:=h1.obj; exact lt_size e
   ·obtain ⟨o,e,_⟩:=h2.obj; exact lt_size e
  have nT:s.heap.objs.size ∉ [z,TI,TO,i1,i2]:=λhc=>absurd (lt5 _ hc) (Nat.lt_irrefl _)
  have hT:h''.get? s.heap.objs.size=some { cls:=.type "tuple",data:=.seq #[u,v] }:=(sb.2 _ (λe=>nT (by simp [e]))).trans a5
  have fresh:H s.heap.objs.size=none:=I.hok.fresh (Nat.le_refl _)
  have gT:(s.heap.push { cls:=.type "tuple",data:=.seq #[u,v] }).get? s.heap.objs.size=some { cls:=.type "tuple",data:=.seq #[u,v] }:=get?_push_size _ rfl
  have I1:Inv X pins σ (upd H s.heap.objs.size (.tup [x,y])) { s with heap:=s.heap.push { cls:=.type "tuple",data:=.seq #[u,v] },toks:=s.toks }:=
   I.laid (λb o e=>get?_push_of_some _ e) (Nat.le_refl _) ⟨by show 2<=sizeLine; decide,[u,v],.cons ru (.cons rv .nil),_,gT,rfl,_,rfl⟩
  have fp1:∀ c ∈ [z,TI,TO,i1,i2],nI X pins (upd H s.heap.objs.size (.tup [x,y])) c:=λc hc=>
   ⟨by rw [am (Nat.ne_of_lt (lt5 c hc))]; exact (hf c hc).1,(hf c hc).2⟩
  have I2:=I1.turnedN (h':=h'') (t':=s.toks) (fp:=[z,TI,TO,i1,i2]) (λc o hc e=>by
   rcases get?_push_cases e with ⟨e1,e2⟩ | e1
   ·rw [e1,e2]
    exact hT
   ·exact kk c o hc e1) fp1
  refine ⟨.ref s.heap.objs.size,_,I2,rfl,⟨_,x,y,rfl,fresh,rfl,λxs' q=>by rw [I.seqV_inj q qx]; exact hx,λys' q=>by rw [I.seqV_inj q qy]; exact hy⟩,?_,λc hc=>(fp1 c hc).1⟩
  exact ⟨hz'',(sb.2 _ D.TIz).trans (hk _ _ D.TIz D.TITO D.TIi1 D.TIi2 hTI),⟨u,v,(sb.2 _ D.TOz).trans a2⟩,a3.at λo e=>(sb.2 _ D.i1z).trans e,a4.at λo e=>(sb.2 _ D.i2z).trans e⟩
 done:=by
  intro X hP hw hK hc i pins s σ H E I hf st hg
  subst hP hw hK
  obtain ⟨xs,ys,qx,qy,hend⟩:=hg
  obtain ⟨hz,hTI,⟨xo,yo,hTO⟩,h1,h2⟩:=st
  obtain ⟨ix,rx,px,zx⟩:=I.seqV qx
  obtain ⟨iy,ry,py,zy⟩:=I.seqV qy
  have na:=eC I hf qx
  have nb:=eC I hf qy
  simp only [mem_cons,not_mem_nil,or_false,not_or] at na nb
  have DA:ZipApart z TI TO i1 i2 a b:=⟨D.TIz,D.TOz,D.i1z,D.i2z,D.TITO,D.TIi1,D.TIi2,D.TOi1,D.TOi2,D.i12,na.1,na.2.2.1,na.2.2.2.1,na.2.2.2.2,nb.1,nb.2.2.1,nb.2.2.2.1,nb.2.2.2.2⟩
  have lx:=rx.length
  have ly:=ry.length
  refine iO (I.ok.hd hc) DA hz hTI hTO h1 h2 px py ?_ λh' hk=>⟨rfl,I.turnedN (t':=s.toks) (λc o hc e=>?_) hf⟩
  ·rcases hend with q | q
   ·exact .inl (by simp; omega)
   ·exact .inr (by simp; omega)
  ·simp only [mem_cons,not_mem_nil,or_false,not_or] at hc
   exact hk c o hc.1 hc.2.2.1 hc.2.2.2.1 hc.2.2.2.2 e
 self:=λ_ _ _ _ _ st h=>wpAny_pyIter_zip st.1 h
def iZip (t1 t2:Bool) (K:Frag) (ta:TA):TI:=λσ H R=>ta σ H λvs H1=>∃ a b,vs=[.ref a,.ref b]/\(∃ xs,SqV t1 K H1 a xs)/\(∃ ys,SqV t2 K H1 b ys)/\R (Itz t1 t2 K a b) H1
theorem pi_zip {X:Cx} (t1 t2:Bool) {es:List Expr} {ek:Nat} {ep:Pos} {a b:Expr} {ta:TA} {p pos:Pos} (hg:Gl X "zip") (hm:X.mg "zip" = none) (ha:PA X [a,b] ta) (hs:starEach [a,b] X.env=[(false,eval a X.env),(false,eval b X.env)]:=by rfl) (hs2:starEach [b] X.env=[(false,eval b X.env)]:=by rfl) :
  PI X (.Tuple es ek ep) (.Call (.Name "zip" p) [a,b] [] pos) (iZip t1 t2 X.K ta):=by
 intro pins s σ H R I h
 refine Call_ (dO I hg hm boot_zip (PyProof.Rows.callWith_type1 (thn (ha pos pins s σ H _ I h) λus s1 ⟨vs,H1,I1,r1,q1⟩=>?_) (by rw [hs,hs2]) (by rw [hs2]; rfl)))
 obtain ⟨l1,l2,e,⟨xs,qx⟩,⟨ys,qy⟩,q⟩:=q1
 subst e
 cases r1 with
 | cons r rr=>
  cases rr with
  | cons r' rr=>
   cases rr
   cases r
   cases r'
   obtain ⟨ix,rx,px,zx⟩:=I1.seqV qx
   obtain ⟨iy,ry,py,zy⟩:=I1.seqV qy
   refine call_zipN px py λh' a1 a2 a3 a4 a5 a6 a7=>?_
   have I2:Inv X pins σ H1 { s1 with heap:=h',toks:=s1.toks }:=I1.kept a7
   refine wpAny_pyIter_zip (s:={ s1 with heap:=h' }) a1 ?_
   refine ⟨_,[s1.heap.objs.size+4,s1.heap.objs.size+2,s1.heap.objs.size+3,s1.heap.objs.size,s1.heap.objs.size+1],_,_,H1,rfl,I2,turn_zip l1 l2 (s1.heap.objs.size+4) (s1.heap.objs.size+2) (s1.heap.objs.size+3) s1.heap.objs.size (s1.heap.objs.size+1) (zdist _),⟨a1,a2,⟨_,_,a3⟩,a4,a5⟩,λb hb=>?_,q⟩
   have hb':s1.heap.objs.size<=b:=by
    simp only [mem_cons,not_mem_nil,or_false] at hb
    rcases hb with rfl | rfl | rfl | rfl | rfl
    ·exact Nat.le_add_right _ _
    ·exact Nat.le_add_right _ _
    ·exact Nat.le_add_right _ _
    ·exact Nat.le_refl _
    ·exact Nat.le_add_right _ _
   exact I1.fpOk hb' (I1.hok.fresh hb')
mutual
inductive DR (K:Frag) (H:Hp):PyData->V->Prop
 | non:DR K H .none .non
 | bl (b:Bool):DR K H (.bool b) (.bl b)
 | int (i:Int):DR K H (.int i) (.int i)
 | str (x:Str):DR K H (.str x) (.str x)
 | tup {a:Addr} {vs:List V} {ds:List PyData}:SqT K H a vs->DRs K H ds vs->DR K H (.tuple ds) (.ref a)
 | lst {a:Addr} {vs:List V} {ds:List PyData}:SqL K H a vs->DRs K H ds vs->DR K H (.list ds) (.ref a)
inductive DRs (K:Frag) (H:Hp):List PyData->List V->Prop
 | nil:DRs K H [] []
 | cons {d:PyData} {v:V} {ds:List PyData} {vs:List V}:DR K H d v->DRs K H ds vs->DRs K H (d::ds) (v::vs)
end
section
variable {X:Cx} {pins:List (Addr × Obj)} {σ:St} {H:Hp} {s:Shared}
mutual
theorem DR.reads (I:Inv X pins σ H s):∀ {d:PyData} {v:V} {u:Value},DR X.K H d v->m8 v u->∃ as,Reads s.heap u d as
 | _,_,_,.non,r=>by cases (show _=Value.none from r); exact ⟨_,.none⟩
 | _,_,_,.bl b,r=>by cases (show _=Value.bool b from r); exact ⟨_,.bool b⟩
 | _,_,_,.int i,r=>by obtain ⟨t,q⟩:=(show ∃ t,_=Value.int i t from r); subst q; exact ⟨_,.int i t⟩
 | _,_,_,.str x,r=>by obtain ⟨t,q⟩:=(show ∃ t,_=Value.str x t from r); subst q; exact ⟨_,.str x t⟩
 | _,_,_,.tup (a:=a) q qs,r=>by
  cases (show _=Value.ref a from r)
  obtain ⟨its,rv,⟨o,e,c,n,d⟩,z⟩:=I.tuple q
  obtain ⟨as,ra⟩:=DRs.reads I qs rv
  exact ⟨as,.tuple e c d (by simpa using ra)⟩
 | _,_,_,.lst (a:=a) q qs,r=>by
  cases (show _=Value.ref a from r)
  obtain ⟨its,rv,⟨o,n,e,c,_,d⟩,z⟩:=I.list q
  obtain ⟨as,ra⟩:=DRs.reads I qs rv
  exact ⟨_,.list e c d (by simpa using ra)⟩
theorem DRs.reads (I:Inv X pins σ H s):∀ {ds:List PyData} {vs:List V} {us:List Value},DRs X.K H ds vs->ni vs us->∃ as,ReadsAll s.heap us ds as
 | _,_,_,.nil,r=>by cases r; exact ⟨_,.nil⟩
 | _,_,_,.cons q qs,r=>by
  cases r with
  | cons r rr=>
   obtain ⟨as,ra⟩:=DR.reads I q r
   obtain ⟨bs,rb⟩:=DRs.reads I qs rr
   exact ⟨_,.cons ra rb⟩
end
def rEqD (K:Frag):R2:=λx y H Q=>∃ d e,DR K H d x/\DR K H e y/\SeqAt.shaped d=true/\SeqAt.shaped e=true/\Q (.bl (PyData.eqv d e)) H
def rNeD (K:Frag):R2:=λx y H Q=>∃ d e,DR K H d x/\DR K H e y/\SeqAt.shaped d=true/\SeqAt.shaped e=true/\Q (.bl (!PyData.eqv d e)) H
theorem op_eqD (hu:X.A.units+64<cLine):OpR X (compareOp .Eq) (rEqD X.K):=by
 intro pins s σ H x y v u Q I rx ry h
 obtain ⟨d,e,dx,dy,sx,sy,q⟩:=h
 obtain ⟨as,ra⟩:=dx.reads I rx
 obtain ⟨bs,rb⟩:=dy.reads I ry
 exact eq_dataH ra rb sx sy hu ⟨.bl _,H,I,rfl,q⟩
theorem op_neD (hu:X.A.units+64<cLine):OpR X (compareOp .NotEq) (rNeD X.K):=by
 intro pins s σ H x y v u Q I rx ry h
 obtain ⟨d,e,dx,dy,sx,sy,q⟩:=h
 obtain ⟨as,ra⟩:=dx.reads I rx
 obtain ⟨bs,rb⟩:=dy.reads I ry
 exact ne_dataH ra rb sx sy hu ⟨.bl _,H,I,rfl,q⟩
end
def ef (ns:List Int):PyData:=.tuple (ns.map .int)
theorem drs_ints {K:Frag} {H:Hp}:∀ ns:List Int,DRs K H (ns.map PyData.int) (ns.map V.int)
 | []=>.nil
 | n::r=>.cons (.int n) (drs_ints r)
theorem dM {K:Frag} {H:Hp} {a:Addr} {ns:List Int} (h:SqT K H a (ns.map V.int)):DR K H (ef ns) (.ref a):=.tup h (drs_ints ns)
theorem bL (ns:List Int):SeqAt.shaped (ef ns)=true:=by
 simp [ef,SeqAt.shaped,PyData.canLay0,PyData.depth,PySem.W.ke_canLayAll0,PySem.W.ke_depthAll]
theorem iN:∀ ns ms:List Int,PyData.eqvAll (ns.map PyData.int) (ms.map PyData.int)=decide (ns=ms)
 | [],[]=>by simp [PyData.eqvAll]
 | [],_::_=>by simp [PyData.eqvAll]
 | _::_,[]=>by simp [PyData.eqvAll]
 | a::r,b::t=>by
  simp only [map_cons,PyData.eqvAll,PyData.eqv,iN r t]
  by_cases h:a=b<;>by_cases h':r=t<;>simp [h,h']
theorem jS (ns ms:List Int):PyData.eqv (ef ns) (ef ms)=decide (ns=ms):=by
 simp only [ef,PyData.eqv]; exact iN ns ms
section
variable {X:Cx}
theorem Walks.sq {prog:Program} {w:World} {A:Around} (t:Bool) (hh:A.handled=none) (I ax:Addr) (hne:ax ≠ I) (items:Array Value) :
  Walks prog w A I [I,ax] [I] items.size (λi v=>items[i]? = some v) (λi h=>SqI t h I ax i/\SqO t h ax items):=by
 cases t
 ·exact Walks.list hh I ax hne items
 ·exact Walks.tuple hh I ax hne items
theorem call_allV (hc:X.calm=true) (t:Bool):cA X (.builtin "all") (λxs H Q=>∃ (p:Addr) (bs:List Bool),xs=[.ref p]/\SqV t X.K H p (bs.map V.bl)/\Q (.bl (bs.all id)) H):=by
 intro pins s σ H xs us Q I rv h
 obtain ⟨p,bs,rfl,q,hq⟩:=h
 obtain ⟨u,rfl,ru⟩:=fG rv
 cases ru
 obtain ⟨its,rb,po,z⟩:=I.seqV q
 have hh:X.A.in1.handled=none:=I.ok.hd hc
 refine call_all_walk (fi po λo hi=>?_)
 have hlt:p<s.heap.objs.size:=by obtain ⟨ob,e⟩:=po.obj; exact lt_size e
 refine ⟨s.heap.objs.size,_,_,_,_,_,λi=>bs.getD i false,rfl,Walks.sq t hh s.heap.objs.size p (Nat.ne_of_lt hlt) its.toArray,⟨hi,po.at λo' e=>get?_push_of_some _ e⟩,?_,λh' tk hk=>?_⟩
 ·intro i v s' Q' E' hv hQ
  have hv':its[i]? = some v:=by simpa using hv
  have hlen:=rb.length
  have hil:i<its.length:=(List.getElem?_eq_some_iff.mp hv').1
  rw [length_map] at hlen
  have hb:(bs.map V.bl)[i]? = some (.bl (bs.getD i false)):=by
   rw [getElem?_map,getD_eq_getElem?_getD,getElem?_eq_getElem (by omega)]
   rfl
  obtain ⟨u,hu,ru⟩:=rb.get hb
  rw [hv'] at hu
  cases hu
  cases (show v=Value.bool _ from ru)
  exact wpAny_truthy_bool hQ
 ·have I1:Inv X pins σ H { s with heap:=s.heap.push o,toks:=s.toks }:=I.kept λb u e=>get?_push_of_some _ e
  have fp:nI X pins H s.heap.objs.size:=I.fpOk (Nat.le_refl _) (I.hok.fresh (Nat.le_refl _))
  have I2:Inv X pins σ H { s with heap:=h',toks:=tk }:=by
   have:=I1.turnedN (fp:=[s.heap.objs.size]) (h':=h') (t':=tk) (λb ob hb e=>hk b ob hb e) (λb hb=>by have e:b=s.heap.objs.size:=by simpa using hb
                                                                                                     subst e; exact fp)
   exact this
  refine ⟨.bl (bs.all id),H,I2,?_,hq⟩
  show Value.bool _=Value.bool _
  congr 1
  have hlen:=rb.length
  rw [length_map] at hlen
  have hsz:its.toArray.size=bs.length:=by simp [hlen]
  rw [hsz]
  rw [Bool.eq_iff_iff]
  simp only [all_eq_true,List.mem_range]
  constructor
  ·intro h b hb
   obtain ⟨i,hi,rfl⟩:=getElem_of_mem hb
   have:=h i hi
   simpa [getD_eq_getElem?_getD,getElem?_eq_getElem hi] using this
  ·intro h i hi
   have:=h (bs[i]) (getElem_mem hi)
   simpa [getD_eq_getElem?_getD,getElem?_eq_getElem hi] using this
theorem preSum_list (ns:List Int):∀ k,k<=ns.length->preSum (λi=>ns.getD i 0) k=(ns.take k).sum:=by
 intro k
 induction k with
 | zero=>intro _; rfl
 | succ k ih=>
  intro h
  have e:=ih (by omega)
  show preSum _ k+_=_
  rw [e,take_succ,sum_append,getElem?_eq_getElem (by omega)]
  show _+ns.getD k 0=_
  rw [getD_eq_getElem?_getD,getElem?_eq_getElem (by omega)]
  simp
theorem call_sumV (hc:X.calm=true) (t:Bool):cA X (.builtin "sum") (λxs H Q=>∃ (p:Addr) (ns:List Int),xs=[.ref p]/\SqV t X.K H p (ns.map V.int)/\Q (.int ns.sum) H):=by
 intro pins s σ H xs us Q I rv h
 obtain ⟨p,ns,rfl,q,hq⟩:=h
 obtain ⟨u,rfl,ru⟩:=fG rv
 cases ru
 obtain ⟨its,rb,po,z⟩:=I.seqV q
 have hh:X.A.in1.handled=none:=I.ok.hd hc
 refine call_sum_walkG (fi po λo hi=>?_)
 have hlt:p<s.heap.objs.size:=by obtain ⟨ob,e⟩:=po.obj; exact lt_size e
 refine ⟨s.heap.objs.size,_,_,_,_,_,λi=>ns.getD i 0,rfl,Walks.sq t hh s.heap.objs.size p (Nat.ne_of_lt hlt) its.toArray,⟨hi,po.at λo' e=>get?_push_of_some _ e⟩,λb hb=>?_,?_,λh' tk t' hk=>?_⟩
 ·show b<(s.heap.push o).objs.size
  rw [size_push]
  rcases List.mem_cons.mp hb with rfl | hb
  ·exact Nat.lt_succ_self _
  ·rcases List.mem_cons.mp hb with rfl | hb
   ·exact Nat.lt_succ_of_lt hlt
   ·cases hb
 ·intro i v hv
  have hv':its[i]? = some v:=by simpa using hv
  have hlen:=rb.length
  have hil:i<its.length:=(List.getElem?_eq_some_iff.mp hv').1
  rw [length_map] at hlen
  have hb:(ns.map V.int)[i]? = some (.int (ns.getD i 0)):=by
   rw [getElem?_map,getD_eq_getElem?_getD,getElem?_eq_getElem (by omega)]
   rfl
  obtain ⟨u,hu,ru⟩:=rb.get hb
  rw [hv'] at hu
  cases hu
  exact ru
 ·have I1:Inv X pins σ H { s with heap:=s.heap.push o,toks:=s.toks }:=I.kept λb u e=>get?_push_of_some _ e
  have fp:nI X pins H s.heap.objs.size:=I.fpOk (Nat.le_refl _) (I.hok.fresh (Nat.le_refl _))
  have I2:Inv X pins σ H { s with heap:=h',toks:=tk }:=by
   have:=I1.turnedN (fp:=[s.heap.objs.size]) (h':=h') (t':=tk) (λb ob hb e=>hk b ob hb e) (λb hb=>by have e:b=s.heap.objs.size:=by simpa using hb
                                                                                                     subst e; exact fp)
   exact this
  have hlen:=rb.length
  rw [length_map] at hlen
  have hsz:its.toArray.size=ns.length:=by simp [hlen]
  refine ⟨.int ns.sum,H,I2,⟨t',?_⟩,hq⟩
  rw [hsz,preSum_list ns _ (Nat.le_refl _),take_of_length_le (Nat.le_refl _)]
end
end L2
namespace L2
open PySem PySem.Spec PyProof.Rows
section
variable {X:Cx} {pos:Pos}
def rIsT (K:Frag):List V->Hp->VK->Prop:=λxs H Q=>∃ (x:V) (t:Value) (c:String) (b:Bool),xs=[x,.ty c]/\TyOf K H x t/\kitOne K t (.type c)=some b/\Q (.bl b) H
theorem call_isT:cA X (.builtin "isinstance") (rIsT X.K):=by
 intro pins s σ H xs us Q I rv h
 obtain ⟨x,t,c,b,rfl,ty,e,q⟩:=h
 obtain ⟨u,u',rfl,r1,r2⟩:=kT rv
 cases (show u'=Value.type c from r2)
 exact isinst_ok I r1 ty e λtk=>⟨.bl b,H,I.tok tk,rfl,q⟩
theorem iL:bootBuiltins "isinstance"=some (.builtin "isinstance"):=by decide +kernel
theorem boot_all':bootBuiltins "all"=some (.builtin "all"):=by decide +kernel
theorem boot_sum':bootBuiltins "sum"=some (.builtin "sum"):=by decide +kernel
theorem io:bootBuiltins "max"=some (.builtin "max"):=by decide +kernel
theorem lj:bootBuiltins "min"=some (.builtin "min"):=by decide +kernel
theorem boot_abs':bootBuiltins "abs"=some (.builtin "abs"):=by decide +kernel
theorem iu:bootBuiltins "tuple"=some (.type "tuple"):=by decide +kernel
theorem boot_list':bootBuiltins "list"=some (.type "list"):=by decide +kernel
theorem fz:bootBuiltins "int"=some (.type "int"):=by decide +kernel
theorem boot_bool':bootBuiltins "bool"=some (.type "bool"):=by decide +kernel
theorem ip:bootBuiltins "ValueError"=some (.type "ValueError"):=by decide +kernel
theorem bD:OpR X (binaryOp .Mult) (rI IntMulOk λi j=>.int (i*j)):=opI λ_ _ _ _ _ _ _ hc q=>mul_int q hc
end
structure FnB (P:Program) (w:World) (K:Frag) (mg:Str->Option Value) (base:Heap) (k:Nat) (x:Str) (sp:Sp):Prop where
 ex:∃ f fd ps,nk P w K mg base CX0 k f fd ps sp/\mg x=some (.ref f)/\keepIn K (.ref f)=true/\nY K fd ps []
structure Blt (mg:Str->Option Value):Prop where
 len:mg "len" = none
 range:mg "range" = none
 zip:mg "zip" = none
 all:mg "all" = none
 sum:mg "sum" = none
 max:mg "max" = none
 min:mg "min" = none
 abs:mg "abs" = none
 tuple:mg "tuple" = none
 list:mg "list" = none
 int:mg "int" = none
 bool:mg "bool" = none
 isinst:mg "isinstance" = none
 enum:mg "enumerate" = none
 sorted:mg "sorted" = none
 set:mg "set" = none
 str:mg "str" = none
section
variable {X:Cx} {p pos:Pos} {e e2:Expr} {es:List Expr} {t:TA} {te te2:TE}
theorem au {x:Str} {k:Nat} {sp:Sp} (F:FnB X.prog X.w X.K X.mg X.base k x sp) (hr:nC k X.A) (ha:PA X (e::es) t) (hg:Gl X x:=by rfl) (hdb:(x == ("__debug__" : Str))=false:=by decide)
  (he:starEach (e::es) X.env=(false,eval e X.env)::starEach es X.env:=by rfl) (hpl:(backTo pos (starEach es X.env)).any (·.1)=false:=by rfl):PE X (.Call (.Name x p) (e::es) [] pos) (tCall sp [] E0 t):=by
 obtain ⟨f,fd,ps,F',hm,hk,hb⟩:=F.ex
 exact pe_call F' hr hg hm hk hb .nil pass0 ha hdb he hpl
theorem pl_len (T:Blt X.mg) (ha:PE X e te) (hg:Gl X "len":=by rfl) (hs:starEach [e] X.env=[(false,eval e X.env)]:=by rfl):PE X (.Call (.Name "len" p) [e] [] pos) (tCB (λxs H Q=>∃ p ys,xs=[.ref p]/\(SqL X.K H p ys\/SqT X.K H p ys)/\Q (.int ys.length) H) (bv te di)):=
 bI mf hg T.len PySem.boot_len (aa ha af hs) (by decide) (by decide) hs
theorem pl_all (T:Blt X.mg) (ha:PE X e te) (b:Bool) (hc:X.calm=true:=by rfl) (hg:Gl X "all":=by rfl) (hs:starEach [e] X.env=[(false,eval e X.env)]:=by rfl):PE X (.Call (.Name "all" p) [e] [] pos) (tCB (λxs H Q=>∃ (p:Addr) (bs:List Bool),xs=[.ref p]/\SqV b X.K H p (bs.map V.bl)/\Q (.bl (bs.all id)) H) (bv te di)):=
 bI (call_allV hc b) hg T.all boot_all' (aa ha af hs) (by decide) (by decide) hs
theorem pl_sum (T:Blt X.mg) (ha:PE X e te) (b:Bool) (hc:X.calm=true:=by rfl) (hg:Gl X "sum":=by rfl) (hs:starEach [e] X.env=[(false,eval e X.env)]:=by rfl):PE X (.Call (.Name "sum" p) [e] [] pos) (tCB (λxs H Q=>∃ (p:Addr) (ns:List Int),xs=[.ref p]/\SqV b X.K H p (ns.map V.int)/\Q (.int ns.sum) H) (bv te di)):=
 bI (call_sumV hc b) hg T.sum boot_sum' (aa ha af hs) (by decide) (by decide) hs
theorem pl_tuple (T:Blt X.mg) (ha:PE X e te) (hg:Gl X "tuple":=by rfl) (hs:starEach [e] X.env=[(false,eval e X.env)]:=by rfl):PE X (.Call (.Name "tuple" p) [e] [] pos) (tCB (λxs H Q=>∃ p ys,xs=[.ref p]/\SqL X.K H p ys/\∀ l,H l=none->Q (.ref l) (upd H l (.tup ys))) (bv te di)):=by
 refine dj (r:=λxs H Q=>∃ p ys,xs=[.ref p]/\SqL X.K H p ys/\∀ l,H l=none->Q (.ref l) (upd H l (.tup ys))) ?_ hg T.tuple iu (aa ha af hs) (by decide) (by decide) hs
 intro pins s σ H xs us Q I rv h
 obtain ⟨p,ys,rfl,q,hq⟩:=h
 exact j0 pins s σ H _ us Q I rv ⟨p,ys,rfl,.inl ⟨q,hq⟩⟩
theorem pl_max (T:Blt X.mg) (ha:PA X [e,e2] t) (hc:X.calm=true:=by rfl) (hg:Gl X "max":=by rfl) (he:starEach [e,e2] X.env=(false,eval e X.env)::starEach [e2] X.env:=by rfl) (hpl:(backTo pos (starEach [e2] X.env)).any (·.1)=false:=by rfl) :
  PE X (.Call (.Name "max" p) [e,e2] [] pos) (tCB (λxs H Q=>∃ i j,xs=[.int i,.int j]/\Q (.int (if j > i then j else i)) H) t):=
 bI (call_max2 hc) hg T.max io ha (by decide) (by decide) he hpl
theorem pl_min (T:Blt X.mg) (ha:PA X [e,e2] t) (hc:X.calm=true:=by rfl) (hg:Gl X "min":=by rfl) (he:starEach [e,e2] X.env=(false,eval e X.env)::starEach [e2] X.env:=by rfl) (hpl:(backTo pos (starEach [e2] X.env)).any (·.1)=false:=by rfl) :
  PE X (.Call (.Name "min" p) [e,e2] [] pos) (tCB (λxs H Q=>∃ i j,xs=[.int i,.int j]/\Q (.int (if j<i then j else i)) H) t):=
 bI (call_min2 hc) hg T.min lj ha (by decide) (by decide) he hpl
theorem mn (T:Blt X.mg) (ha:PE X e te) (hg:Gl X "abs":=by rfl) (hs:starEach [e] X.env=[(false,eval e X.env)]:=by rfl):PE X (.Call (.Name "abs" p) [e] [] pos) (tCB (λxs H Q=>∃ i,xs=[.int i]/\Q (.int (if i<0 then -i else i)) H) (bv te di)):=
 bI call_abs hg T.abs boot_abs' (aa ha af hs) (by decide) (by decide) hs
def rIsM (K:Frag):List V->Hp->VK->Prop:=λxs H Q=>match xs with
 | [x,.ty c]=>∃ (t:Value) (b:Bool),TyOf K H x t/\kitOne K t (.type c)=some b/\Q (.bl b) H
 | _=>False
theorem call_isM:cA X (.builtin "isinstance") (rIsM X.K):=by
 intro pins s σ H xs us Q I rv h
 unfold rIsM at h
 split at h
 ·obtain ⟨t,b,ty,e,q⟩:=h
  exact call_isT pins s σ H _ us Q I rv ⟨_,t,_,b,rfl,ty,e,q⟩
 ·exact h.elim
theorem pl_is {cn:Str} {c:String} {p2:Pos} (T:Blt X.mg) (ha:PE X e te) (hm:X.mg cn=none) (hv:bootBuiltins cn=some (.type c)) (hg:Gl X "isinstance":=by rfl) (hg2:Gl X cn:=by rfl) (hn:cn ≠ "__name__":=by decide) (hd:(cn == ("__debug__" : Str))=false:=by decide)
  (he:starEach [e,.Name cn p2] X.env=(false,eval e X.env)::starEach [.Name cn p2] X.env:=by rfl) (he2:starEach [.Name cn p2] X.env=[(false,eval (.Name cn p2) X.env)]:=by rfl) :
  PE X (.Call (.Name "isinstance" p) [e,.Name cn p2] [] pos) (tCB (rIsM X.K) (bv te (bv (tC (.ty c)) di))):=
 bI (X:=X) (p:=p) (pos:=pos) call_isM hg T.isinst iL (aa ha (aa (pe_bltn (v:=.ty c) (pos:=p2) hg2 hm hv rfl hn hd) af he2) he) (by decide) (by decide) he (by rw [he2]; rfl)
end
theorem gQ {J:It} {n:Nat} {acc:Addr} {g:TG} {tt:TT} {te:TE} {Q:VK} {σ0:St} {H0:Hp} (Pv:Nat->List V->St->Hp->Prop) (hn:n<=sizeLine) (h0:Pv 0 [] σ0 (upd H0 acc (.lst [])))
  (hgo:∀ i zs σ H,i<n->H acc=some (.lst zs)->Pv i zs σ H->J.go i H)
  (hst:∀ zs σ H,H acc=some (.lst zs)->Pv n zs σ H->J.stop n H)
  (hs:∀ i zs σ H x H',i<n->H acc=some (.lst zs)->zs.length<=i->Pv i zs σ H->J.yld i H x H'->g x σ H' λσ2 H2=>tt σ2 H2 λb H3=>
   if b=true then te σ2 H3 λy H4=>∃ ys,H4 acc=some (.lst ys)/\ys.length<sizeLine/\∃ zs,(upd H4 acc (.lst (ys++[y]))) acc=some (.lst zs)/\zs.length<=i+1/\Pv (i+1) zs σ2 (upd H4 acc (.lst (ys++[y])))
   else ∃ zs,H3 acc=some (.lst zs)/\zs.length<=i+1/\Pv (i+1) zs σ2 H3)
  (hd:∀ zs σ H,H acc=some (.lst zs)->zs.length<=n->Pv n zs σ H->Q (.ref acc) H) :
  ∃ W:Nat->Nat->St->Hp->Prop,(∃ m,W 0 m σ0 (upd H0 acc (.lst [])))/\∀ i m σ H,W i m σ H->
   (J.stop i H/\Q (.ref acc) H)\/(J.go i H/\∃ N:St->Hp->Prop,(∀ σ' H',N σ' H'->∃ m',m' < m/\W (i+1) m' σ' H')/\∀ x H',J.yld i H x H'->g x σ H' λσ2 H2=>tt σ2 H2 λb H3=>
    if b=true then te σ2 H3 λy H4=>∃ ys,H4 acc=some (.lst ys)/\ys.length<sizeLine/\N σ2 (upd H4 acc (.lst (ys++[y]))) else N σ2 H3):=by
 refine ⟨λi m σ H=>m=n-i/\i<=n/\∃ zs,H acc=some (.lst zs)/\zs.length<=i/\Pv i zs σ H,⟨n,by simp,Nat.zero_le _,[],ac,Nat.le_refl _,h0⟩,?_⟩
 rintro i m σ H ⟨rfl,hi,zs,hz,hl,p⟩
 by_cases hlt:i<n
 ·refine .inr ⟨hgo i zs σ H hlt hz p,λσ' H'=>∃ zs,H' acc=some (.lst zs)/\zs.length<=i+1/\Pv (i+1) zs σ' H',λσ' H' p'=>⟨n-(i+1),by omega,rfl,hlt,p'⟩,λx H' y=>?_⟩
  exact hs i zs σ H x H' hlt hz hl p y
 ·have e:i=n:=by omega
  subst e
  exact .inl ⟨hst zs σ H hz p,hd zs σ H hz hl p⟩
theorem mY.sqT {K:Frag} {H H':Hp} {a:Addr} {xs:List V} (e:mY H H') (h:SqT K H a xs):SqT K H' a xs:=by
 rcases h with (h | ⟨o,h⟩) | h
 ·exact .inl (.inl (e _ _ h))
 ·exact .inl (.inr ⟨o,e _ _ h⟩)
 ·exact .inr h
theorem mY.sqV {t:Bool} {K:Frag} {H H':Hp} {a:Addr} {xs:List V} (e:mY H H') (h:SqV t K H a xs):SqV t K H' a xs:=by
 cases t
 ·exact mY.seq e h
 ·exact mY.sqT e h
theorem mY.new {H:Hp} {a:Addr} {o:HO} (h:H a=none):mY H (upd H a o):=λb u e=>by rw [am (ah e h)]; exact e
theorem mY.put {H H':Hp} {a:Addr} {o:HO} (s:mY H H') (h:H a=none):mY H (upd H' a o):=λb u e=>by rw [am (ah e h)]; exact s b u e
theorem lY {α β γ:Type} (f:α->β->γ):∀ (xs:List α) (ys:List β) (i:Nat) (x:α) (y:β),xs[i]? = some x->ys[i]? = some y->(List.zipWith f xs ys).take (i+1)=(List.zipWith f xs ys).take i++[f x y]:=by
 intro xs ys i x y hx hy
 rw [take_succ,List.getElem?_zipWith,hx,hy]
 rfl
theorem take_map {α β:Type} (f:α->β) (xs:List α) (i:Nat) (x:α) (hx:xs[i]? = some x):(xs.map f).take (i+1)=(xs.map f).take i++[f x]:=by
 rw [take_succ,getElem?_map,hx]
 rfl
theorem comp_zip {t1 t2:Bool} {K K':Frag} {a b:Addr} {xs ys:List V} {te:TE} {Q:VK} {rest:St} {src:List (Option Nat)} {σ:St} {H0:Hp} (f:V->V->V) (hσ:bG src σ=none::none::rest) (hx:SqV t1 K H0 a xs) (hy:SqV t2 K H0 b ys) (hl:xs.length<=sizeLine)
  (he:∀ (i:Nat) x y H (R:VK),xs[i]? = some x->ys[i]? = some y->mY H0 H->R (f x y) H->te (some x::some y::rest) H R)
  (hd:∀ acc H,H0 acc=none->mY H0 H->H acc=some (.lst (List.zipWith f xs ys))->Q (.ref acc) H) :
  cf (Itz t1 t2 K a b) src (gTup K' 2 (je (cB 0) (je (cB 1) gNil))) tYes te σ H0 Q:=by
 intro acc hacc
 rw [hσ]
 have hlen:(List.zipWith f xs ys).length=min xs.length ys.length:=List.length_zipWith
 refine gQ (n:=min xs.length ys.length) (λi zs σ H=>mY H0 H/\zs=(List.zipWith f xs ys).take i/\∃ u v,σ=u::v::rest) (by omega) ⟨mY.new hacc,rfl,none,none,rfl⟩ ?_ ?_ ?_ ?_
 ·rintro i zs σ H hi hz ⟨sm,_⟩
  exact ⟨xs,ys,xs[i]'(by omega),ys[i]'(by omega),sm.sqV hx,sm.sqV hy,by simp,by simp⟩
 ·rintro zs σ H hz ⟨sm,_⟩
  refine ⟨xs,ys,sm.sqV hx,sm.sqV hy,?_⟩
  omega
 ·rintro i zs σ H x H' hi hz hzl ⟨sm,ez,u,v,rfl⟩ ⟨p,x1,y1,rfl,hp,rfl,gx,gy⟩
  have hx1:=gx xs (sm.sqV hx)
  have hy1:=gy ys (sm.sqV hy)
  have pacc:acc ≠ p:=ah hz hp
  have hp0:H0 p=none:=sm.free hp
  refine ⟨p,[x1,y1],rfl,SqT.of ac,rfl,x1,[y1],rfl,y1,[],rfl,rfl,?_⟩
  show te (some x1::some y1::rest) _ _
  refine he i x1 y1 _ _ hx1 hy1 (sm.put hp0) ?_
  refine ⟨zs,by rw [am pacc]; exact hz,by omega,zs++[f x1 y1],ac,by rw [length_append,length_singleton]; omega,(sm.put hp0).put hacc,?_,_,_,rfl⟩
  rw [lY f xs ys i x1 y1 hx1 hy1,ez]
 ·rintro zs σ H hz hzl ⟨sm,ez,_⟩
  refine hd acc H hacc sm ?_
  rw [hz,ez,take_of_length_le (by omega)]
theorem comp_tup {K:Frag} {a:Addr} {xs:List V} {te:TE} {Q:VK} {rest:St} {src:List (Option Nat)} {σ:St} {H0:Hp} (f:V->V) (hσ:bG src σ=none::rest) (hx:SqT K H0 a xs) (hl:xs.length<=sizeLine)
  (he:∀ (i:Nat) x H (R:VK),xs[i]? = some x->mY H0 H->R (f x) H->te (some x::rest) H R)
  (hd:∀ acc H,H0 acc=none->mY H0 H->H acc=some (.lst (xs.map f))->Q (.ref acc) H) :
  cf (Itt K a) src (cB 0) tYes te σ H0 Q:=by
 intro acc hacc
 rw [hσ]
 have hlen:(xs.map f).length=xs.length:=length_map ..
 refine gQ (n:=xs.length) (λi zs σ H=>mY H0 H/\zs=(xs.map f).take i/\∃ u,σ=u::rest) (by omega) ⟨mY.new hacc,rfl,none,rfl⟩ ?_ ?_ ?_ ?_
 ·rintro i zs σ H hi hz ⟨sm,_⟩
  exact ⟨xs,xs[i],sm.sqT hx,by simp⟩
 ·rintro zs σ H hz ⟨sm,_⟩
  exact ⟨xs,sm.sqT hx,Nat.le_refl _⟩
 ·rintro i zs σ H x H' hi hz hzl ⟨sm,ez,u,rfl⟩ ⟨rfl,gx⟩
  have hx1:=gx xs (sm.sqT hx)
  show te (some x::rest) _ _
  refine he i x _ _ hx1 sm ?_
  refine ⟨zs,hz,by omega,zs++[f x],ac,by rw [length_append,length_singleton]; omega,sm.put hacc,?_,_,rfl⟩
  rw [take_map f xs i x hx1,ez]
 ·rintro zs σ H hz hzl ⟨sm,ez,_⟩
  refine hd acc H hacc sm ?_
  rw [hz,ez,take_of_length_le (by omega)]
theorem be {J:It} {n:Nat} {src:List (Option Nat)} {g:TG} {tt:TT} {te:TE} {Q:VK} {σ σ0:St} {H0:Hp} (hσ:bG src σ=σ0) (Pv:Addr->Nat->List V->St->Hp->Prop) (hn:n<=sizeLine) (h0:∀ acc,H0 acc=none->Pv acc 0 [] σ0 (upd H0 acc (.lst [])))
  (hgo:∀ acc i zs σ H,H0 acc=none->i<n->H acc=some (.lst zs)->Pv acc i zs σ H->J.go i H)
  (hst:∀ acc zs σ H,H0 acc=none->H acc=some (.lst zs)->Pv acc n zs σ H->J.stop n H)
  (hs:∀ acc i zs σ H x H',H0 acc=none->i<n->H acc=some (.lst zs)->zs.length<=i->Pv acc i zs σ H->J.yld i H x H'->g x σ H' λσ2 H2=>tt σ2 H2 λb H3=>
   if b=true then te σ2 H3 λy H4=>∃ ys,H4 acc=some (.lst ys)/\ys.length<sizeLine/\∃ zs,(upd H4 acc (.lst (ys++[y]))) acc=some (.lst zs)/\zs.length<=i+1/\Pv acc (i+1) zs σ2 (upd H4 acc (.lst (ys++[y])))
   else ∃ zs,H3 acc=some (.lst zs)/\zs.length<=i+1/\Pv acc (i+1) zs σ2 H3)
  (hd:∀ acc zs σ H,H0 acc=none->H acc=some (.lst zs)->zs.length<=n->Pv acc n zs σ H->Q (.ref acc) H):cf J src g tt te σ H0 Q:=by
 intro acc hacc
 rw [hσ]
 exact gQ (Pv acc) hn (h0 acc hacc) (λi zs σ H=>hgo acc i zs σ H hacc) (λzs σ H=>hst acc zs σ H hacc) (λi zs σ H x H'=>hs acc i zs σ H x H' hacc) (λzs σ H=>hd acc zs σ H hacc)
theorem bM {X:Cx} {i:Nat} {x:Str} {pos:Pos} (hN:X.N.Nodup) (hi:X.N[i]? = some x) (hx:X.env.scope.names.lookup x=some .local):PG X (.Name x pos) (cB i):=aD hN hi (.inl hx) (.inr hx)
section
variable {X:Cx} (K:Frag) {p pos:Pos} {e e2:Expr} {es:List Expr} {t:TA} {te te2:TE}
theorem bB {i j:Nat} {x y:Str} {p1 p2 pos:Pos} {k:Nat} (hK:X.K=K) (hc:X.calm=true) (hN:X.N.Nodup) (hi:X.N[i]? = some x) (hj:X.N[j]? = some y) (hx:X.env.scope.names.lookup x=some .local) (hy:X.env.scope.names.lookup y=some .local) :
  PG X (.Tuple [.Name x p1,.Name y p2] k pos) (gTup K 2 (je (cB i) (je (cB j) gNil))):=by
 subst hK
 exact f8 hc (aI (bM hN hi hx) (aI (bM hN hj hy) dW))
theorem aE (hK:X.K=K):IxR X (rIxL K):=hK ▸ ix_list
theorem ay (hK:X.K=K):IxR X (rIxT K):=hK ▸ ix_tup
theorem ksl_list (hK:X.K=K):SlR X (rSlL K):=hK ▸ sl_list
theorem keqD (hK:X.K=K) (hu:X.A.units+64<cLine):OpR X (compareOp .Eq) (rEqD K):=hK ▸ op_eqD hu
theorem jY (hK:X.K=K) (hu:X.A.units+64<cLine):OpR X (compareOp .NotEq) (rNeD K):=hK ▸ op_neD hu
theorem aM {tg:Expr} (hK:X.K=K) (hl:PE X e te):PI X tg e (iList K te):=hK ▸ pi_list hl
theorem kpi_tup {tg:Expr} (hK:X.K=K) (hl:PE X e te):PI X tg e (iTup K te):=hK ▸ pi_tup hl
theorem lP (t1 t2:Bool) {es:List Expr} {ek:Nat} {ep:Pos} {a b:Expr} {ta:TA} (hK:X.K=K) (hg:Gl X "zip") (hm:X.mg "zip" = none) (ha:PA X [a,b] ta) (hs:starEach [a,b] X.env=[(false,eval a X.env),(false,eval b X.env)]:=by rfl) (hs2:starEach [b] X.env=[(false,eval b X.env)]:=by rfl) :
  PI X (.Tuple es ek ep) (.Call (.Name "zip" p) [a,b] [] pos) (iZip t1 t2 K ta):=hK ▸ pi_zip t1 t2 hg hm ha hs hs2
def rLen (K:Frag):List V->Hp->VK->Prop:=λxs H Q=>∃ p ys,xs=[.ref p]/\(SqL K H p ys\/SqT K H p ys)/\Q (.int ys.length) H
def rAll (b:Bool) (K:Frag):List V->Hp->VK->Prop:=λxs H Q=>∃ (p:Addr) (bs:List Bool),xs=[.ref p]/\SqV b K H p (bs.map V.bl)/\Q (.bl (bs.all id)) H
def rSum (b:Bool) (K:Frag):List V->Hp->VK->Prop:=λxs H Q=>∃ (p:Addr) (ns:List Int),xs=[.ref p]/\SqV b K H p (ns.map V.int)/\Q (.int ns.sum) H
def rTuple (K:Frag):List V->Hp->VK->Prop:=λxs H Q=>∃ p ys,xs=[.ref p]/\SqL K H p ys/\∀ l,H l=none->Q (.ref l) (upd H l (.tup ys))
theorem ce (T:Blt X.mg) (ha:PE X e te) (hK:X.K=K:=by rfl) (hg:Gl X "len":=by rfl) (hs:starEach [e] X.env=[(false,eval e X.env)]:=by rfl):PE X (.Call (.Name "len" p) [e] [] pos) (tCB (rLen K) (bv te di)):=by
 subst hK; exact pl_len T ha hg hs
theorem kpl_all (T:Blt X.mg) (ha:PE X e te) (b:Bool) (hK:X.K=K:=by rfl) (hc:X.calm=true:=by rfl) (hg:Gl X "all":=by rfl) (hs:starEach [e] X.env=[(false,eval e X.env)]:=by rfl):PE X (.Call (.Name "all" p) [e] [] pos) (tCB (rAll b K) (bv te di)):=by
 subst hK; exact pl_all T ha b hc hg hs
theorem i5 (T:Blt X.mg) (ha:PE X e te) (b:Bool) (hK:X.K=K:=by rfl) (hc:X.calm=true:=by rfl) (hg:Gl X "sum":=by rfl) (hs:starEach [e] X.env=[(false,eval e X.env)]:=by rfl):PE X (.Call (.Name "sum" p) [e] [] pos) (tCB (rSum b K) (bv te di)):=by
 subst hK; exact pl_sum T ha b hc hg hs
theorem cF (T:Blt X.mg) (ha:PE X e te) (hK:X.K=K:=by rfl) (hg:Gl X "tuple":=by rfl) (hs:starEach [e] X.env=[(false,eval e X.env)]:=by rfl):PE X (.Call (.Name "tuple" p) [e] [] pos) (tCB (rTuple K) (bv te di)):=by
 subst hK; exact pl_tuple T ha hg hs
theorem kpl_is {cn:Str} {c:String} {p2:Pos} (T:Blt X.mg) (ha:PE X e te) (hm:X.mg cn=none) (hv:bootBuiltins cn=some (.type c)) (hK:X.K=K:=by rfl) (hg:Gl X "isinstance":=by rfl) (hg2:Gl X cn:=by rfl) (hn:cn ≠ "__name__":=by decide) (hd:(cn == ("__debug__" : Str))=false:=by decide)
  (he:starEach [e,.Name cn p2] X.env=(false,eval e X.env)::starEach [.Name cn p2] X.env:=by rfl) (he2:starEach [.Name cn p2] X.env=[(false,eval (.Name cn p2) X.env)]:=by rfl) :
  PE X (.Call (.Name "isinstance" p) [e,.Name cn p2] [] pos) (tCB (rIsM K) (bv te (bv (tC (.ty c)) di))):=by
 subst hK; exact pl_is T ha hm hv hg hg2 hn hd he he2
end
section
variable {X:Cx} (K:Frag) {p pos:Pos} {e e2:Expr} {es:List Expr} {t:TA} {te te2:TE}
def rListT (K:Frag):List V->Hp->VK->Prop:=λxs H Q=>∃ p ys,xs=[.ref p]/\(SqL K H p ys\/SqT K H p ys)/\∀ l,H l=none->Q (.ref l) (upd H l (.lst ys))
theorem jK (T:Blt X.mg) (ha:PE X e te) (hK:X.K=K:=by rfl) (hg:Gl X "list":=by rfl) (hs:starEach [e] X.env=[(false,eval e X.env)]:=by rfl):PE X (.Call (.Name "list" p) [e] [] pos) (tCB (rListT K) (bv te di)):=by
 subst hK; exact dj lU hg T.list boot_list' (aa ha af hs) (by decide) (by decide) hs
end
theorem TyOf.same {K:Frag} {H H':Hp} {x:V} {t:Value} (s:mY H H') (h:TyOf K H x t):TyOf K H' x t:=by
 cases h with
 | non=>exact .non
 | bl b=>exact .bl b
 | int i=>exact .int i
 | str x=>exact .str x
 | flt x=>exact .flt x
 | lst e=>exact .lst (s _ _ e)
 | frz e=>exact .frz (s _ _ e)
 | tup e=>exact .tup (s _ _ e)
 | dK e=>exact .dK (s _ _ e)
 | dT e=>exact .dT (s _ _ e)
 | ins e cl ha hn htk hm=>exact .ins (s _ _ e) cl ha hn htk hm
theorem dD {t u:TS} {D:eG} {σ:St} {H:Hp} (M:St->Hp->Prop) (h1:∀ R:St->Hp->Prop,(∀ σ' H',M σ' H'->R σ' H')->t { D with nx:=R } σ H) (h2:∀ σ' H',M σ' H'->u D σ' H'):cH t u D σ H:=h1 (u D) h2
theorem gm {i:Nat} {x:V} {t u:TS} {D:eG} {σ:St} {H:Hp} (M:St->Hp->Prop) (h1:∀ R:St->Hp->Prop,(∀ σ' H',M σ' H'->R σ' H')->t { D with nx:=R } (σ.set i (some x)) H) (h2:∀ σ' H',M σ' H'->u D σ' H'):cB i x σ H (cH t u D):=h1 (u D) h2
section
open PySem.SeqAt
open PySem.AutoSeq1 (wpAny_loadPart')
open PySem.MeetsSeq PySem.MeetsSeq2 PySem.MeetsSeq3
def RcO (op:CmpOp) (A:Around) (s:Shared) (y x:Value) (b:Bool):Prop:=
 ∀ (prog:Program) (w:World) (E:Value->Shared->Prop) (Q:Value->Shared->Prop),Q (.bool b) s->wpAny (model prog w) A (richCompare op y x) Q E s
inductive lT (op:CmpOp) (A:Around) (s:Shared):List Value->List Value->List (Bool × Bool)->Prop
 | nil (ws:List Value):lT op A s [] ws []
 | nilr (vs:List Value):lT op A s vs [] []
 | cons {v w:Value} {e r:Bool} {vs ws:List Value} {ks:List (Bool × Bool)}:EqAt A s v w e->(e=false->RcO op A s v w r)->lT op A s vs ws ks->lT op A s (v::vs) (w::ws) ((e,r)::ks)
def mw:List (Bool × Bool)->Bool->Bool
 | [],f=>f
 | (true,_)::r,f=>mw r f
 | (false,b)::_,_=>b
theorem tuple_gtAt (l b:Addr) (items items2:Array Value) (n n2:Nat) (dd dd2:Option Addr) (sl sl2:Array (Option Value)) (ks:List (Bool × Bool)) :
  Meets (Builtin.«tuple.__gt__» ⟨[.ref l,.ref b],[]⟩)
   (λA R s=>s.heap.get? l=some { cls:=.type "tuple",dict:=dd,data:=.seq items n,slots:=sl }/\s.heap.get? b=some { cls:=.type "tuple",dict:=dd2,data:=.seq items2 n2,slots:=sl2 }/\
    lT .Gt A.in1 s items.toList items2.toList ks/\R (.ok (.ret (.bool (mw ks (decide (items.size > items2.size)))))) s):=
 .of_wp λprog w A R s h=>by
  obtain ⟨hp,g,d,tk,os⟩:=s; obtain ⟨hl,hb,hc,h⟩:=h
  have f2:=AutoSeq1.sub_tuple_tuple
  wp_walk using wpAny_loadPart' hl,wpAny_loadPart' hb,wpAny_forIn_list _ (λrest b s'=>b.1=none/\s'=⟨hp,g,d,tk,os⟩/\∃ (vs ws:List Value) (ks':List (Bool × Bool)),rest=vs.zip ws/\
   lT .Gt A.in1 ⟨hp,g,d,tk,os⟩ vs ws ks'/\R (.ok (.ret (.bool (mw ks' (decide (items.size > items2.size)))))) ⟨hp,g,d,tk,os⟩) _
  case turn=>
   rintro ⟨y,x⟩ rest b s' ⟨hb',rfl,vs,ws,ks',hz,hk,hR⟩
   cases hk with
   | nil=>rw [List.zip_nil_left] at hz; cases hz
   | nilr=>rw [List.zip_nil_right] at hz; cases hz
   | @cons v w' e r vs' ws' ks'' he hr hk'=>
    rw [zip_cons_cons] at hz
    injection hz with hyx hrest
    injection hyx with hy hx
    subst hy hx
    refine wpAny_bind (he prog w _ _ ?_)
    cases e with
    | true=>
     wp_walk
     exact ⟨rfl,rfl,_,_,_,hrest,hk',hR⟩
    | false=>
     have hri:=hr rfl prog w
     wp_walk using hri
     exact ⟨_,rfl,hR⟩
  case fin=>
   rintro ⟨b1,b2⟩ s' ⟨hb',rfl,vs,ws,ks',hz,hk,hR⟩
   simp only at hb'
   subst hb'
   have hks:ks'=[]:=by
    cases hk with
    | nil=>rfl
    | nilr=>rfl
    | cons he hr hk'=>rw [zip_cons_cons] at hz; cases hz
   subst hks
   wp_walk
   exact ⟨_,rfl,by simpa [Builtin.Tuple.tupleCompareSizes,mw] using hR⟩
  case h=>
   exact ⟨rfl,rfl,items.toList,items2.toList,ks,rfl,hc,h⟩
theorem rc_gt {A:Around} {s:Shared} {l b:Addr} {items items2:Array Value} {ks:List (Bool × Bool)} (hl:s.heap.IsTuple l items) (hb:s.heap.IsTuple b items2) (hu:A.units<cLine) (hk:lT .Gt A.in1 s items.toList items2.toList ks) :
  RcO .Gt A s (.ref l) (.ref b) (mw ks (decide (items.size > items2.size))):=λprog w E Q h=>by
 obtain ⟨⟨cls,dd,data,sl⟩,ho,hc,n,hd⟩:=id hl
 obtain ⟨⟨cls2,dd2,data2,sl2⟩,ho2,hc2,n2,hd2⟩:=id hb
 simp only at hc hd hc2 hd2
 subst hc hd hc2 hd2
 exact richCompare_meets_room (op:=.Gt) ⟨_,ho,rfl⟩ ⟨_,ho2,rfl⟩ PySem.F.slot_tuple_gt PySem.F.entry_tuple_gt (PySem.F.args_tuple_gt_2 _ _) (tuple_gtAt l b items items2 n n2 dd dd2 sl sl2 ks)
  ⟨ho,ho2,hk,show Value.bool _ ≠ Value.notImplemented/\Q (.bool _) s from ⟨(λx=>nomatch x),h⟩⟩ hu
end
def lexV (f:Int->Int->Bool) (fin:Bool) (ns ms:List Int):Bool:=mw (List.zipWith (λa b=>(a == b,f a b)) ns ms) fin
def gtI (a b:Int):Bool:=decide (b<a)
def kD (ns ms:List Int):Bool:=lexV gtI (decide (ns.length > ms.length)) ns ms
theorem rcGt_int (A:Around) (s:Shared) (a:Int) (t:Tok) (c:Int) (u:Tok):RcO .Gt A s (.int a t) (.int c u) (gtI a c):=λprog w E Q h=>
 (PyProof.Rows.gt_int h:wpAny (model prog w) A (compareOp .Gt (.int a t) (.int c u)) Q E s)
theorem kZ {op:CmpOp} {A:Around} {s:Shared} {f:Int->Int->Bool} (hf:∀ a t c u,RcO op A s (.int a t) (.int c u) (f a c)):∀ {ns ms:List Int} {us ws:List Value},ni (ns.map V.int) us->ni (ms.map V.int) ws->
  lT op A s us ws (List.zipWith (λa b=>(a == b,f a b)) ns ms)
 | [],_,_,ws,.nil,_=>.nil ws
 | _::_,[],us,_,_,.nil=>.nilr us
 | n::ns,m::ms,_,_,.cons r rr,.cons q qq=>by
  obtain ⟨t,rfl⟩:=(show ∃ t,_=Value.int n t from r)
  obtain ⟨u,rfl⟩:=(show ∃ t,_=Value.int m t from q)
  exact .cons (SeqAt.EqAt.int_int n t m u) (λ_=>hf n t m u) (kZ hf rr qq)
theorem jQ:∀ {ns ms:List Int},ns.map V.int=ms.map V.int->ns=ms
 | [],[],_=>rfl
 | [],_::_,h=>by cases h
 | _::_,[],h=>by cases h
 | n::ns,m::ms,h=>by
  rw [map_cons,map_cons] at h
  injection h with h1 h2
  injection h1 with h1
  rw [h1,jQ h2]
section
variable {X:Cx} {K:Frag}
end
def Ite (K:Frag) (a:Addr):It:=
 ⟨λi H=>∃ xs x,SqL K H a xs/\xs[i]? = some x,
  λi H v H'=>∃ p x,v=.ref p/\H p=none/\H'=upd H p (.tup [.int i,x])/\∀ xs,SqL K H a xs->xs[i]? = some x,
  λi H=>∃ xs,SqL K H a xs/\xs.length<=i⟩
theorem turn_enum {P:Program} {w:World} {K:Frag} {es:List Expr} {ek:Nat} {ep:Pos} (a e it:Addr) (hne:e ≠ it) :
  jX P w K (.Tuple es ek ep) (Ite K a) [e,it] e (λi h=>(∃ old,IsEnum h e it ((i:Nat):Int) old)/\h.IsListIter it a i) where
 mem:=by simp
 obj:=λi h ⟨⟨old,he⟩,hi⟩ c hc=>by
  simp only [mem_cons,not_mem_nil,or_false] at hc
  rcases hc with rfl | rfl
  ·exact ⟨_,he,λv z=>by cases z⟩
  ·obtain ⟨o,ho,_,d⟩:=hi
   exact ⟨o,ho,λv z=>by rw [d] at z; cases z⟩
 keep:=λi h h' ⟨⟨old,he⟩,hi⟩ k=>⟨⟨old,k e (by simp) _ he⟩,hi.at λo q=>k it (by simp) o q⟩
 item:=by
  intro X hP hw hK hc i pins s σ H E I hf st hg
  subst hP hw hK
  obtain ⟨xs,x,qx,hx⟩:=hg
  obtain ⟨⟨old,he⟩,hi⟩:=st
  obtain ⟨ix,rx,px,zx⟩:=I.list qx
  obtain ⟨u,hu,ru⟩:=rx.get hx
  have na:=eC (t:=false) I hf qx
  simp only [mem_cons,not_mem_nil,or_false,not_or] at na
  refine wpAny_pyNext_enum_item he hi px.isList (x:=u) (by simpa using hu) hne λh' a1 a2 a3 a4 hk=>?_
  refine ⟨_,rfl,wpAny_letOwnedTupleGo_enum a1 λh'' he'' sb=>?_⟩
  have lt2:∀ c ∈ [e,it],c<s.heap.objs.size:=λc hc=>by
   simp only [mem_cons,not_mem_nil,or_false] at hc
   rcases hc with rfl | rfl
   ·exact lt_size he
   ·obtain ⟨o,ho,_⟩:=hi; exact lt_size ho
  have nT:s.heap.objs.size ∉ [e,it]:=λhc=>absurd (lt2 _ hc) (Nat.lt_irrefl _)
  have kk:∀ c o,c ∉ [e,it]->s.heap.get? c=some o->h''.get? c=some o:=λc o hc q=>by
   simp only [mem_cons,not_mem_nil,or_false,not_or] at hc
   exact (sb.2 c hc.1).trans (hk c o hc.1 hc.2 q)
  have hT:h''.get? s.heap.objs.size=some { cls:=.type "tuple",data:=.seq #[.int i s.toks,u] }:=(sb.2 _ (λz=>nT (by simp [z]))).trans a3
  have fresh:H s.heap.objs.size=none:=I.hok.fresh (Nat.le_refl _)
  have gT:(s.heap.push { cls:=.type "tuple",data:=.seq #[.int i s.toks,u] }).get? s.heap.objs.size=some { cls:=.type "tuple",data:=.seq #[.int i s.toks,u] }:=get?_push_size _ rfl
  have I1:Inv X pins σ (upd H s.heap.objs.size (.tup [.int i,x])) { s with heap:=s.heap.push { cls:=.type "tuple",data:=.seq #[.int i s.toks,u] },toks:=s.toks+1 }:=
   I.laid (λb o q=>get?_push_of_some _ q) (Nat.le_refl _) ⟨by show 2<=sizeLine; decide,[.int i s.toks,u],.cons ⟨_,rfl⟩ (.cons ru .nil),_,gT,rfl,_,rfl⟩
  have fp1:∀ c ∈ [e,it],nI X pins (upd H s.heap.objs.size (.tup [.int i,x])) c:=λc hc=>
   ⟨by rw [am (Nat.ne_of_lt (lt2 c hc))]; exact (hf c hc).1,(hf c hc).2⟩
  have I2:=I1.turnedN (h':=h'') (t':=s.toks+1) (fp:=[e,it]) (λc o hc q=>by
   rcases get?_push_cases q with ⟨e1,e2⟩ | e1
   ·rw [e1,e2]
    exact hT
   ·exact kk c o hc e1) fp1
  refine ⟨.ref s.heap.objs.size,_,I2,rfl,⟨_,x,rfl,fresh,rfl,λxs' q=>by rw [I.list_inj q qx]; exact hx⟩,⟨⟨u,?_⟩,a2.extBut sb.extBut hne.symm⟩,λc hc=>(fp1 c hc).1⟩
  have e1:((i+1:Nat):Int)=(i:Int)+1:=by push_cast; rfl
  rw [e1]
  exact he''
 done:=by
  intro X hP hw hK hc i pins s σ H E I hf st hg
  subst hP hw hK
  obtain ⟨xs,qx,hend⟩:=hg
  obtain ⟨⟨old,he⟩,hi⟩:=st
  obtain ⟨ix,rx,px,zx⟩:=I.list qx
  have lx:=rx.length
  refine wpAny_pyNext_enum_end (I.ok.hd hc) he hi px.isList (by simp; omega) λh' eb=>⟨rfl,I.turnedN (fp:=[e,it]) (t':=s.toks) (λc o hc q=>?_) hf⟩
  simp only [mem_cons,not_mem_nil,or_false,not_or] at hc
  exact eb c o hc.2 q
 self:=λ_ _ _ _ _ st h=>by
  obtain ⟨⟨old,he⟩,_⟩:=st
  exact wpAny_pyIter_enum he h
def iEnum (K:Frag) (ta:TA):TI:=λσ H R=>ta σ H λvs H1=>∃ a,vs=[.ref a]/\(∃ xs,SqL K H1 a xs)/\R (Ite K a) H1
theorem jm {X:Cx} (K:Frag) {es:List Expr} {ek:Nat} {ep:Pos} {a:Expr} {ta:TA} {p pos:Pos} (hK:X.K=K) (hg:Gl X "enumerate") (hm:X.mg "enumerate" = none) (ha:PA X [a] ta) (hs:starEach [a] X.env=[(false,eval a X.env)]:=by rfl) :
  PI X (.Tuple es ek ep) (.Call (.Name "enumerate" p) [a] [] pos) (iEnum K ta):=by
 subst hK
 intro pins s σ H R I h
 refine Call_ (dO I hg hm boot_enumerate (PyProof.Rows.callWith_type1 (thn (ha pos pins s σ H _ I h) λus s1 ⟨vs,H1,I1,r1,q1⟩=>?_) hs rfl))
 obtain ⟨l,e,⟨xs,qx⟩,q⟩:=q1
 subst e
 cases r1 with
 | cons r rr=>
  cases rr
  cases r
  obtain ⟨ix,rx,px,zx⟩:=I1.list qx
  refine call_enumerate_list px.isList λh' a1 a2 a3 a4=>?_
  have I2:Inv X pins σ H1 { s1 with heap:=h',toks:=s1.toks }:=I1.kept a4
  refine wpAny_pyIter_enum (s:={ s1 with heap:=h' }) a1 ?_
  refine ⟨_,[s1.heap.objs.size+1,s1.heap.objs.size],_,_,H1,rfl,I2,turn_enum l (s1.heap.objs.size+1) s1.heap.objs.size (Nat.succ_ne_self _),⟨⟨.none,a1⟩,a2⟩,λb hb=>?_,q⟩
  have hb':s1.heap.objs.size<=b:=by
   simp only [mem_cons,not_mem_nil,or_false] at hb
   rcases hb with rfl | rfl
   ·exact Nat.le_add_right _ _
   ·exact Nat.le_refl _
  exact I1.fpOk hb' (I1.hok.fresh hb')
theorem for_enum {K:Frag} {a:Addr} {xs:List V} {g:TG} {tb:TS} {D:eG} {σ:St} {H:Hp} (Pv:Nat->St->Hp->Prop) (h0:Pv 0 σ H) (hl:∀ i σ H,i<=xs.length->Pv i σ H->SqL K H a xs)
  (hs:∀ i x σ H p,xs[i]? = some x->Pv i σ H->H p=none->g (.ref p) σ (upd H p (.tup [.int i,x])) λσ2 H2=>tb { D with nx:=Pv (i+1),ct:=Pv (i+1),bk:=D.nx } σ2 H2) (hd:∀ σ H,Pv xs.length σ H->D.nx σ H) :
  ∃ W:Nat->Nat->St->Hp->Prop,(∃ m,W 0 m σ H)/\∀ i m σ H,W i m σ H->
   ((Ite K a).stop i H/\D.nx σ H)\/((Ite K a).go i H/\∃ N:St->Hp->Prop,(∀ σ' H',N σ' H'->∃ m',m' < m/\W (i+1) m' σ' H')/\∀ x H',(Ite K a).yld i H x H'->g x σ H' λσ2 H2=>tb { D with nx:=N,ct:=N,bk:=D.nx } σ2 H2):=by
 refine ⟨λi m σ H=>m=xs.length-i/\i<=xs.length/\Pv i σ H,⟨xs.length,by simp,Nat.zero_le _,h0⟩,?_⟩
 rintro i m σ H ⟨rfl,hi,p⟩
 have q:=hl i σ H hi p
 by_cases hlt:i<xs.length
 ·refine .inr ⟨⟨xs,xs[i],q,by simp [hlt]⟩,Pv (i+1),λσ' H' p'=>⟨xs.length-(i+1),by omega,rfl,hlt,p'⟩,λx H' y=>?_⟩
  obtain ⟨l,x1,rfl,hl1,rfl,y⟩:=y
  exact hs i x1 σ _ l (y xs q) p hl1
 ·have e:i=xs.length:=by omega
  subst e
  exact .inl ⟨⟨xs,q,Nat.le_refl _⟩,hd σ H p⟩
def tOrE (t1 t2:TE):TE:=λσ H Q=>t1 σ H Q\/t2 σ H Q
def tMk0 (C:Addr):TE:=λσ H Q=>∀ x dx,H x=none->H dx=none->dx ≠ x->Q (.ref x) (upd (upd H dx (.own x)) x (.ins C dx []))
section
variable {X:Cx} {C:Addr} {x:Str} {p pos apos:Pos} {e o:Expr} {es:List Expr} {te ta t1 t2:TE} {t:TA}
theorem lM (h1:PE X e t1) (h2:PE X e t2):PE X e (tOrE t1 t2):=λpins s σ H Q I h=>h.elim (h1 pins s σ H Q I) (h2 pins s σ H Q I)
structure Mk0 (K:Frag) (C:Addr):Prop where
 makes:makesIn K C=true
 init:findIn K (.ref C) "__init__"=some (some (.builtin "object.__init__"))
 kp:keepIn K (.ref C)=true
theorem pe_mk0 (M:Mk0 X.K C) (hm:X.mg x=some (.ref C)) (hg:Gl X x:=by rfl) (hdb:(x == ("__debug__" : Str))=false:=by decide):PE X (.Call (.Name x p) [] [] pos) (tMk0 C):=by
 intro pins s σ H Q I h
 refine wpAny_Call_Name_kw (dZ I hg hm ?_ hdb)
 have hq:=h (s.heap.objs.size+1) s.heap.objs.size (I.hok.fresh (Nat.le_succ _)) (I.hok.fresh (Nat.le_refl _)) (Nat.ne_of_lt (Nat.lt_succ_self _))
 have I2:=Inv.made (C:=C) I
 refine PySem.W.callWith_K0 I.kIn M.kp (wpAny_call (make_map0 I.kIn M.makes M.init (λself=>PySem.W.Looks.of_pure (PySem.W.oi_bind self)) ?_))
 have Y:=PySem.W.makes_of (M:=model X.prog X.w) I.kIn M.makes
 have hx:((s.heap.push emptyDict).push (instObj C s.heap.objs.size)).get? (s.heap.objs.size+1)=some (instObj C s.heap.objs.size):=by
  have:=get?_push_size (s.heap.push emptyDict) (o:=instObj C s.heap.objs.size) rfl
  rwa [size_push] at this
 have y1:Looks (model X.prog X.w) ((s.heap.push emptyDict).push (instObj C s.heap.objs.size)) (typeOf (.ref (s.heap.objs.size+1))) (.ref C):=(PySem.W.Looks.ld hx).andThen .now
 have y2:Looks (model X.prog X.w) ((s.heap.push emptyDict).push (instObj C s.heap.objs.size)) (isInstance (.ref (s.heap.objs.size+1)) (.type "object")) true:=y1.andThen (Y.top.keeps λb o e=>get?_push_of_some _ (get?_push_of_some _ e))
 obtain ⟨hh,g,d,tk,os⟩:=s
 refine codeAny_call_builtin PySem.W.oi_plain PySem.W.entry_oi (@PySem.W.check_slot (model X.prog X.w) _ _ _ "object.__init__" "object" "__init__" (.ref (hh.objs.size+1)) [] [] _ PySem.W.oi_kind PySem.W.oi_split y2 (PySem.W.oi_args (.ref (hh.objs.size+1))) ?_)
 rw [PySem.W.oi_run]
 exact wpAny_pure (And.intro rfl ⟨V.ref (hh.objs.size+1),_,I2,rfl,hq⟩)
end
structure MtB (P:Program) (w:World) (K:Frag) (mg:Str->Option Value) (base:Heap) (k:Nat) (C:Addr) (m:Str) (sp:Sp):Prop where
 ex:∃ f fd ps,nk P w K mg base CX0 k f fd ps sp/\f6 K C m f/\nY K fd ps []
 cl:Cls K C
structure MkB (P:Program) (w:World) (K:Frag) (mg:Str->Option Value) (base:Heap) (k:Nat) (C:Addr) (x:Str) (sp:Sp):Prop where
 ex:∃ f fd ps,nk P w K mg base CX0 k f fd ps sp/\Mk K C f/\nY K fd ps []
 at_:mg x=some (.ref C)
section
variable {X:Cx} {C:Addr} {x m:Str} {k:Nat} {sp:Sp} {p pos apos:Pos} {e o:Expr} {es:List Expr} {te ta:TE} {t:TA}
theorem pe_mt {pl:Sem Bool} (M:MtB X.prog X.w X.K X.mg X.base k C m sp) (hr:nC k X.A) (he:PE X o ta) (ha:PA X (e::es) t)
  (hst:starEach (e::es) X.env=(false,eval e X.env)::starEach es X.env:=by rfl) (hpl:(backTo pos (starEach es X.env)).any (·.1)=false:=by rfl)
  (ht:eval (.Call (.Attribute o m apos) (e::es) [] pos) X.env=(do
   let ov <- eval o X.env
   standAt apos.atName
   let (f,first) <- holding [ov] (getMethod ov m pl)
   callWith pos f first (backTo pos (starEach (e::es) X.env)) (backToKw pos (keywordEach [] X.env))):=by rfl) :
  PE X (.Call (.Attribute o m apos) (e::es) [] pos) (fg C m sp [] E0 ta t):=by
 obtain ⟨f,fd,ps,F,hm,hb⟩:=M.ex
 exact pe_meth he M.cl hm F hr hb .nil pass0 ha hst hpl ht
theorem pe_mkB (M:MkB X.prog X.w X.K X.mg X.base k C x sp) (hr:nC (k+1) X.A) (ha:PA X (e::es) t) (hg:Gl X x:=by rfl) (hdb:(x == ("__debug__" : Str))=false:=by decide)
  (he:starEach (e::es) X.env=(false,eval e X.env)::starEach es X.env:=by rfl) (hpl:(backTo pos (starEach es X.env)).any (·.1)=false:=by rfl) :
  PE X (.Call (.Name x p) (e::es) [] pos) (tMake C sp [] E0 t):=by
 obtain ⟨f,fd,ps,F,hm,hb⟩:=M.ex
 exact pe_make hm F hr hg M.at_ hb .nil pass0 ha hdb he hpl
end
end L2
namespace L2
def nrm (a b:Int):Int × Int:=if b<0 then (a.fdiv (-(Int.gcd a b:Int)),b.fdiv (-(Int.gcd a b:Int))) else (a.fdiv (Int.gcd a b:Int),b.fdiv (Int.gcd a b:Int))
theorem jt (a b:Int) (h:b ≠ 0):∃ (g:Nat) (a' b':Int),0<g/\Int.gcd a b=g/\a=g*a'/\b=g*b'/\Int.gcd a' b'=1/\nrm a b=(if b<0 then (-a',-b') else (a',b')):=by
 have hg:0<Int.gcd a b:=Int.gcd_pos_of_ne_zero_right a h
 obtain ⟨a',ha⟩:=Int.gcd_dvd_left (a:=a) (b:=b)
 obtain ⟨b',hb⟩:=Int.gcd_dvd_right (a:=a) (b:=b)
 have hg0:(Int.gcd a b:Int) ≠ 0:=by omega
 refine ⟨Int.gcd a b,a',b',hg,rfl,ha,hb,?_,?_⟩
 ·have e:Int.gcd (Int.gcd a b*a') (Int.gcd a b*b')=Int.gcd a b*Int.gcd a' b':=by
   rw [Int.gcd_mul_left]; rfl
  rw [<- ha,<- hb] at e
  have:Int.gcd a b*1=Int.gcd a b*Int.gcd a' b':=by omega
  exact (Nat.eq_of_mul_eq_mul_left hg this).symm
 ·unfold nrm
  generalize hG:(Int.gcd a b:Int)=G at *
  have f1:a.fdiv G=a':=by rw [ha]; exact Int.mul_fdiv_cancel_left _ hg0
  have f2:b.fdiv G=b':=by rw [hb]; exact Int.mul_fdiv_cancel_left _ hg0
  have f3:a.fdiv (-G) = -a':=by rw [ha,show G*a'=(-G)*(-a') by rw [Int.neg_mul_neg]]; exact Int.mul_fdiv_cancel_left _ (by omega)
  have f4:b.fdiv (-G) = -b':=by rw [hb,show G*b'=(-G)*(-b') by rw [Int.neg_mul_neg]]; exact Int.mul_fdiv_cancel_left _ (by omega)
  rw [f1,f2,f3,f4]
theorem cR (a b:Int) (h:b ≠ 0):0<(nrm a b).2:=by
 obtain ⟨g,a',b',hg,_,ha,hb,_,e⟩:=jt a b h
 rw [e]
 by_cases hb0:b<0
 ·rw [if_pos hb0]
  show 0 < -b'
  have:¬ 0<=b':=λz=>by have:=Int.mul_nonneg (show (0:Int)<=g by omega) z; omega
  omega
 ·rw [if_neg hb0]
  show 0<b'
  have:¬ b' <= 0:=λz=>by have:=Int.mul_nonneg (show (0:Int)<=g by omega) (show 0 <= -b' by omega); rw [Int.mul_neg] at this; omega
  omega
theorem dE (a b:Int) (h:b ≠ 0):Int.gcd (nrm a b).1 (nrm a b).2=1:=by
 obtain ⟨g,a',b',hg,_,ha,hb,c,e⟩:=jt a b h
 rw [e]
 split
 ·show Int.gcd (-a') (-b')=1
  rw [Int.neg_gcd,Int.gcd_neg]
  exact c
 ·exact c
theorem jv (a b:Int) (h:b ≠ 0):(nrm a b).1*b=a*(nrm a b).2:=by
 obtain ⟨g,a',b',hg,_,ha,hb,c,e⟩:=jt a b h
 rw [e]
 split
 ·show -a' * b=a * -b'
  rw [ha,hb,Int.neg_mul,Int.mul_neg,Int.mul_left_comm,Int.mul_assoc]
 ·show a' * b=a*b'
  rw [ha,hb,Int.mul_left_comm,Int.mul_assoc]
theorem fJ (g:Nat) (x:Int) (hg:0<g):x.natAbs<=((g:Int)*x).natAbs:=by
 rw [Int.natAbs_mul,Int.natAbs_natCast]
 exact Nat.le_mul_of_pos_left _ hg
theorem i9 (a b:Int) (h:b ≠ 0):(nrm a b).1.natAbs<=a.natAbs/\(nrm a b).2.natAbs<=b.natAbs:=by
 obtain ⟨g,a',b',hg,_,ha,hb,c,e⟩:=jt a b h
 have h1:=fJ g a' hg
 have h2:=fJ g b' hg
 rw [<- ha] at h1
 rw [<- hb] at h2
 rw [e]
 split
 ·exact ⟨by show (-a').natAbs<=_; omega,by show (-b').natAbs<=_; omega⟩
 ·exact ⟨h1,h2⟩
theorem gj (a b:Int) (h:0<b):nrm a b=(a,b)↔Int.gcd a b=1:=by
 obtain ⟨g,a',b',hg,eg,ha,hb,c,e⟩:=jt a b (by omega)
 constructor
 ·intro z
  have:=dE a b (by omega)
  rw [z] at this
  exact this
 ·intro z
  rw [z] at eg
  subst eg
  rw [e,if_neg (by omega)]
  rw [show a'=a by omega,show b'=b by omega]
theorem idvd {k m n:Int} (h:Int.gcd k m=1) (hd:k ∣ m*n):k ∣ n:=Int.natAbs_dvd_natAbs.mp (Nat.Coprime.dvd_of_dvd_mul_left (show Nat.Coprime k.natAbs m.natAbs from h) (by rw [<- Int.natAbs_mul]; exact Int.natAbs_dvd_natAbs.mpr hd))
theorem low_one {n d n' d':Int} (h1:0<d) (h2:0<d') (c1:Int.gcd n d=1) (c2:Int.gcd n' d'=1) (e:n*d'=n' * d):n=n'/\d=d':=by
 have g1:Int.gcd d n=1:=by rw [Int.gcd_comm]; exact c1
 have g2:Int.gcd d' n'=1:=by rw [Int.gcd_comm]; exact c2
 have d1:d ∣ d':=idvd g1 (show d ∣ n*d' from ⟨n',by rw [e,Int.mul_comm]⟩)
 have d2:d' ∣ d:=idvd g2 (show d' ∣ n' * d from ⟨n,by rw [<- e,Int.mul_comm]⟩)
 have ed:d=d':=Int.dvd_antisymm (by omega) (by omega) d1 d2
 subst ed
 exact ⟨Int.eq_of_mul_eq_mul_right (by omega) e,rfl⟩
end L2
namespace L2
open PySem PySem.Spec PyProof.Rows
theorem comp_lst {K:Frag} {a:Addr} {xs:List V} {te:TE} {Q:VK} {rest:St} {src:List (Option Nat)} {σ:St} {H0:Hp} (f:V->V) (hσ:bG src σ=none::rest) (hx:SqL K H0 a xs) (hl:xs.length<=sizeLine)
  (he:∀ (i:Nat) x H (R:VK),xs[i]? = some x->mY H0 H->R (f x) H->te (some x::rest) H R)
  (hd:∀ acc H,H0 acc=none->mY H0 H->H acc=some (.lst (xs.map f))->Q (.ref acc) H) :
  cf (Itl K a) src (cB 0) tYes te σ H0 Q:=by
 intro acc hacc
 rw [hσ]
 have hlen:(xs.map f).length=xs.length:=length_map ..
 refine gQ (n:=xs.length) (λi zs σ H=>mY H0 H/\zs=(xs.map f).take i/\∃ u,σ=u::rest) (by omega) ⟨mY.new hacc,rfl,none,rfl⟩ ?_ ?_ ?_ ?_
 ·rintro i zs σ H hi hz ⟨sm,_⟩
  exact ⟨xs,xs[i],sm.seq hx,by simp⟩
 ·rintro zs σ H hz ⟨sm,_⟩
  exact ⟨xs,sm.seq hx,Nat.le_refl _⟩
 ·rintro i zs σ H x H' hi hz hzl ⟨sm,ez,u,rfl⟩ ⟨rfl,gx⟩
  have hx1:=gx xs (sm.seq hx)
  show te (some x::rest) _ _
  refine he i x _ _ hx1 sm ?_
  refine ⟨zs,hz,by omega,zs++[f x],ac,by rw [length_append,length_singleton]; omega,sm.put hacc,?_,_,rfl⟩
  rw [take_map f xs i x hx1,ez]
 ·rintro zs σ H hz hzl ⟨sm,ez,_⟩
  refine hd acc H hacc sm ?_
  rw [hz,ez,take_of_length_le (by omega)]
end L2
set_option exponentiation.threshold 5000
namespace L2
open PySem PySem.Spec PyProof.Rows
def cG (P:Int) (x y:Int × Int):Int × Int:=if P=0 then nrm (x.1*y.2+y.1*x.2) (x.2*y.2) else ((x.1+y.1) % P,1)
def subN (P:Int) (x y:Int × Int):Int × Int:=if P=0 then nrm (x.1*y.2-y.1*x.2) (x.2*y.2) else ((x.1-y.1) % P,1)
def fC (P:Int) (x y:Int × Int):Int × Int:=if P=0 then nrm (x.1*y.1) (x.2*y.2) else ((x.1*y.1) % P,1)
def OkN (P:Int) (x:Int × Int):Prop:=(P=0/\0<x.2/\Int.gcd x.1 x.2=1)\/(P ≠ 0/\0<=x.1/\x.1<P/\x.2=1)
theorem me {a b:Int} (h:b ≠ 0):OkN 0 (nrm a b):=.inl ⟨rfl,cR a b h,dE a b h⟩
theorem mr {P a:Int} (h:0<=P) (h0:P ≠ 0):OkN P (a % P,1):=.inr ⟨h0,Int.emod_nonneg a h0,Int.emod_lt_of_pos a (by omega),rfl⟩
theorem OkN.den {P:Int} {x:Int × Int} (h:OkN P x):0<x.2:=by
 rcases h with ⟨_,h,_⟩ | ⟨_,_,_,h⟩<;>omega
theorem dF {x y:Int × Int} (h1:0<x.2) (h2:0<y.2):x.2*y.2 ≠ 0:=λz=>by have:=Int.mul_pos h1 h2; omega
theorem okN_add {P:Int} {x y:Int × Int} (hP:0<=P) (h1:OkN P x) (h2:OkN P y):OkN P (cG P x y):=by
 unfold cG
 split
 ·rename_i h; subst h; exact me (dF h1.den h2.den)
 ·exact mr hP ‹_›
theorem okN_mul {P:Int} {x y:Int × Int} (hP:0<=P) (h1:OkN P x) (h2:OkN P y):OkN P (fC P x y):=by
 unfold fC
 split
 ·rename_i h; subst h; exact me (dF h1.den h2.den)
 ·exact mr hP ‹_›
theorem dA {P:Int} (hP:0<=P) (h2:P ≠ 1):OkN P (0,1):=by
 by_cases h:P=0
 ·exact .inl ⟨h,by decide,by decide⟩
 ·exact .inr ⟨h,by decide,by show (0:Int)<P; omega,rfl⟩
def Sz (k:Nat) (x:Int × Int):Prop:=x.1.natAbs<2 ^ k/\x.2.natAbs<2 ^ k
theorem db {a b:Int} {i j:Nat} (h1:a.natAbs<2 ^ i) (h2:b.natAbs<2 ^ j):(a*b).natAbs<2 ^ (i+j):=by
 rw [Int.natAbs_mul,Nat.pow_add]
 exact Nat.mul_lt_mul'' h1 h2
theorem sz_add {a b:Int} {k:Nat} (h1:a.natAbs<2 ^ k) (h2:b.natAbs<2 ^ k):(a+b).natAbs<2 ^ (k+1)/\(a-b).natAbs<2 ^ (k+1):=by
 rw [Nat.pow_succ]
 omega
theorem cN {i j:Nat} (h:i<=j):2 ^ i<=2 ^ j:=Nat.pow_le_pow_right (by decide) h
theorem Sz.mono {i j:Nat} {x:Int × Int} (h:Sz i x) (hij:i<=j):Sz j x:=⟨Nat.lt_of_lt_of_le h.1 (cN hij),Nat.lt_of_lt_of_le h.2 (cN hij)⟩
theorem lH {a b:Int} {k:Nat} (hb:b ≠ 0) (h1:a.natAbs<2 ^ k) (h2:b.natAbs<2 ^ k):Sz k (nrm a b):=⟨Nat.lt_of_le_of_lt (i9 a b hb).1 h1,Nat.lt_of_le_of_lt (i9 a b hb).2 h2⟩
theorem mI {P a:Int} (h:0<=P) (h0:P ≠ 0) (h9:P<=9973) {k:Nat} (hk:14<=k):Sz k (a % P,1):=by
 have h1:=Int.emod_nonneg a h0
 have h2:=Int.emod_lt_of_pos a (show 0<P by omega)
 have h3:2 ^ 14<=2 ^ k:=cN hk
 exact ⟨by show (a % P).natAbs<2 ^ k; omega,by show (1:Int).natAbs<2 ^ k; omega⟩
theorem lZ {P:Int} {x y:Int × Int} {i j:Nat} (hP:0<=P) (h9:P<=9973) (o1:OkN P x) (o2:OkN P y) (h1:Sz i x) (h2:Sz j y) (hi:14<=i):Sz (i+j+1) (cG P x y)/\Sz (i+j+1) (subN P x y)/\Sz (i+j+1) (fC P x y):=by
 have d:=dF o1.den o2.den
 have m1:=db h1.1 h2.2
 have m2:=db h2.1 h1.2
 rw [Nat.add_comm j i] at m2
 have m3:=db h1.2 h2.2
 have m4:=db h1.1 h2.1
 have a:=sz_add m1 m2
 have le:2 ^ (i+j)<=2 ^ (i+j+1):=cN (by omega)
 refine ⟨?_,?_,?_⟩
 ·unfold cG
  split
  ·exact lH d a.1 (by omega)
  ·exact mI hP ‹_› h9 (by omega)
 ·unfold subN
  split
  ·exact lH d a.2 (by omega)
  ·exact mI hP ‹_› h9 (by omega)
 ·unfold fC
  split
  ·exact lH d (by omega) (by omega)
  ·exact mI hP ‹_› h9 (by omega)
structure FunD (K:Frag) (x qual:Str) (st:Stmt) (f:Addr) (fd:FuncData):Prop where
 ex:∃ (oc:Value) (od:Option Addr) (dV kV doc pm:Value) (an:Option Addr) (cdv ct:Value) (osl:Array (Option Value)),
  fd=fnOf x qual (aR st) (aK st) (al st) dV kV doc pm an cdv ct/\K.lookup f=some ⟨oc,od,.func fd,osl⟩/\codeIn K cdv qual=true
 kp:keepIn K (.ref f)=true
section
variable {P:Program} {w:World} {K:Frag} {mg:Str->Option Value} {base:Heap}
theorem funD_mk {x qual:Str} {st:Stmt} {f:Addr} {oc:Value} {od an:Option Addr} {osl:Array (Option Value)} {dV kV doc pm cdv ct:Value} (l:K.lookup f=some ⟨oc,od,.func (fnOf x qual (aR st) (aK st) (al st) dV kV doc pm an cdv ct),osl⟩)
  (c:codeIn K cdv qual=true) (k:keepIn K (.ref f)=true):FunD K x qual st f (fnOf x qual (aR st) (aK st) (al st) dV kV doc pm an cdv ct):=⟨⟨oc,od,dV,kV,doc,pm,an,cdv,ct,osl,rfl,l,c⟩,k⟩
end
structure Fly (P:Program) (w:World) (outer:List Env) (H:Hp) (s:Shared) (x:Addr) (cls:Value) (B:Heap) (H':Hp) (s':Shared):Prop where
 os:s'.os=s.os
 bare:AllBare s'.gens
 fly:∃ a0,Heap.FlyingW B outer x cls a0 s'.heap
 keep:∀ b o,s.heap.get? b=some o->H b=none->b ∉ frs outer->B.get? b=some o
 there:∀ b o,s.heap.get? b=some o->b ∉ frs outer->∃ o',B.get? b=some o'
 slot:∀ b o,s.heap.get? b=some o->b ∈ frs outer->∃ sl,s'.heap.get? b=some { o with slots:=sl }
 free:∀ b o,s.heap.get? b=some o->H b=none->H' b=none
 tups:∀ b xs,H b=some (.tup xs)->H' b=some (.tup xs)
 frzs:∀ b o u,H b=some (.frz o u)->H' b=some (.frz o u)
 tbls:∀ b ps,H b=some (.tbl ps)->∃ more,H' b=some (.tbl (ps++more))
 hok:HOk P w H' B
def CXE (P:Program) (w:World):CXT:=λouter H s E e s'=>∃ x cls B H',e=.ref x/\Fly P w outer H s x cls B H' s'/\E cls none H'
theorem fc {X:Cx} {P:Program} {w:World}:cu (CXE P w) X E0:=λ_ _ _ _ _ _ _ ⟨_,_,_,_,_,_,z⟩=>z.elim
theorem ny.obj {P:Program} {w:World} {H:Hp} {h:Heap} {a:Addr} {o:HO} (x:ny P w H h a o):∃ ob,h.get? a=some ob:=by
 cases o with
 | lst xs=>obtain ⟨_,_,_,_,e⟩:=x; exact ⟨_,e⟩
 | tup xs=>obtain ⟨_,_,_,ob,e,_⟩:=x; exact ⟨ob,e⟩
 | dK kvs=>obtain ⟨_,_,_,_,ob,_,_,e,_⟩:=x; exact ⟨_,e⟩
 | dT kvs=>obtain ⟨_,_,_,_,ob,_,_,e,_⟩:=x; exact ⟨_,e⟩
 | set S n=>obtain ⟨ob,_,_,_,e,_⟩:=x; exact ⟨_,e⟩
 | ins C dx fs=>obtain ⟨_,_,_,e,_⟩:=x; exact ⟨_,e⟩
 | own y=>exact x
 | xd fs=>obtain ⟨_,⟨_,_,_,e,_⟩,_⟩:=x; exact ⟨_,e⟩
 | rng lo hi=>obtain ⟨_,_,_,e⟩:=x; exact ⟨_,e⟩
 | frz ob u=>obtain ⟨e,_⟩:=x; exact ⟨_,e⟩
 | tbl ps=>exact ⟨_,(show h.get? a=some _ from x)⟩
 | met f y=>exact ⟨_,(show h.get? a=some _ from x)⟩
 | ext φ=>obtain ⟨_,⟨_,e⟩,_⟩:=x; exact ⟨_,e⟩
section
variable {P:Program} {w:World} {K:Frag} {mg:Str->Option Value} {base:Heap} {N:List Str} {qual:Str} {scope:Scope} {f:Addr} {cd:Value} {A:Around} {outer:List Env} {s₀ s:Shared} {H₀ H:Hp} {E:XK} {pins:List (Addr × Obj)} {σ:St}
theorem xe_raise {h':Heap} {e:Addr} {cls:Value} {args:List Value} (I:Inv (bR (CXE P w) P w K mg base N qual scope f cd A outer s₀ H₀ E) pins σ H s) (hx:Heap.MadeExcOf s.heap h' e cls args) (q:E cls none H) :
  (bR (CXE P w) P w K mg base N qual scope f cd A outer s₀ H₀ E).xe (.ref e) { s with heap:=h' }:=by
 show wpAny (model P w) (A.deeper (envOfC qual scope s₀.heap.objs.size f cd)) (leaving (envOfC qual scope s₀.heap.objs.size f cd) (.ref e)) (λ_ s''=>CXE P w outer H₀ s₀ E (.ref e) s'') (λe' s''=>CXE P w outer H₀ s₀ E e' s'') { s with heap:=h' }
 have hst:s.heap.FunFrames base (envOfC qual scope s₀.heap.objs.size f cd::outer):=I.stack
 have noEx:∀ b:Addr,b ∉ (bR (CXE P w) P w K mg base N qual scope f cd A outer s₀ H₀ E).ex:=λb z=>absurd (show b ∈ ([]:List Addr) from z) (by simp)
 have nL:∀ b o,s₀.heap.get? b=some o->b ∉ frs outer->b ∉ frs (envOfC qual scope s₀.heap.objs.size f cd::outer):=λb o e1 hb hm=>by
  rcases List.mem_cons.mp (I.stkSub b hm) with z | z
  ·have hlt:=lt_size e1
   rw [show b=s₀.heap.objs.size from z] at hlt
   exact absurd hlt (Nat.lt_irrefl _)
  ·exact hb z
 refine wpAny_leaves_madeW (base:=PySem.W.hideAll s.heap (frs (envOfC qual scope s₀.heap.objs.size f cd::outer))) (h:=s.heap) I.ok.frames rfl (λb o z=>PySem.W.of_hideAll _ z)
  (PySem.W.funFrames_hide hst λenv he a ha=>List.mem_filterMap.mpr ⟨env,he,ha⟩) hx λh'' t fl _ _ up=>?_
 refine ⟨e,cls,_,H,rfl,⟨I.os,I.bare,⟨_,fl⟩,λb o e1 n hb=>?_,λb o e1 hb=>?_,λb o e1 hb=>?_,λb o e1 n=>I.base.free b o e1 n (noEx b),I.base.tups,I.base.frzs,I.base.tbls,λa ob ea=>?_⟩,q⟩
 ·exact hideAll_get _ (I.base.keep b o e1 n hb (noEx b)) (nL b o e1 hb)
 ·obtain ⟨o',e2⟩:=I.base.there b o e1 (noEx b)
  exact ⟨o',hideAll_get _ e2 (nL b o e1 hb)⟩
 ·obtain ⟨sl,e2⟩:=I.base.slot b o e1 (I.ok.frf b hb) hb (noEx b)
  obtain ⟨_,o3,e3,hd⟩:=I.ok.funs.mem hb
  have e1':(bR (CXE P w) P w K mg base N qual scope f cd A outer s₀ H₀ E).s₀.heap.get? b=some o:=e1
  rw [e1'] at e3
  cases e3
  obtain ⟨sl2,e4⟩:=up b _ (hx.keeps b _ e2) hd
  exact ⟨sl2,e4⟩
 ·refine (I.hok a ob ea).stay (λb u hb e2=>hideAll_get _ e2 λhm=>?_) (λ_ z=>z) λ_ _ z=>z
  have hn:=I.stkFree b hm
  rcases hb with z | z
  ·rw [z,ea] at hn; cases hn
  ·rw [z] at hn; cases hn
theorem passes_on:cu (CXE P w) (bR (CXE P w) P w K mg base N qual scope f cd A outer s₀ H₀ E) E:=by
 intro pins σ H s e s' I hx
 obtain ⟨x,cls,B,H',rfl,F,q⟩:=hx
 show wpAny (model P w) (A.deeper (envOfC qual scope s₀.heap.objs.size f cd)) (leaving (envOfC qual scope s₀.heap.objs.size f cd) (.ref x)) (λ_ s''=>CXE P w outer H₀ s₀ E (.ref x) s'') (λe' s''=>CXE P w outer H₀ s₀ E e' s'') s'
 have noEx:∀ b:Addr,b ∉ (bR (CXE P w) P w K mg base N qual scope f cd A outer s₀ H₀ E).ex:=λb z=>absurd (show b ∈ ([]:List Addr) from z) (by simp)
 have nL:∀ b o,s₀.heap.get? b=some o->b ∉ frs outer->b ∉ frs (envOfC qual scope s₀.heap.objs.size f cd::outer):=λb o e1 hb hm=>by
  rcases List.mem_cons.mp (I.stkSub b hm) with z | z
  ·have hlt:=lt_size e1
   rw [show b=s₀.heap.objs.size from z] at hlt
   exact absurd hlt (Nat.lt_irrefl _)
  ·exact hb z
 obtain ⟨a0,fl⟩:=F.fly
 refine wpAny_leaves_onW (base:=B) I.ok.frames rfl fl λh'' fl2 up=>?_
 refine ⟨x,cls,B,H',rfl,⟨F.os.trans I.os,F.bare,⟨_,fl2⟩,λb o e1 n hb=>?_,λb o e1 hb=>?_,λb o e1 hb=>?_,λb o e1 n=>?_,λb xs e1=>F.tups b xs (I.base.tups b xs e1),λb o u e1=>F.frzs b o u (I.base.frzs b o u e1),λb ps e1=>?_,F.hok⟩,q⟩
 ·exact F.keep b o (I.base.keep b o e1 n hb (noEx b)) (I.base.free b o e1 n (noEx b)) (nL b o e1 hb)
 ·obtain ⟨o',e2⟩:=I.base.there b o e1 (noEx b)
  exact F.there b o' e2 (nL b o e1 hb)
 ·obtain ⟨sl,e2⟩:=I.base.slot b o e1 (I.ok.frf b hb) hb (noEx b)
  obtain ⟨_,o3,e3,hd⟩:=I.ok.funs.mem hb
  have e1':(bR (CXE P w) P w K mg base N qual scope f cd A outer s₀ H₀ E).s₀.heap.get? b=some o:=e1
  rw [e1'] at e3
  cases e3
  have hb':b ∈ frs (envOfC qual scope s₀.heap.objs.size f cd::outer):=by
   obtain ⟨env,he,hf⟩:=List.mem_filterMap.mp hb
   exact List.mem_filterMap.mpr ⟨env,mem_cons_of_mem _ he,hf⟩
  obtain ⟨sl2,e4⟩:=F.slot b _ e2 hb'
  obtain ⟨sl3,e5⟩:=up b _ e4 hd
  exact ⟨sl3,e5⟩
 ·obtain ⟨o',e2⟩:=I.base.there b o e1 (noEx b)
  exact F.free b o' e2 (I.base.free b o e1 n (noEx b))
 ·obtain ⟨m1,e2⟩:=I.base.tbls b ps e1
  obtain ⟨m2,e3⟩:=F.tbls b _ e2
  exact ⟨m1++m2,by rw [e3,Array.append_assoc]⟩
end
abbrev iq:List Value:=[.type "ValueError",.type "Exception",.type "BaseException",.type "object"]
abbrev ExcK (K:Frag) (C:Addr):Prop:=excIn K C iq "ValueError.__new__"=true
theorem mz {K:Frag} {h:Heap} {C:Addr} (X:K.In h) (q:ExcK K C):∃ bm N nm qn bs hdct sn sub ab col dd k0 k1 k2 k3 k5 mN,
  h.get? C=some (excClassObj nm qn C N bs bm hdct sn sub ab col dd k0 k1 k2 k3 k5 "ValueError.__new__")/\h.Ns N mN/\mN "__init__" = none/\OwnTail h iq bm:=by
 have q':=q
 unfold ExcK excIn at q'
 cases hl:K.lookup C with
 | none=>rw [hl] at q'; cases q'
 | some ob=>
  rw [hl] at q'
  obtain ⟨oc,od,oda,osl⟩:=ob
  split at q'
  ·rename_i dz cz sz heq
   cases heq
   split at q'
   ·rename_i Cz bz z0 z1 z2 z3 nz z5 hm hs
    rw [Bool.and_eq_true,Bool.and_eq_true,Bool.and_eq_true,Bool.and_eq_true,Bool.and_eq_true] at q'
    obtain ⟨⟨⟨⟨⟨w1,w2⟩,w3⟩,w4⟩,w5⟩,w6⟩:=q'
    obtain ⟨c1,c2,c3,c4,c5,c6,c7,c8,c9,c10,c11⟩:=cz
    have e1:=beq_iff_eq.mp w1
    have e2:=beq_iff_eq.mp w2
    have e6:=beq_iff_eq.mp w6
    have e3:c11=false:=by simpa using w3
    have em:c3=.ref Cz::bz:=hm
    subst e1 e2 e3 em
    have es:osl = #[z0,z1,z2,z3,some (.builtin "ValueError.__new__"),z5]:=by
     cases osl
     simp only at hs
     rw [hs]
    subst es
    exact ⟨bz,_,_,_,_,_,_,_,_,_,_,_,_,_,_,_,_,X _ _ hl,.of_isNs (PySem.W.isNs_of_in X w5),PySem.W.nsMap_none_of_in X w5 e6,PySem.W.tail_of_in X w4⟩
   ·cases q'
  ·cases q'
def tRaise (E:XK) (C:Addr) (t:TA):TS:=λ_ σ H=>t σ H λvs H1=>vs.length<=sizeLine/\E (.ref C) none H1
section
variable {P:Program} {w:World} {K:Frag} {mg:Str->Option Value} {base:Heap} {N:List Str} {qual:Str} {scope:Scope} {f:Addr} {cd:Value} {A:Around} {outer:List Env} {s₀:Shared} {H₀:Hp} {E:XK}
theorem gO {C:Addr} {x:Str} {np cpos pos:Pos} {e₀:Expr} {es:List Expr} {t:TA} (hC:ExcK K C) (hm:mg x=some (.ref C)) (ha:PA (bR (CXE P w) P w K mg base N qual scope f cd A outer s₀ H₀ E) (e₀::es) t)
  (hg:Gl (bR (CXE P w) P w K mg base N qual scope f cd A outer s₀ H₀ E) x:=by rfl) (hd:(x == ("__debug__" : Str))=false:=by decide)
  (he:starEach (e₀::es) (bR (CXE P w) P w K mg base N qual scope f cd A outer s₀ H₀ E).env=(false,eval e₀ (bR (CXE P w) P w K mg base N qual scope f cd A outer s₀ H₀ E).env)::starEach es (bR (CXE P w) P w K mg base N qual scope f cd A outer s₀ H₀ E).env:=by rfl)
  (hpl:(backTo cpos (starEach es (bR (CXE P w) P w K mg base N qual scope f cd A outer s₀ H₀ E).env)).any (·.1)=false:=by rfl) :
  PS (bR (CXE P w) P w K mg base N qual scope f cd A outer s₀ H₀ E) (.Raise (some (.Call (.Name x np) (e₀::es) [] cpos)) none pos) (tRaise E C t):=by
 intro pins s σ H D I h
 obtain ⟨bm,Nn,nm,qn,bs,hdct,sn,sub,ab,col,dd,k0,k1,k2,k3,k5,mN,hCo,hN,hni,T⟩:=mz I.mod.kin hC
 have any0:(backTo cpos (starEach (e₀::es) (bR (CXE P w) P w K mg base N qual scope f cd A outer s₀ H₀ E).env)).any (·.1)=false:=by
  rw [he]
  show (false || (backTo cpos (starEach es _)).any (·.1))=false
  rw [hpl]; rfl
 refine wpAny_Raise_call_subU (C:=C) (nm:=nm) (q:=qn) (N:=Nn) (bs:=bs) (bm:=bm) (hdct:=hdct) (sn:=sn) (sub:=sub) (ab:=ab) (col:=col) (dd:=dd) (k0:=k0) (k1:=k1) (k2:=k2) (k3:=k3) (k5:=k5)
  PySem.F.excBase_ValueError (bmB:=iq) (by decide +kernel) PySem.F.excBase_ValueError (mN:=mN) (T.hasType PySem.F.excBase_ValueError.hasBase) (I.ok.hd rfl) any0 hni (dZ I hg hm ⟨rfl,?_⟩ hd)
 have a1:=ha cpos pins s σ H _ I h
 rw [he] at a1 ⊢
 refine Calls.evalArgs_plain (wpAny_mono a1 (λus s2 z=>?_) λ_ _ z=>z)
 obtain ⟨vs,H2,I2,r,hlen,q⟩:=z
 exact ⟨rfl,by rw [<- r.length]; exact hlen,I2.bk _ _ hCo,hN.keeps I2.bk,T.keeps I2.bk,λh' e mk=>xe_raise I2 mk q⟩
end
section
variable {P:Program} {w:World} {K:Frag} {mg:Str->Option Value} {base:Heap}
theorem Fun.okX {x qual:Str} {st:Stmt} {f:Addr} {fd:FuncData} {N ps:List Str} {k:Nat} {sp:Sp} (F:Fun K x qual st f fd) (S:mZ N ps (al st)) (len:∀ vs H Q E,sp vs H Q E->vs.length=ps.length)
  (hbody:∀ (cdv:Value) (A:Around) (outer:List Env) (s:Shared) (H:Hp) (vs:List V) (Q:VK) (E:XK),nC k (A.deeper (envOfC qual (al st) s.heap.objs.size f cdv))->sp vs H Q E->
   ∃ t,PSs (bR (CXE P w) P w K mg base N qual (al st) f cdv A outer s H E) (aK st) t/\t { nx:=λ_ H'=>Q .non H',rt:=Q } (bS N vs) H):nk P w K mg base (CXE P w) (k+1) f fd ps sp:=by
 obtain ⟨oc,od,kV,doc,pm,an,cdv,ct,osl,rfl,lk,hcd⟩:=F.ex
 exact fn_of lk hcd S len λA outer s H vs Q E hr hsp=>hbody cdv A outer s H vs Q E hr hsp
theorem FunD.okX {x qual:Str} {st:Stmt} {f:Addr} {fd:FuncData} {N ps:List Str} {k:Nat} {sp:Sp} (F:FunD K x qual st f fd) (S:mZ N ps (al st)) (len:∀ vs H Q E,sp vs H Q E->vs.length=ps.length)
  (hbody:∀ (cdv:Value) (A:Around) (outer:List Env) (s:Shared) (H:Hp) (vs:List V) (Q:VK) (E:XK),nC k (A.deeper (envOfC qual (al st) s.heap.objs.size f cdv))->sp vs H Q E->
   ∃ t,PSs (bR (CXE P w) P w K mg base N qual (al st) f cdv A outer s H E) (aK st) t/\t { nx:=λ_ H'=>Q .non H',rt:=Q } (bS N vs) H):nk P w K mg base (CXE P w) (k+1) f fd ps sp:=by
 obtain ⟨oc,od,dV,kV,doc,pm,an,cdv,ct,osl,rfl,lk,hcd⟩:=F.ex
 exact fn_of lk hcd S len λA outer s H vs Q E hr hsp=>hbody cdv A outer s H vs Q E hr hsp
end
structure lR (P:Program) (w:World) (K:Frag) (mg:Str->Option Value) (base:Heap) (k:Nat) (x:Str) (sp:Sp):Prop where
 ex:∃ f fd ps,nk P w K mg base (CXE P w) k f fd ps sp/\mg x=some (.ref f)/\keepIn K (.ref f)=true/\nY K fd ps []
structure kg (P:Program) (w:World) (K:Frag) (mg:Str->Option Value) (base:Heap) (k:Nat) (C:Addr) (m:Str) (dvs:List V) (sp:Sp):Prop where
 ex:∃ f fd ps ds,nk P w K mg base (CXE P w) k f fd ps sp/\f6 K C m f/\nY K fd ps ds/\ni dvs ds
 cl:Cls K C
structure MkBX (P:Program) (w:World) (K:Frag) (mg:Str->Option Value) (base:Heap) (k:Nat) (C:Addr) (x:Str) (sp:Sp):Prop where
 ex:∃ f fd ps,nk P w K mg base (CXE P w) k f fd ps sp/\Mk K C f/\nY K fd ps []
 at_:mg x=some (.ref C)
section
variable {X:Cx} {C:Addr} {x m:Str} {k:Nat} {sp:Sp} {dvs:List V} {p pos apos:Pos} {e o:Expr} {es:List Expr} {te ta:TE} {t:TA} {E:XK}
theorem pe_fnX (F:lR X.prog X.w X.K X.mg X.base k x sp) (hr:nC k X.A) (hx:cu (CXE X.prog X.w) X E) (ha:PA X (e::es) t) (hg:Gl X x:=by rfl) (hdb:(x == ("__debug__" : Str))=false:=by decide)
  (he:starEach (e::es) X.env=(false,eval e X.env)::starEach es X.env:=by rfl) (hpl:(backTo pos (starEach es X.env)).any (·.1)=false:=by rfl) :
  PE X (.Call (.Name x p) (e::es) [] pos) (tCall sp [] E t):=by
 obtain ⟨f,fd,ps,F,hm,hk,hb⟩:=F.ex
 exact pe_call F hr hg hm hk hb .nil hx ha hdb he hpl
theorem js {pl:Sem Bool} (M:kg X.prog X.w X.K X.mg X.base k C m dvs sp) (hr:nC k X.A) (hx:cu (CXE X.prog X.w) X E) (he:PE X o ta) (ha:PA X (e::es) t)
  (hst:starEach (e::es) X.env=(false,eval e X.env)::starEach es X.env:=by rfl) (hpl:(backTo pos (starEach es X.env)).any (·.1)=false:=by rfl)
  (ht:eval (.Call (.Attribute o m apos) (e::es) [] pos) X.env=(do
   let ov <- eval o X.env
   standAt apos.atName
   let (f,first) <- holding [ov] (getMethod ov m pl)
   callWith pos f first (backTo pos (starEach (e::es) X.env)) (backToKw pos (keywordEach [] X.env))):=by rfl) :
  PE X (.Call (.Attribute o m apos) (e::es) [] pos) (fg C m sp dvs E ta t):=by
 obtain ⟨f,fd,ps,ds,F,hm,hb,hv⟩:=M.ex
 exact pe_meth he M.cl hm F hr hb hv hx ha hst hpl ht
theorem pe_mkX (M:MkBX X.prog X.w X.K X.mg X.base k C x sp) (hr:nC (k+1) X.A) (hx:cu (CXE X.prog X.w) X E) (ha:PA X (e::es) t) (hg:Gl X x:=by rfl) (hdb:(x == ("__debug__" : Str))=false:=by decide)
  (he:starEach (e::es) X.env=(false,eval e X.env)::starEach es X.env:=by rfl) (hpl:(backTo pos (starEach es X.env)).any (·.1)=false:=by rfl) :
  PE X (.Call (.Name x p) (e::es) [] pos) (tMake C sp [] E t):=by
 obtain ⟨f,fd,ps,F,hm,hb⟩:=M.ex
 exact pe_make hm F hr hg M.at_ hb .nil hx ha hdb he hpl
end
def excO (x C:Addr):HO:=.ext λh=>∃ oe,h.get? x=some oe/\oe.cls=.ref C
def XQ (X:Cx) (pins:List (Addr × Obj)) (σ:St) (EX:XK) (e:Value) (s':Shared):Prop:=∃ H1 s1,Inv X pins σ H1 s1/\CXE X.prog X.w X.stack H1 s1 EX e s'
def PEX (X:Cx) (e:Expr) (t:XK->TE):Prop:=
 ∀ (pins:List (Addr × Obj)) (s:Shared) (σ:St) (H:Hp) (Q:VK) (EX:XK),Inv X pins σ H s->t EX σ H Q->wpAny (model X.prog X.w) X.A (eval e X.env) (EP X pins σ Q) (XQ X pins σ EX) s
def PSX (X:Cx) (st:List Stmt) (t:XK->TS):Prop:=
 ∀ (pins:List (Addr × Obj)) (s:Shared) (σ:St) (H:Hp) (D:eG) (EX:XK),Inv X pins σ H s->t EX D σ H->wpAny (model X.prog X.w) X.A (execs st X.env) (SP X pins D) (XQ X pins σ EX) s
section
variable {X:Cx} {C:Addr} {x m:Str} {k:Nat} {sp:Sp} {dvs:List V} {ds:List Value} {p pos apos:Pos} {e o:Expr} {es:List Expr} {te ta:TE} {t:TA} {E:XK} {f:Addr} {fd:FuncData} {ps:List Str}
theorem run_fnx {pins:List (Addr × Obj)} {σ:St} {H:Hp} {s:Shared} {Q:VK} {us:List Value} {vs:List V} (F:nk X.prog X.w X.K X.mg X.base (CXE X.prog X.w) k f fd ps sp) (hr:nC k X.A) (hb:nY X.K fd ps ds) (hd:ni dvs ds)
  (I:Inv X pins σ H s) (r:ni vs us) (h:sp (vs++dvs) H Q E):wpAny (model X.prog X.w) X.A (call (.ref f) us) (EP X pins σ Q) (XQ X pins σ E) s:=by
 have r2:ni (vs++dvs) (us++ds):=r.append hd
 have hl:(us++ds).length=ps.length:=by rw [<- r2.length]; exact F.len _ _ _ _ h
 refine wpAny_call (codeAny_mono (F.run X.A X.stack s H ⟨us,[]⟩ (us++ds) (vs++dvs) Q E hr I.env0 (hb s us I.kIn hl) r2 h) λr s' hq=>?_)
 cases r with
 | error e=>exact ⟨H,s,I,hq⟩
 | ok fl=>
  cases fl with
  | ret u=>exact I.after hq
  | next=>exact False.elim hq
  | brk=>exact False.elim hq
  | cont=>exact False.elim hq
theorem pex_fn (F:lR X.prog X.w X.K X.mg X.base k x sp) (hr:nC k X.A) (ha:PA X.nox (e::es) t) (hg:Gl X x:=by rfl) (hdb:(x == ("__debug__" : Str))=false:=by decide)
  (he:starEach (e::es) X.env=(false,eval e X.env)::starEach es X.env:=by rfl) (hpl:(backTo pos (starEach es X.env)).any (·.1)=false:=by rfl) :
  PEX X (.Call (.Name x p) (e::es) [] pos) (λEX=>tCall sp [] EX t):=by
 obtain ⟨f,fd,ps,F,hm,hk,hb⟩:=F.ex
 intro pins s σ H Q EX I h
 refine wpAny_Call_Name_kw (dZ I hg hm ?_ hdb)
 refine callWith_K (h₀:=X.base) I.ok.mod.kin hk (wpAny_mono (ha pos pins s σ H _ (I.wish _) h) (λus s1 z=>?_) λ_ _ z=>False.elim z) he hpl
 obtain ⟨vs,H1,I1,r,q⟩:=z
 exact ⟨I1.kIn,run_fnx F hr hb .nil I1.unwish r q⟩
theorem psx_expr {t:XK->TE} (he:PEX X e t) (hs:swapsWith e none pos.line X.env=pure false:=by rfl):PSX X [.Expr e pos] (λEX=>tDrop (t EX)):=by
 intro pins s σ H D EX I h
 refine wpAny_execs_cons (thn (Q:=SP X pins D) ?_ λf s1 q=>?_)
 ·exact wpAny_Expr_any (thn (he pins s σ H _ EX I h) λv s1 ⟨y,H1,I1,r1,q1⟩=>⟨σ,H1,I1,q1⟩) I.quiet hs
 ·cases f with
  | next=>exact wpAny_execs_nil q
  | ret v=>exact q
  | brk=>exact q
  | cont=>exact q
end
abbrev Cx.caught (X:Cx) (x:Addr):Cx:={ X with A:=X.A.mark (some (.ref x)),calm:=false,xe:=λ_ _=>False }
section
variable {X:Cx} {pins:List (Addr × Obj)} {σ:St} {H H1 H':Hp} {s s1 s':Shared} {x C:Addr} {cls:Value} {B h:Heap}
theorem Inv.caught (I:Inv X pins σ H s) (x:Addr):Inv (X.caught x) pins σ H s:=
 have ok:=I.ok
 ⟨⟨ok.mod,ok.kind,ok.glob,ok.blt,ok.above,ok.inj,ok.has,ok.cab,(λz=>nomatch z),ok.frames,ok.stk,ok.exf,ok.bs,ok.bsz,ok.noex,ok.exfs,ok.funs,ok.frf⟩,I.os,I.bare,I.base,I.loc,I.cell,I.free,I.freeC,I.pin,I.hok,I.len⟩
theorem Inv.uncaught (I:Inv (X.caught x) pins σ H s) (hd:X.calm=true->X.A.handled=none):Inv X pins σ H s:=
 have ok:=I.ok
 ⟨⟨ok.mod,ok.kind,ok.glob,ok.blt,ok.above,ok.inj,ok.has,ok.cab,hd,ok.frames,ok.stk,ok.exf,ok.bs,ok.bsz,ok.noex,ok.exfs,ok.funs,ok.frf⟩,I.os,I.bare,I.base,I.loc,I.cell,I.free,I.freeC,I.pin,I.hok,I.len⟩
theorem Fly.newB (F:Fly X.prog X.w X.stack H1 s1 x cls B H' s'):B.get? x=none:=by
 obtain ⟨a0,fl⟩:=F.fly
 exact fl.2.1
theorem Fly.newH (F:Fly X.prog X.w X.stack H1 s1 x cls B H' s'):H' x=none:=by
 cases e:H' x with
 | none=>rfl
 | some ob=>
  obtain ⟨o,eo⟩:=(F.hok x ob e).obj
  rw [F.newB] at eo
  cases eo
theorem Fly.newS (I:Inv X pins σ H1 s1) (F:Fly X.prog X.w X.stack H1 s1 x cls B H' s'):s1.heap.get? x=none:=by
 cases e:s1.heap.get? x with
 | none=>rfl
 | some ob=>
  by_cases hm:x ∈ frs X.stack
  ·obtain ⟨_,o3,e3,hd⟩:=I.stack.mem hm
   rw [e] at e3
   cases e3
   obtain ⟨sl,e4⟩:=F.slot x ob e hm
   obtain ⟨a0,fl⟩:=F.fly
   obtain ⟨oe,vs,T,oT,ts,he,_,hdd,_⟩:=fl.2.2.2
   rw [e4] at he
   cases he
   exact absurd hdd (hd vs)
  ·obtain ⟨o,eo⟩:=F.there x ob e hm
   rw [F.newB] at eo
   cases eo
theorem Fly.un (I:Inv X pins σ H1 s1) (F:Fly X.prog X.w X.stack H1 s1 x cls B H' s') (st:B.StaysIn h) (up:s'.heap.UpToSlots h):Un (frs X.stack) [] H1 H' s1.heap h where
 keep:=λb o e n hb _=>st b o (F.keep b o e n hb)
 slot:=λb o e n hb _=>by
  obtain ⟨sl,e2⟩:=F.slot b o e hb
  obtain ⟨_,o3,e3,hd⟩:=I.stack.mem hb
  rw [e] at e3
  cases e3
  obtain ⟨sl2,e4⟩:=up b _ e2 hd
  exact ⟨sl2,e4⟩
 free:=λb o e n _=>F.free b o e n
 there:=λb o e _=>by
  by_cases hb:b ∈ frs X.stack
  ·obtain ⟨sl,e2⟩:=F.slot b o e hb
   obtain ⟨_,o3,e3,hd⟩:=I.stack.mem hb
   rw [e] at e3
   cases e3
   obtain ⟨sl2,e4⟩:=up b _ e2 hd
   exact ⟨_,e4⟩
  ·obtain ⟨o',e2⟩:=F.there b o e hb
   exact ⟨o',st _ _ e2⟩
 tups:=F.tups
 frzs:=F.frzs
 tbls:=F.tbls
theorem Inv.fly (I:Inv X pins σ H1 s1) (F:Fly X.prog X.w X.stack H1 s1 x cls B H' s') (st:B.StaysIn h) (up:s'.heap.UpToSlots h):Inv X pins σ H' { s' with heap:=h }:=
 Inv.call' (s':={ s' with heap:=h }) (ch:=[]) I F.os (Fly.un I F st up) (F.hok.kept st) F.bare λb hb=>absurd hb (by simp)
theorem Inv.flyX (I:Inv X pins σ H1 s1) (F:Fly X.prog X.w X.stack H1 s1 x cls B H' s') (st:B.StaysIn h) (up:s'.heap.UpToSlots h) (hx:∃ oe,h.get? x=some oe/\oe.cls=.ref C) :
  Inv X pins σ (upd H' x (excO x C)) { s' with heap:=h }:=by
 have u:=Fly.un I F st up
 have nS:=Fly.newS I F
 have nH:=F.newH
 refine Inv.call' (s':={ s' with heap:=h }) (ch:=[]) I F.os ⟨u.keep,u.slot,λb o e n hx'=>?_,u.there,λb xs e=>?_,λb o v e=>?_,λb ps e=>?_⟩ (λb ob e=>?_) F.bare λb hb=>absurd hb (by simp)
 ·rw [am (λz=>by rw [z,nS] at e; cases e)]
  exact u.free b o e n hx'
 ·have e2:=u.tups b xs e
  rw [am (ah e2 nH)]
  exact e2
 ·have e2:=u.frzs b o v e
  rw [am (ah e2 nH)]
  exact e2
 ·obtain ⟨mo,e2⟩:=u.tbls b ps e
  exact ⟨mo,by rw [am (ah e2 nH)]; exact e2⟩
 ·by_cases hb:b=x
  ·subst hb
   rw [ac] at e
   cases e
   obtain ⟨oe,h1,h2⟩:=hx
   exact ⟨⟨oe,h1,h2⟩,⟨oe,h1⟩,λg1 g2 ⟨o1,z1,z2⟩ k=>⟨o1,k _ z1,z2⟩⟩
  ·rw [am hb] at e
   exact (F.hok b ob e).stay (λc v _ z=>st c v z) (λc z=>by rw [am (ah z nH)]; exact z) λc xs z=>by rw [am (ah z nH)]; exact z
theorem Inv.gone {m':Str->Option Value} {tk:Nat} (I:Inv X pins σ H s) (hn:h.Ns X.env.locals m') (sb:Heap.SameBut X.env.locals s.heap h):Inv X pins (σ.map λ_=>none) H { s with heap:=h,toks:=tk }:=by
 have neL:∀ b o,X.s₀.heap.get? b=some o->b ≠ X.env.locals:=λb o e=>Nat.ne_of_lt (Nat.lt_of_lt_of_le (lt_size e) I.ok.above)
 obtain ⟨m,⟨oL,es,ep,hoL,rL⟩,_⟩:=id I.loc
 obtain ⟨oL',es',ep',hoL',_⟩:=id hn
 refine ⟨I.ok,I.os,I.bare,⟨λb o e n hb hx=>(sb.2 b (neL b o e)).trans (I.base.keep b o e n hb hx),λb o e n hb hx=>?_,I.base.free,λb o e hx=>?_,I.base.tups,I.base.frzs,I.base.tbls⟩,⟨m',hn,λi y v e1 e2 _=>?_⟩,λy c e=>?_,I.free,I.freeC,λp hp=>?_,λb ob e=>?_,?_⟩
 ·obtain ⟨sl,e1⟩:=I.base.slot b o e n hb hx
  exact ⟨sl,(sb.2 b (neL b o e)).trans e1⟩
 ·obtain ⟨o',e1⟩:=I.base.there b o e hx
  exact ⟨o',(sb.2 b (neL b o e)).trans e1⟩
 ·rw [getElem?_map] at e2
  cases z:σ[i]? with
  | none=>rw [z] at e2; cases e2
  | some o=>rw [z] at e2; cases e2
 ·obtain ⟨v,z⟩:=I.cell y c e
  exact ⟨v,z.sameBut sb (I.cne y c e)⟩
 ·obtain ⟨e,n,ne,nf,d⟩:=I.pin p hp
  exact ⟨(sb.2 p.1 ne).trans e,n,ne,nf,d⟩
 ·refine (I.hok b ob e).stay (λc v hc z=>(sb.2 c λq=>?_).trans z) (λ_ z=>z) λ_ _ z=>z
  have hf:=I.free
  rw [<- q] at hf
  rcases hc with z2 | z2
  ·rw [z2,e] at hf; cases hf
  ·rw [hf] at z2; cases z2
 ·rw [length_map]; exact I.len
end
def tTry (K:Frag) (CL:Addr) (i:Nat) (tb:XK->TS) (th:TS):TS:=λD σ H=>tb (λcls _ H'=>∃ C,cls=.ref C/\PySem.W.exmOne K (.ref C) (.ref CL)=some true/\
 ∀ x,H' x=none->th { nx:=λσ' H2=>D.nx (σ'.map λ_=>none) H2,rt:=D.rt } (σ.set i (some (.ref x))) (upd H' x (excO x C))) D σ H
theorem ps_try {X:Cx} {K:Frag} {i:Nat} {cn n:Str} {np hpos pos:Pos} {CL:Addr} {body:List Stmt} {b₀:Stmt} {suite:List Stmt} {tb:XK->TS} {th:TS} (hK:X.K=K) (hN:X.N.Nodup) (hi:X.N[i]? = some n) (hm:X.mg cn=some (.ref CL))
  (hb:PSX X body tb) (hs:∀ x,PSs (X.caught x) (b₀::suite) th) (hl:X.env.scope.names.lookup n=some .local:=by rfl) (hg:Gl X cn:=by rfl) (hstk:X.stack=X.env::X.outer:=by rfl) (hfr:X.env.frame=some X.env.locals:=by rfl) (hdb:(cn == ("__debug__" : Str))=false:=by decide) :
  PS X (.Try body [.ExceptHandler (some (.Name cn np)) (some n) (b₀::suite) hpos] [] [] pos) (tTry K CL i tb th):=by
 subst hK
 intro pins s σ H D I h
 refine wpAny_Try_except (wpAny_mono (hb pins s σ H D _ I h) (λf s1 q=>?_) λe s1 q=>?_)
 ·cases f with
  | next=>exact wpAny_execs_nil q
  | ret v=>exact q
  | brk=>exact q
  | cont=>exact q
 obtain ⟨H1,s0,I0,x,cls,B,H',rfl,F,C,rfl,hex,hth⟩:=q
 obtain ⟨a0,fl⟩:=F.fly
 have frm:X.A.frames=some (X.env::X.outer):=by rw [I.ok.frames,hstk]
 rw [hstk] at fl
 refine wpAny_looks_onW (base:=B) frm hfr fl λh4 held4 up4=>?_
 refine wpAny_landsW held4 λh5 fl5 up5'=>?_
 have up5:=up4.trans up5'
 have I5:=(I0.fly F fl5.1 up5).caught x
 have hX:∃ oe,h5.get? x=some oe/\oe.cls=.ref C:=fl5.there
 refine wpAny_handleBy_cons (codeAny_handlers_test (dZ (X:=X.caught x) I5 hg hm ?_ hdb)) (by intro q; cases q)
 obtain ⟨oe,ho1,ho2⟩:=hX
 have LT:Looks (model X.prog X.w) h5 (typeOf (.ref x)) (.ref C):=ho2 ▸ (PySem.W.Looks.ld ho1).andThen .now
 refine (PySem.W.exm_one I5.kIn LT hex).here ?_
 refine codeAny_handlers_suite_as ?_
 refine lands_againW fl5 λh6 fl6 up6=>?_
 have I6:=(I0.flyX (C:=C) F fl6.1 (up5.trans up6) fl6.there).caught x
 refine eO (X:=X.caught x) (v:=.ref x) I6 hN hi (.inl hl) rfl (λs7 I7=>?_) (.inr hl)
 refine wpAny_mono (hs x pins s7 _ _ _ I7 (hth x F.newH)) (λf s8 q8=>?_) λ_ _ z=>False.elim z
 have lo:X.env.kindOf n=some .local:=hl
 have cl0:(X.env.scope.kind == .class || (X.env.scope.kind == .module && X.env.locals != X.env.globals))=false:=by rw [I.ok.kind]; rfl
 show wpAny _ X.A (do bindName X.env n .none; unbindBehindTheSuite X.env n hpos) (λ_ s3=>SP X pins D f s3) X.xe s8
 cases f with
 | next=>
  obtain ⟨σ',H2,J,q⟩:=q8
  have J:=J.uncaught I.ok.hd
  obtain ⟨m,hn,_⟩:=id J.loc
  exact wpAny_nameGoes lo hn cl0 λh9 m9 hn9 sb9=>⟨_,H2,J.gone hn9 sb9,q⟩
 | brk=>obtain ⟨_,_,_,q⟩:=q8; exact False.elim q
 | cont=>obtain ⟨_,_,_,q⟩:=q8; exact False.elim q
 | ret u=>
  obtain ⟨v,σ',H2,J,r,q⟩:=q8
  have J:=J.uncaught I.ok.hd
  obtain ⟨m,hn,_⟩:=id J.loc
  exact wpAny_nameGoes lo hn cl0 λh9 m9 hn9 sb9=>⟨v,_,H2,J.gone hn9 sb9,r,q⟩
structure XCl (K:Frag) (D:Addr):Prop where
 ek:ExcK K D
 ga:findIn K (.ref D) "__getattribute__"=some (some (.builtin "BaseException.__getattribute__"))
 gt:findIn K (.ref D) "__getattr__"=some none
 ca:findIn K (.ref D) "__class__"=some (some (.builtin "object.__class__"))
 mo:mroIn K D (.type "object")=some true
 mb:mroIn K D (.type "BaseException")=some true
 dg:specialIn K (.builtin "object.__class__") "__get__"=some (some (.builtin "getset_descriptor.__get__"))
 dt:takesIn K (.builtin "object.__class__")=some true
section
variable {prog:Program} {w:World} {A:Around} {E:Value->Shared->Prop} {s:Shared} {K:Frag} {x D:Addr}
theorem j5 {R:Result->Shared->Prop} {tp:Value} (X:K.In s.heap) (c:XCl K D) (LT:Looks (model prog w) s.heap (typeOf (.ref x)) (.ref D)) (h:R (.ok (.ret (.ref D))) s) :
  codeAny (model prog w) A (.call (.builtin "getset_descriptor.__get__") ⟨[.builtin "object.__class__",.ref x,tp],[]⟩) R s:=by
 obtain ⟨hh,gg,dr,tt,oo⟩:=s
 have LM:=PySem.W.looks_mroIn (M:=model prog w) X c.mo
 refine codeAny_call_builtin PySem.W.KF.slot_gs.plain PySem.W.KF.entry_gs (PySem.W.KF.slot_gs.check _ _ _ _ _ _ _ _ PySem.W.KF.type_class (PySem.W.KF.args_gs _ _ _) ?_)
 unfold Builtin.«getset_descriptor.__get__» Builtin.Getset_descriptor.descrGet
 rw [PySem.W.dga_obj]
 refine wpAny_bind (wpAny_pure ?_)
 unfold Builtin.Getset_descriptor.descrGetter Builtin.Getset_descriptor.descrCheckInstance Builtin.Getset_descriptor.descrNameAndClass isInstance
 simp only [PySem.W.KF.owner_class]
 repeat lk
 refine ⟨Code.quiet_builtin _ (by decide +kernel),codeAny_builtin PySem.W.KF.entry_class ?_⟩
 unfold Builtin.«object.__class__» shownTypeOf
 repeat lk
 exact h
theorem exc_find {M:Model} {h:Heap} (X:K.In h) (c:XCl K D):Looks M h (Builtin.ObjectAttr.find (.ref x) (.ref D) "__class__") (.bind (.builtin "getset_descriptor.__get__") (.builtin "object.__class__")):=by
 unfold Builtin.ObjectAttr.find
 refine (looks_findIn X c.ca).andThen ?_
 refine PySem.W.Looks.andThen (a:=some (.builtin "getset_descriptor.__get__")) (PySem.W.looks_specialIn X c.dg) ?_
 refine PySem.W.Looks.andThen (a:=some (.builtin "getset_descriptor.__get__",.builtin "object.__class__")) ((PySem.W.looks_takesIn X c.dt).andThen .now) ?_
 exact PySem.W.Looks.tag .now
set_option maxHeartbeats 1000000 in
theorem exc_class {Q:Option Value->Shared->Prop} (X:K.In s.heap) (c:XCl K D) (LT:Looks (model prog w) s.heap (typeOf (.ref x)) (.ref D)) (h:Q (some (.ref D)) { s with toks:=s.toks+1 }) :
  wpAny (model prog w) A (getAttr? (.ref x) "__class__") Q E s:=by
 obtain ⟨hh,gg,dr,tt,oo⟩:=s
 have L1:=looks_findIn (M:=model prog w) X c.ga
 have L2:=looks_findIn (M:=model prog w) X c.gt
 have L3:=exc_find (x:=x) (M:=model prog w) X c
 unfold getAttr? getAttrBy? getAttrBy
 refine wpAny_bind (wpAny_mkText (wpAny_bind (wpAny_attempt (wpAny_holding (wpAny_bind (LT.at (wpAny_bind (L1.at ?_))))))))
 dsimp only
 have hne:(Value.builtin "BaseException.__getattribute__" == Value.builtin "object.__getattribute__")=false:=by decide +kernel
 rw [if_neg (by rw [hne,Bool.and_false]; exact Bool.false_ne_true)]
 unfold getAttrByItsOwn
 refine wpAny_bind (L2.at ?_)
 refine wpAny_bind (wpAny_attempt (wpAny_holding ?_))
 show wpAny _ _ (boundAndCalled (.builtin "BaseException.__getattribute__") (.ref x) _) _ _ _
 unfold boundAndCalled
 refine wpAny_bind (wpAny_of_eq (PySem.F.attr_ValueError.ga.bind _) ?_)
 refine wpAny_call ?_
 show codeAny _ _ (.call (.builtin "BaseException.__getattribute__") ⟨[.ref x,.str "__class__" tt],[]⟩) _ _
 have LB:Looks (model prog w) hh (isInstance (.ref x) (.type "BaseException")) true:=LT.andThen (PySem.W.looks_mroIn X c.mb)
 refine codeAny_call_builtin PySem.F.attr_ValueError.ga.plain PySem.F.entry_bexc_ga ?_
 refine @PySem.W.check_slot (model prog w) _ _ _ "BaseException.__getattribute__" "BaseException" "__getattribute__" (.ref x) [.str "__class__" tt] [] _ (by decide +kernel) (by decide +kernel) LB (PySem.F.args_bexc_ga _ _) ?_
 unfold Builtin.«object.__getattribute__»
 refine wpAny_bind (wpAny_pure ?_)
 refine wpAny_bind (wpAny_pure ?_)
 refine wpAny_bind (LT.at ?_)
 refine wpAny_bind (L3.at ?_)
 show wpAny _ _ (call (.builtin "getset_descriptor.__get__") [.builtin "object.__class__",.ref x,.ref D] >>= ret) _ _ _
 refine wpAny_bind (wpAny_call (j5 X c LT ?_))
 exact wpAny_pure (wpAny_pure (wpAny_pure h))
end
theorem kitx_exc {K:Frag} {x D:Addr} (c:XCl K D):PySem.W.KitX K (.ref x) (.ref D) (λh=>∃ oe,h.get? x=some oe/\oe.cls=.ref D) where
 ty:=λM h _ ⟨oe,h1,h2⟩=>h2 ▸ (PySem.W.Looks.ld h1).andThen .now
 it:=λM h X _=>by
  obtain ⟨bm,N,nm,qn,bs,hdct,sn,sub,ab,col,dd,k0,k1,k2,k3,k5,mN,hCo,_⟩:=mz X c.ek
  intro A' Q' E' s' kk q
  unfold isType loadHead
  exact wpAny_bind (wpAny_loadPart (kk _ _ hCo) (wpAny_pure q))
 ne:=λh tp dd its n sl X htp=>by
  obtain ⟨bm,N,nm,qn,bs,hdct,sn,sub,ab,col,dd',k0,k1,k2,k3,k5,mN,hCo,_⟩:=mz X c.ek
  refine Bool.eq_false_iff.mpr λq=>?_
  have e:D=tp:=Value.ref.inj (beq_iff_eq.mp q)
  subst e
  rw [hCo] at htp
  exact absurd (Value.type.inj (congrArg Obj.cls (Option.some.inj htp))) (by decide)
 ca:=λ{prog w A E Q s} X p k=>by
  obtain ⟨oe,h1,h2⟩:=p
  exact exc_class X c (h2 ▸ (PySem.W.Looks.ld h1).andThen .now) k
def clsV:V->Value
 | .ref a=>.ref a
 | .ty n=>.type n
 | _=>.none
def mm:V->Bool
 | .ref _=>true
 | .ty _=>true
 | _=>false
theorem clsV_of {v:V} {u:Value} (h:mm v=true) (r:m8 v u):u=clsV v:=by
 cases v with
 | ref a=>exact r
 | ty n=>exact r
 | _=>cases h
theorem clsV_all:∀ {vs:List V} {us:List Value},vs.all mm=true->ni vs us->us=vs.map clsV
 | _,_,_,.nil=>rfl
 | _,_,h,.cons r t=>by
  rw [List.all_cons,Bool.and_eq_true] at h
  rw [map_cons,<- clsV_of h.1 r,<- clsV_all h.2 t]
def rIsE (K:Frag):List V->Hp->VK->Prop:=λxs H Q=>∃ (x D:Addr) (c:V) (b:Bool),xs=[.ref x,c]/\H x=some (excO x D)/\XCl K D/\
 ((mm c=true/\kitOne K (.ref D) (clsV c)=some b)\/(∃ tp cs,c=.ref tp/\H tp=some (.tup cs)/\cs.all mm=true/\PySem.W.kitAny K (.ref D) (cs.map clsV)=some b))/\Q (.bl b) H
theorem call_isE {X:Cx}:cA X (.builtin "isinstance") (rIsE X.K):=by
 intro pins s σ H xs us Q I rv h
 obtain ⟨x,D,c,b,rfl,hx,cl,hc,q⟩:=h
 obtain ⟨u,u',rfl,r1,r2⟩:=kT rv
 cases (show u=Value.ref x from r1)
 obtain ⟨hp,_⟩:=(show ny X.prog X.w H s.heap x (excO x D) from I.hok x _ hx)
 rcases hc with ⟨h1,h2⟩ | ⟨tp,cs,rfl,htp,h1,h2⟩
 ·rw [<- clsV_of h1 r2] at h2
  exact kia_one (kitx_exc cl) I.kIn hp h2 (λz=>nomatch z) λtk=>⟨.bl b,H,I.tok tk,rfl,q⟩
 ·cases (show u'=Value.ref tp from r2)
  obtain ⟨_,its,rr,o,ho,hcls,n,hd⟩:=(show ny X.prog X.w H s.heap tp (.tup cs) from I.hok tp _ htp)
  rw [<- clsV_all h1 rr] at h2
  obtain ⟨oc,od,oda,osl⟩:=o
  dsimp only at hcls hd
  subst hcls hd
  exact PySem.W.kia_tup (kitx_exc cl) I.kIn hp ho h2 (λz=>nomatch z) λtk=>⟨.bl b,H,I.tok tk,rfl,q⟩
theorem lQ {X:Cx} (K:Frag) {e:Expr} {es:List Expr} {t:TA} {p pos:Pos} (T:Blt X.mg) (ha:PA X (e::es) t) (hK:X.K=K:=by rfl) (hg:Gl X "isinstance":=by rfl)
  (he:starEach (e::es) X.env=(false,eval e X.env)::starEach es X.env:=by rfl) (hpl:(backTo pos (starEach es X.env)).any (·.1)=false:=by rfl):PE X (.Call (.Name "isinstance" p) (e::es) [] pos) (tCB (rIsE K) t):=by
 subst hK
 exact bI call_isE hg T.isinst iL ha (by decide) (by decide) he hpl
theorem two_of {us:List Value} {d:Value} (h:(us++[d]).length=3):∃ a b,us=[a,b]:=by
 rw [length_append,length_singleton] at h
 match us,h with
 | [a,b],_=>exact ⟨a,b,rfl⟩
section
variable {X:Cx} {C:Addr} {x m:Str} {k:Nat} {sp:Sp} {p pos apos:Pos} {e o:Expr} {es:List Expr} {te ta:TE} {t:TA}
theorem g7 {pl:Sem Bool} (M:MtB X.prog X.w X.K X.mg X.base k C m sp) (hr:nC k X.A) (he:PE X o ta)
  (ht:eval (.Call (.Attribute o m apos) [] [] pos) X.env=(do
   let ov <- eval o X.env
   standAt apos.atName
   let (f,first) <- holding [ov] (getMethod ov m pl)
   callWith pos f first (backTo pos (starEach [] X.env)) (backToKw pos (keywordEach [] X.env))):=by rfl) :
  PE X (.Call (.Attribute o m apos) [] [] pos) (fg C m sp [] E0 ta di):=by
 obtain ⟨f,fd,ps,F,hm,hb⟩:=M.ex
 exact pe_meth0 he M.cl hm F hr hb .nil pass0 ht
end
section
variable {P:Program} {w:World} {K:Frag} {mg:Str->Option Value} {base:Heap}
end
end L2
namespace L2
open PySem PySem.Spec PyProof.Rows PySem.W
def ev {α:Type} (c:Nat->Nat->Bool):KasT α->α
 | .ret a=>a
 | .ask i j k=>ev c (k (c i j))
theorem fq {α β:Type} {c:Nat->Nat->Bool} {f:α->KasT β}:∀ t:KasT α,ev c (t.bind f)=ev c (f (ev c t))
 | .ret _=>rfl
 | .ask i j k=>fq (k (c i j))
structure Tot (n:Nat) (c:Nat->Nat->Bool):Prop where
 tr:∀ i j k,i<n->j<n->k<n->c i j=true->c j k=true->c i k=true
 to:∀ i j,i<n->j<n->i ≠ j->c i j=false->c j i=true
def Pm (n:Nat) (p:Array Nat):Prop:=p.toList.Perm (List.range n)
section
variable {n:Nat} {c:Nat->Nat->Bool} {p:Array Nat}
theorem Pm.sz (h:Pm n p):p.size=n:=by
 have:=h.length_eq
 rw [length_range] at this
 rw [<- this]; rfl
theorem gd_at {i:Nat} (hi:i<p.size):p.getD i 0=p[i]:=by simp [Array.getD,hi]
theorem gd_q (p:Array Nat) (i:Nat):p.getD i 0=(p[i]?).getD 0:=by simp [Array.getD_eq_getD_getElem?]
theorem Pm.lt (h:Pm n p) {i:Nat} (hi:i<n):p.getD i 0<n:=by
 have hs:=h.sz
 rw [gd_at (by omega)]
 exact List.mem_range.mp (h.mem_iff.mp (by rw [Array.mem_toList_iff]; exact Array.getElem_mem _))
theorem Pm.inj (h:Pm n p) {i j:Nat} (hi:i<n) (hj:j<n) (hne:i ≠ j):p.getD i 0 ≠ p.getD j 0:=by
 have hs:=h.sz
 have nd:p.toList.Nodup:=h.nodup_iff.mpr List.nodup_range
 intro z
 rw [gd_at (by omega),gd_at (by omega)] at z
 exact hne ((getElem_inj (h₀:=by rw [Array.length_toList]; omega) (h₁:=by rw [Array.length_toList]; omega) nd).mp (by rw [Array.getElem_toList,Array.getElem_toList]; exact z))
theorem Pm.of {q:Array Nat} (h:Pm n p) (e:q.Perm p):Pm n q:=(Array.perm_iff_toList_perm.mp e).trans h
def So (c:Nat->Nat->Bool) (p:Array Nat) (k:Nat):Prop:=∀ i j,i<j->j<k->c (p.getD i 0) (p.getD j 0)=true
def De (c:Nat->Nat->Bool) (p:Array Nat) (k:Nat):Prop:=∀ i j,i<j->j<k->c (p.getD j 0) (p.getD i 0)=true
theorem Tot.other (T:Tot n c) (hp:Pm n p) {i j:Nat} (hi:i<n) (hj:j<n) (hne:i ≠ j) (h:¬ c (p.getD i 0) (p.getD j 0)=true):c (p.getD j 0) (p.getD i 0)=true:=
 T.to _ _ (hp.lt hi) (hp.lt hj) (hp.inj hi hj hne) (by simpa using h)
theorem Tot.trp (T:Tot n c) (hp:Pm n p) {i j k:Nat} (hi:i<n) (hj:j<n) (hk:k<n) (h1:c (p.getD i 0) (p.getD j 0)=true) (h2:c (p.getD j 0) (p.getD k 0)=true):c (p.getD i 0) (p.getD k 0)=true:=
 T.tr _ _ _ (hp.lt hi) (hp.lt hj) (hp.lt hk) h1 h2
theorem So.step (T:Tot n c) (hp:Pm n p) {m:Nat} (h1:1<=m) (hm:m<n) (hs:So c p m) (h:c (p.getD (m-1) 0) (p.getD m 0)=true):So c p (m+1):=λi j hij hj=>by
 by_cases e:j=m
 ·subst e
  by_cases e2:i=j-1
  ·rw [e2]; exact h
  ·exact T.trp hp (by omega) (by omega) hm (hs i (j-1) (by omega) (by omega)) h
 ·exact hs i j hij (by omega)
theorem De.step (T:Tot n c) (hp:Pm n p) {m:Nat} (h1:1<=m) (hm:m<n) (hs:De c p m) (h:c (p.getD m 0) (p.getD (m-1) 0)=true):De c p (m+1):=λi j hij hj=>by
 by_cases e:j=m
 ·subst e
  by_cases e2:i=j-1
  ·rw [e2]; exact h
  ·exact T.trp hp hm (by omega) (by omega) h (hs i (j-1) (by omega) (by omega))
 ·exact hs i j hij (by omega)
theorem ev_asc (T:Tot n c) (hp:Pm n p):∀ f m,1<=m->m+f<=n->So c p m->m<=ev c (kas_asc p f m)/\ev c (kas_asc p f m)<=m+f/\So c p (ev c (kas_asc p f m))/\(ev c (kas_asc p f m)<m+f->c (p.getD (ev c (kas_asc p f m)) 0) (p.getD (ev c (kas_asc p f m)-1) 0)=true)
 | 0,m,_,_,hs=>⟨Nat.le_refl _,Nat.le_refl _,hs,λh=>absurd h (Nat.lt_irrefl _)⟩
 | f+1,m,h1,h2,hs=>by
  by_cases hc:c (p.getD m 0) (p.getD (m-1) 0)=true
  ·have e:ev c (kas_asc p (f+1) m)=m:=by
    show ev c (if c (p.getD m 0) (p.getD (m-1) 0)=true then .ret m else kas_asc p f (m+1))=m
    rw [if_pos hc]; rfl
   rw [e]
   exact ⟨Nat.le_refl _,by omega,hs,λ_=>hc⟩
  ·have e:ev c (kas_asc p (f+1) m)=ev c (kas_asc p f (m+1)):=by
    show ev c (if c (p.getD m 0) (p.getD (m-1) 0)=true then .ret m else kas_asc p f (m+1))=_
    rw [if_neg hc]
   rw [e]
   obtain ⟨a,b,d,g⟩:=ev_asc T hp f (m+1) (by omega) (by omega) (hs.step T hp h1 (by omega) (T.other hp (by omega) (by omega) (by omega) hc))
   exact ⟨by omega,by omega,d,λh=>g (by omega)⟩
theorem ev_desc (T:Tot n c) (hp:Pm n p):∀ f m,1<=m->m+f<=n->De c p m->∃ r,ev c (kas_desc f p m 0)=(p,r,0)/\m<=r/\r<=m+f/\De c p r
 | 0,m,_,_,hs=>⟨m,rfl,Nat.le_refl _,Nat.le_refl _,hs⟩
 | f+1,m,h1,h2,hs=>by
  by_cases hc:c (p.getD m 0) (p.getD (m-1) 0)=true
  ·obtain ⟨r,e,a,b,d⟩:=ev_desc T hp f (m+1) (by omega) (by omega) (hs.step T hp h1 (by omega) hc)
   refine ⟨r,?_,by omega,by omega,d⟩
   rw [<- e]
   show ev c (if c (p.getD m 0) (p.getD (m-1) 0)=true then (if 0 > 0 then kas_desc f (kas_rev p (m-(0+1)) m) (m+1) 0 else kas_desc f p (m+1) 0) else _)=_
   rw [if_pos hc,if_neg (by decide)]
  ·refine ⟨m,?_,Nat.le_refl _,by omega,hs⟩
   have ho:=T.other hp (show m<n by omega) (show m-1<n by omega) (by omega) hc
   show ev c (if c (p.getD m 0) (p.getD (m-1) 0)=true then _ else .ask (p.getD (m-1) 0) (p.getD m 0) λd=>if d=true then .ret (p,m,0) else kas_desc f p (m+1) (0+1))=_
   rw [if_neg hc]
   show ev c (if c (p.getD (m-1) 0) (p.getD m 0)=true then .ret (p,m,0) else kas_desc f p (m+1) (0+1))=_
   rw [if_pos ho]
   rfl
theorem gd_rev {j:Nat} (hj:j<=p.size) (k:Nat):(kas_rev p 0 j).getD k 0=if k<j then p.getD (j-1-k) 0 else p.getD k 0:=by
 rw [gd_q]
 unfold kas_rev
 rw [getElem?_mirror_all hj]
 by_cases h:k<j
 ·rw [if_pos ⟨Nat.zero_le _,h⟩,if_pos h,gd_q,Nat.zero_add]
 ·rw [if_neg (λz=>h z.2),if_neg h,gd_q]
theorem rev_pm (hp:Pm n p) (j:Nat):Pm n (kas_rev p 0 j):=hp.of (mirror_perm _ _ _ _)
theorem De.rev {k:Nat} (hk:k<=p.size) (h:De c p k):So c (kas_rev p 0 k) k:=λi j hij hj=>by
 rw [gd_rev hk,gd_rev hk,if_pos (by omega),if_pos hj]
 exact h (k-1-j) (k-1-i) (by omega) (by omega)
theorem ev_count (T:Tot n c) (hp:Pm n p) (hn:1<=n):∃ m q,ev c (kas_count n p)=(m,q)/\1<=m/\m<=n/\Pm n q/\So c q m:=by
 have s1:So c p 1:=λi j hij hj=>by omega
 obtain ⟨a,b,d,g⟩:=ev_asc T hp (n-1) 1 (Nat.le_refl _) (by omega) s1
 unfold kas_count
 rw [fq]
 generalize ev c (kas_asc p (n-1) 1)=r at *
 by_cases h1:(r == n)=true
 ·rw [if_pos h1]
  exact ⟨r,p,rfl,a,by omega,hp,d⟩
 ·rw [if_neg h1]
  have hr:r ≠ n:=by simpa using h1
  by_cases h2:r > 1
  ·rw [if_pos h2]
   show ∃ m q,ev c (if c (p.getD 0 0) (p.getD (r-1) 0)=true then .ret (r,p) else _)=(m,q)/\_
   rw [if_pos (d 0 (r-1) (by omega) (by omega))]
   exact ⟨r,p,rfl,a,by omega,hp,d⟩
  ·rw [if_neg h2]
   have r1:r=1:=by omega
   subst r1
   have d1:De c p 2:=λi j hij hj=>by
    have:i=0/\j=1:=by omega
    rw [this.1,this.2]
    exact g (by omega)
   unfold kas_descPart
   rw [fq]
   obtain ⟨k,e,ka,kb,kd⟩:=ev_desc T hp (n-(1+1)) (1+1) (by decide) (by omega) d1
   rw [e]
   show ∃ m q,ev c (if 0 > 0 then _ else kas_tail3 k n p)=(m,q)/\_
   rw [if_neg (by decide)]
   unfold kas_tail3
   rw [fq]
   have hq:=rev_pm hp k
   have sq:=De.rev (by rw [hp.sz]; omega) kd
   obtain ⟨a',b',d',_⟩:=ev_asc T hq (n-k) k (by omega) (by omega) sq
   exact ⟨_,_,rfl,by omega,by omega,hq,d'⟩
theorem jC (T:Tot n c) (hp:Pm n p) {k:Nat} (hk:k<n) (hs:So c p k):∀ f l r,r<=l+f->l<=r->r<=k->(∀ i,i<l->c (p.getD i 0) (p.getD k 0)=true)->(∀ i,r<=i->i<k->c (p.getD k 0) (p.getD i 0)=true)->
  ev c (kas_place p k f l r)<=k/\(∀ i,i<ev c (kas_place p k f l r)->c (p.getD i 0) (p.getD k 0)=true)/\(∀ i,ev c (kas_place p k f l r)<=i->i<k->c (p.getD k 0) (p.getD i 0)=true)
 | 0,l,r,h1,h2,h3,lo,hi=>⟨by show l<=k; omega,lo,λi hl hik=>hi i (by have:l<=i:=hl; omega) hik⟩
 | f+1,l,r,h1,h2,h3,lo,hi=>by
  by_cases hlr:l ≥ r
  ·have e:ev c (kas_place p k (f+1) l r)=l:=by
    show ev c (if l ≥ r then .ret l else _)=l
    rw [if_pos hlr]; rfl
   rw [e]
   exact ⟨by omega,lo,λi hl hik=>hi i (by omega) hik⟩
  ·have e:ev c (kas_place p k (f+1) l r)=ev c (if c (p.getD k 0) (p.getD ((l+r) / 2) 0)=true then kas_place p k f l ((l+r) / 2) else kas_place p k f ((l+r) / 2+1) r):=by
    show ev c (if l ≥ r then .ret l else .ask (p.getD k 0) (p.getD ((l+r) / 2) 0) λd=>if d=true then kas_place p k f l ((l+r) / 2) else kas_place p k f ((l+r) / 2+1) r)=_
    rw [if_neg hlr]; rfl
   rw [e]
   by_cases hc:c (p.getD k 0) (p.getD ((l+r) / 2) 0)=true
   ·rw [if_pos hc]
    refine jC T hp hk hs f l ((l+r) / 2) (by omega) (by omega) (by omega) lo λi hi1 hi2=>?_
    by_cases ei:i=(l+r) / 2
    ·rw [ei]; exact hc
    ·exact T.trp hp hk (by omega) (by omega) hc (hs _ i (by omega) hi2)
   ·rw [if_neg hc]
    have ho:=T.other hp hk (show (l+r) / 2<n by omega) (by omega) hc
    refine jC T hp hk hs f ((l+r) / 2+1) r (by omega) (by omega) h3 (λi hi1=>?_) hi
    by_cases ei:i=(l+r) / 2
    ·rw [ei]; exact ho
    ·exact T.trp hp (by omega) (by omega) hk (hs i _ (by omega) (by omega)) ho
theorem kQ {k d:Nat} (hk:k<p.size) (hd:d<=k) (x:Nat):(bubble p k d).getD x 0=if x=k-d then p.getD k 0 else if k-d<x/\x<=k then p.getD (x-1) 0 else p.getD x 0:=by
 rw [gd_q,getElem?_bubble hk d hd]
 by_cases h:x=k-d
 ·rw [if_pos h,if_pos h,gd_q]
 ·rw [if_neg h,if_neg h]
  by_cases h2:k-d<x/\x<=k
  ·rw [if_pos h2,if_pos h2,gd_q]
  ·rw [if_neg h2,if_neg h2,gd_q]
theorem So.put (hp:Pm n p) {k q:Nat} (hk:k<n) (hq:q<=k) (hs:So c p k) (lo:∀ i,i<q->c (p.getD i 0) (p.getD k 0)=true) (hi:∀ i,q<=i->i<k->c (p.getD k 0) (p.getD i 0)=true):So c (bubble p k (k-q)) (k+1):=λi j hij hj=>by
 have hz:=hp.sz
 rw [kQ (by omega) (by omega),kQ (by omega) (by omega),show k-(k-q)=q by omega]
 by_cases i1:i=q
 ·rw [if_pos i1,if_neg (by omega),if_pos (by omega)]
  exact hi (j-1) (by omega) (by omega)
 ·rw [if_neg i1]
  by_cases i2:q<i/\i<=k
  ·rw [if_pos i2,if_neg (by omega),if_pos (by omega)]
   exact hs _ _ (by omega) (by omega)
  ·rw [if_neg i2]
   by_cases j1:j=q
   ·rw [if_pos j1]
    exact lo i (by omega)
   ·rw [if_neg j1]
    by_cases j2:q<j/\j<=k
    ·rw [if_pos j2]
     exact hs _ _ (by omega) (by omega)
    ·rw [if_neg j2]
     exact hs _ _ hij (by omega)
end
theorem ev_bin {n:Nat} {c:Nat->Nat->Bool} (T:Tot n c):∀ (f:Nat) (p:Array Nat) (k:Nat),Pm n p->k+f=n->So c p k->Pm n (ev c (kas_bin f p k))/\So c (ev c (kas_bin f p k)) n
 | 0,p,k,hp,hk,hs=>⟨hp,by rw [<- show k=n by omega]; exact hs⟩
 | f+1,p,k,hp,hk,hs=>by
  have e:ev c (kas_bin (f+1) p k)=ev c (kas_bin f (bubble p k (k-ev c (kas_place p k k 0 k))) (k+1)):=by
   show ev c ((kas_place p k k 0 k).bind λl=>kas_bin f (bubble p k (k-l)) (k+1))=_
   rw [fq]
  rw [e]
  obtain ⟨a,lo,hi⟩:=jC T hp (show k<n by omega) hs k 0 k (by omega) (by omega) (Nat.le_refl _) (λi h=>absurd h (by omega)) (λi h1 h2=>by omega)
  exact ev_bin T f _ (k+1) (hp.of (bubble_perm _ _ _)) (by omega) (hs.put hp (by omega) a lo hi)
theorem ev_sort {n:Nat} {c:Nat->Nat->Bool} (T:Tot n c) (hn:1<=n):Pm n (ev c (kas_sort n))/\So c (ev c (kas_sort n)) n:=by
 have hp:Pm n (List.toArray (List.range n)):=List.Perm.refl _
 obtain ⟨m,q,e,a,b,hq,hs⟩:=ev_count T hp hn
 unfold kas_sort
 rw [fq,e]
 dsimp only
 by_cases h:m<n
 ·rw [if_pos h]
  exact ev_bin T _ q _ hq (by omega) (by rw [show max m 1=m by omega]; exact hs)
 ·rw [if_neg h]
  exact ⟨hq,by rw [<- show m=n by omega]; exact hs⟩
end L2
namespace L2
open PySem PySem.Spec PyProof.Rows
section
variable {κ:Type} [DecidableEq κ]
def fD (kvs:List (κ × V)) (k:κ):Option V:=(kvs.find? λkv=>decide (kv.1=k)).map (·.2)
def bU (kvs:List (κ × V)) (k:κ) (v:V):List (κ × V):=
 if (kvs.any λkv=>decide (kv.1=k))=true then kvs.map (λkv=>if kv.1=k then (kv.1,v) else kv) else kvs++[(k,v)]
theorem gH {p:κ × V} {r:List (κ × V)} {k:κ} (e:p.1=k):fD (p::r) k=some p.2:=by simp [fD,find?_cons,e]
theorem gv {p:κ × V} {r:List (κ × V)} {k:κ} (e:¬ p.1=k):fD (p::r) k=fD r k:=by simp [fD,find?_cons,e]
theorem jh (k:κ):∀ kvs:List (κ × V),(kvs.any λkv=>decide (kv.1=k))=(fD kvs k).isSome
 | []=>rfl
 | p::r=>by
  rw [any_cons]
  by_cases e:p.1=k
  ·simp only [gH e,decide_eq_true e,Bool.true_or,Option.isSome_some]
  ·rw [gv e,decide_eq_false e,Bool.false_or]; exact jh k r
theorem iK (kvs:List (κ × V)) (k:κ) (v:V):(bU kvs k v).length<=kvs.length+1:=by
 unfold bU
 split
 ·rw [length_map]; omega
 ·rw [length_append,length_cons,length_nil]; omega
theorem RelO.isSome_eq {o:Option V} {u:Option Value} (r:RelO o u):o.isSome=u.isSome:=by
 cases o with
 | none=>cases u with
  | none=>rfl
  | some _=>exact (show False from r).elim
 | some _=>cases u with
  | none=>exact (show False from r).elim
  | some _=>rfl
theorem RelO.getD {o:Option V} {u:Option Value} {d:V} {d':Value} (r:RelO o u) (rd:m8 d d'):m8 (o.getD d) (u.getD d'):=by
 cases o with
 | none=>cases u with
  | none=>exact rd
  | some _=>exact (show False from r).elim
 | some _=>cases u with
  | none=>exact (show False from r).elim
  | some _=>exact r
theorem KV.val {kvs:List (κ × V)} {vs:List (κ × Value)} (r:KV kvs vs) (k:κ):RelO (fD kvs k) (valueAt vs k):=by
 unfold KV at r
 induction r with
 | nil=>exact True.intro
 | @cons p q ps qs h t ih=>
  obtain ⟨h1,h2⟩:=h
  by_cases e:p.1=k
  ·have e':q.1=k:=h1.symm.trans e
   have b:valueAt (q::qs) k=some q.2:=by simp [valueAt,find?_cons,e']
   rw [gH e,b]; exact h2
  ·have e':¬ q.1=k:=λz=>e (h1.trans z)
   have b:valueAt (q::qs) k=valueAt qs k:=by simp [valueAt,find?_cons,e']
   rw [gv e,b]; exact ih
theorem KV.any {kvs:List (κ × V)} {vs:List (κ × Value)} (r:KV kvs vs) (k:κ):(kvs.any λkv=>decide (kv.1=k))=vs.any λkv=>decide (kv.1=k):=by
 unfold KV at r
 induction r with
 | nil=>rfl
 | cons h t ih=>rw [any_cons,any_cons,ih,h.1]
theorem KV.repl {kvs:List (κ × V)} {vs:List (κ × Value)} (r:KV kvs vs) (k:κ) {y:V} {u:Value} (ry:m8 y u) :
  KV (kvs.map λkv=>if kv.1=k then (kv.1,y) else kv) (vs.map λkv=>if kv.1=k then (kv.1,u) else kv):=by
 unfold KV at r ⊢
 induction r with
 | nil=>exact .nil
 | @cons p q ps qs h t ih=>
  rw [map_cons,map_cons]
  refine .cons ?_ ih
  obtain ⟨h1,h2⟩:=h
  by_cases e:p.1=k
  ·rw [if_pos e,if_pos (h1.symm.trans e)]; exact ⟨h1,ry⟩
  ·rw [if_neg e,if_neg (λz=>e (h1.trans z))]; exact ⟨h1,h2⟩
theorem KV.put {kvs:List (κ × V)} {vs:List (κ × Value)} (r:KV kvs vs) (k:κ) {y:V} {u:Value} (ry:m8 y u):KV (bU kvs k y) (stored vs k u):=by
 unfold bU stored
 rw [r.any k]
 by_cases e:(vs.any λkv=>decide (kv.1=k))=true
 ·rw [if_pos e,if_pos e]; exact r.repl k ry
 ·rw [if_neg e,if_neg e]; exact Paired.snoc r ⟨rfl,ry⟩
theorem KV.length {kvs:List (κ × V)} {vs:List (κ × Value)} (r:KV kvs vs):kvs.length=vs.length:=Paired.length r
end
theorem kV_is {P:Program} {w:World} {k:Key} {u:Value} (r:m8 (kV k) u):(aW P w).is k u=true:=by
 cases k with
 | inl i=>obtain ⟨t,e⟩:=(show ∃ t,u=Value.int i t from r); subst e; exact mixKind_int P w i t
 | inr x=>obtain ⟨t,e⟩:=(show ∃ t,u=Value.str x t from r); subst e; exact mixKind_str P w x t
theorem kN {P:Program} {w:World}:∀ {ks:List Key} {us:List Value},ni (ks.map kV) us->ItemsAre (aW P w) ks us
 | [],_,r=>by rw [map_nil] at r; cases r; exact .nil
 | k::ks,_,r=>by
  rw [map_cons] at r
  cases r with
  | cons h t=>exact .cons (kV_is h) (kN t)
abbrev KT (H:Hp):List (List Key × V)->List (List Key × Addr × Value)->Prop:=Paired λp q=>p.1=q.1/\H q.2.1=some (.tup (p.1.map kV))/\m8 p.2 q.2.2
theorem KT.val {H:Hp} {kvs:List (List Key × V)} {xs:List (List Key × Addr × Value)} (r:KT H kvs xs) (k:List Key):RelO (fD kvs k) ((atKey xs k).map (·.2)):=by
 induction r with
 | nil=>exact True.intro
 | @cons p q ps qs h t ih=>
  obtain ⟨h1,_,h2⟩:=h
  by_cases e:p.1=k
  ·have e':q.1=k:=h1.symm.trans e
   have b:atKey (q::qs) k=some q.2:=by simp [atKey,find?_cons,e']
   rw [gH e,b]; exact h2
  ·have e':¬ q.1=k:=λz=>e (h1.trans z)
   have b:atKey (q::qs) k=atKey qs k:=by simp [atKey,find?_cons,e']
   rw [gv e,b]; exact ih
theorem KT.repl {H:Hp} {kvs:List (List Key × V)} {xs:List (List Key × Addr × Value)} (r:KT H kvs xs) (k:List Key) {y:V} {u:Value} (ry:m8 y u) :
  KT H (kvs.map λkv=>if kv.1=k then (kv.1,y) else kv) (xs.map (putAt k u)):=by
 induction r with
 | nil=>exact .nil
 | @cons p q ps qs h t ih=>
  rw [map_cons,map_cons]
  refine .cons ?_ ih
  obtain ⟨h1,h2,h3⟩:=h
  unfold putAt
  by_cases e:p.1=k
  ·rw [if_pos e,if_pos (h1.symm.trans e)]; exact ⟨h1,h2,ry⟩
  ·rw [if_neg e,if_neg (λz=>e (h1.trans z))]; exact ⟨h1,h2,h3⟩
theorem KT.put {H:Hp} {kvs:List (List Key × V)} {xs:List (List Key × Addr × Value)} (r:KT H kvs xs) (k:List Key) {b:Addr} {y:V} {u:Value} (hb:H b=some (.tup (k.map kV))) (ry:m8 y u) :
  KT H (bU kvs k y) (storedH xs k b u):=by
 have e:(kvs.any λkv=>decide (kv.1=k))=(atKey xs k).isSome:=by
  rw [jh,(r.val k).isSome_eq,Option.isSome_map]
 unfold bU storedH
 rw [e]
 by_cases q:(atKey xs k).isSome=true
 ·rw [if_pos q,if_pos q]; exact r.repl k ry
 ·rw [if_neg q,if_neg q]; exact Paired.snoc r ⟨rfl,hb,ry⟩
theorem KT.keeps {H H':Hp} {kvs:List (List Key × V)} {xs:List (List Key × Addr × Value)} (r:KT H kvs xs) (ht:∀ b ys,H b=some (.tup ys)->H' b=some (.tup ys)):KT H' kvs xs:=
 Paired.mapP r λ_ _ z=>⟨z.1,ht _ _ z.2.1,z.2.2⟩
section
variable {P:Program} {w:World} {H:Hp} {h:Heap} {a:Addr}
theorem rd_of {u:HO} (ok:HOk P w H h) (e:Rd H a u):ny P w H h a u:=e.ok ok
theorem kW {kvs:List (Key × V)} (ok:HOk P w H h) (e:Rd H a (.dK kvs)):kvs.length<=sizeLine/\(a == sysModules)=false/\∃ vs,KV kvs vs/\h.DictOf (aW P w) a vs:=
 show ny P w H h a (.dK kvs) from rd_of ok e
theorem dk_of {kvs:List (Key × V)} (ok:HOk P w H h) (e:H a=some (.dK kvs)):kvs.length<=sizeLine/\(a == sysModules)=false/\∃ vs,KV kvs vs/\h.DictOf (aW P w) a vs:=kW ok (.inl e)
theorem jq {ks:List Key} (ok:HOk P w H h) (e:H a=some (.tup (ks.map kV))):(tupleKind (aW P w)).is h ks a:=by
 obtain ⟨_,its,r,o,h1,h2,n,h3⟩:=(show ny P w H h a (.tup (ks.map kV)) from ok a _ e)
 exact ⟨o,its.toArray,n,h1,h2,h3,by simpa using kN r⟩
theorem kO {kvs:List (List Key × V)} (ok:HOk P w H h) (e:Rd H a (.dT kvs)):kvs.length<=sizeLine/\(a == sysModules)=false/\
  ∃ xs,KT H kvs xs/\h.DictOfH (tupleKind (aW P w)) a xs:=by
 obtain ⟨z,y,xs,r,o,es,ep,h1,h2,h3,h4,h5⟩:=(show ny P w H h a (.dT kvs) from rd_of ok e)
 refine ⟨z,y,xs,r,o,es,ep,h1,h2,h3,h4,λx hx=>?_,h5⟩
 have all:∀ {l:List (List Key × V)} {m:List (List Key × Addr × Value)},KT H l m->∀ x ∈ m,(tupleKind (aW P w)).is h x.1 x.2.1:=by
  intro l m q
  induction q with
  | nil=>intro x hx; exact nomatch hx
  | @cons p q ps qs hq t ih=>
   intro x hx
   rcases List.mem_cons.mp hx with e | hx
   ·subst e
    exact jq ok (by rw [<- hq.1]; exact hq.2.1)
   ·exact ih x hx
 exact all r x hx
theorem dt_of {kvs:List (List Key × V)} (ok:HOk P w H h) (e:H a=some (.dT kvs)):kvs.length<=sizeLine/\(a == sysModules)=false/\
  ∃ xs,KT H kvs xs/\h.DictOfH (tupleKind (aW P w)) a xs:=kO ok (.inl e)
end
def DGet (H:Hp) (a:Addr) (y:V) (r:Option V):Prop:=
 (∃ kvs k,Rd H a (.dK kvs)/\y=kV k/\r=fD kvs k)\/∃ kvs k b,Rd H a (.dT kvs)/\y=.ref b/\H b=some (.tup (k.map kV))/\r=fD kvs k
def DPut (H:Hp) (a:Addr) (y v:V) (H':Hp):Prop:=
 (∃ kvs k,H a=some (.dK kvs)/\y=kV k/\kvs.length<sizeLine/\H'=upd H a (.dK (bU kvs k v))) \/
 ∃ kvs k b,H a=some (.dT kvs)/\y=.ref b/\H b=some (.tup (k.map kV))/\kvs.length<sizeLine/\H'=upd H a (.dT (bU kvs k v))
theorem DGet.t {H:Hp} {a b:Addr} {kvs:List (List Key × V)} {k:List Key} (e:H a=some (.dT kvs)) (eb:H b=some (.tup (k.map kV))):DGet H a (.ref b) (fD kvs k):=.inr ⟨kvs,k,b,.inl e,rfl,eb,rfl⟩
theorem DPut.t {H:Hp} {a b:Addr} {kvs:List (List Key × V)} {k:List Key} {v:V} (e:H a=some (.dT kvs)) (eb:H b=some (.tup (k.map kV))) (hl:kvs.length<sizeLine) :
  DPut H a (.ref b) v (upd H a (.dT (bU kvs k v))):=.inr ⟨kvs,k,b,e,rfl,eb,hl,rfl⟩
section
variable {X:Cx} {pins:List (Addr × Obj)} {σ:St} {H:Hp} {s:Shared} {a:Addr} {y v:V} {u r:Value} {o:Option V} {A:Around} {E:Value->Shared->Prop}
theorem Inv.big (I:Inv X pins σ H s):sysModules<s.heap.objs.size:=by
 have h:mainGlobals<s.heap.objs.size:=(I.mod.glob.keeps I.bk).lt
 exact Nat.lt_trans (by decide) h
theorem d_getItem {Q:Value->Shared->Prop} (hu:A.units+1<cLine) (I:Inv X pins σ H s) (g:DGet H a y (some v)) (ry:m8 y u) (h:∀ w' s',Inv X pins σ H s'->m8 v w'->Q w' s') :
  wpAny (model X.prog X.w) A (getItem (.ref a) u) Q E s:=by
 rcases g with ⟨kvs,k,e,ey,l⟩ | ⟨kvs,k,b,e,ey,eb,l⟩
 ·subst ey
  obtain ⟨z,hd,vs,rel,dd⟩:=kW I.hok e
  obtain ⟨w',hw,rw'⟩:=RelO.some_of (v:=v) (o:=valueAt vs k) (by rw [l]; exact rel.val k)
  exact wpAny_getItem_of (kV_is ry) dd.mapOf hw (h w' _ (I.tok _) rw')
 ·subst ey
  cases (show u=Value.ref b from ry)
  obtain ⟨z,hd,xs,rel,dd⟩:=kO I.hok e
  obtain ⟨w',hw,rw'⟩:=RelO.some_of (v:=v) (o:=(atKey xs k).map (·.2)) (by rw [l]; exact rel.val k)
  obtain ⟨p,hp,hp2⟩:=Option.map_eq_some_iff.mp hw
  refine wpAny_getItem_heap (tupleKind_room_in1 hu) (jq I.hok eb) dd hp ?_
  rw [hp2]
  exact h w' _ (I.tok _) rw'
theorem d_in {Q:Value->Shared->Prop} (hu:A.units+1<cLine) (I:Inv X pins σ H s) (g:DGet H a y o) (ry:m8 y u) (h:∀ s',Inv X pins σ H s'->Q (.bool o.isSome) s') :
  wpAny (model X.prog X.w) A (compareOp .In u (.ref a)) Q E s:=by
 rcases g with ⟨kvs,k,e,ey,l⟩ | ⟨kvs,k,b,e,ey,eb,l⟩
 ·subst ey
  obtain ⟨z,hd,vs,rel,dd⟩:=kW I.hok e
  refine wpAny_in_of (kV_is ry) hd dd.mapOf ?_
  rw [<- (rel.val k).isSome_eq,<- l]
  exact h _ (I.tok _)
 ·subst ey
  cases (show u=Value.ref b from ry)
  obtain ⟨z,hd,xs,rel,dd⟩:=kO I.hok e
  refine wpAny_in_heap (tupleKind_room_in1 hu) (jq I.hok eb) hd dd ?_
  have q:=(rel.val k).isSome_eq
  rw [Option.isSome_map] at q
  rw [<- q,<- l]
  exact h _ (I.tok _)
theorem d_write {h':Heap} {t':Nat} {ob:HO} (I:Inv X pins σ H s) (mu:Mut (H a)) (hs:Heap.SameBut a s.heap h') (he:∃ q,h'.get? a=some q) (new:ny X.prog X.w (upd H a ob) h' a ob) :
  Inv X pins σ (upd H a ob) { s with heap:=h',toks:=t' }:=
 I.write (x:=a) (e:=a) mu (.inl rfl) (λb q hb z=>(hs.2 b hb).trans z) he new
theorem dk_new {P:Program} {w:World} {H':Hp} {h':Heap} {kvs:List (Key × V)} {vs:List (Key × Value)} (z:kvs.length<=sizeLine) (hd:(a == sysModules)=false) (rel:KV kvs vs) (dd:h'.DictOf (aW P w) a vs) :
  ny P w H' h' a (.dK kvs):=⟨z,hd,vs,rel,dd⟩
theorem d_setItem {H':Hp} {Q:Unit->Shared->Prop} (hu:A.units+1<cLine) (I:Inv X pins σ H s) (g:DPut H a y v H') (ry:m8 y u) (rv:m8 v r) (h:∀ s',Inv X pins σ H' s'->Q () s') :
  wpAny (model X.prog X.w) A (setItem (.ref a) u r) Q E s:=by
 rcases g with ⟨kvs,k,e,ey,l,eH⟩ | ⟨kvs,k,b,e,ey,eb,l,eH⟩
 ·subst ey eH
  obtain ⟨z,hd,vs,rel,dd⟩:=dk_of I.hok e
  have hz:vs.length<=sizeLine:=by rw [<- rel.length]; exact z
  have hl:(bU kvs k v).length<=sizeLine:=by have:=iK kvs k v; omega
  refine wpAny_setItem_pairs (hsz:=hz) (kV_is ry) dd λh' dd' hs=>h _ ?_
  have he:∃ q,h'.get? a=some q:=let ⟨q,_,_,hq,_⟩:=dd'; ⟨q,hq⟩
  exact d_write I (by rw [e]; exact True.intro) hs he (dk_new hl hd (rel.put k rv) dd')
 ·subst ey eH
  cases (show u=Value.ref b from ry)
  obtain ⟨z,hd,xs,rel,dd⟩:=dt_of I.hok e
  have hz:xs.length<=sizeLine:=by rw [<- Paired.length rel]; exact z
  have hl:(bU kvs k v).length<=sizeLine:=by have:=iK kvs k v; omega
  refine wpAny_setItem_heap (hsz:=hz) (tupleKind_room_in1 hu) (jq I.hok eb) dd λh' dd' hs=>h _ ?_
  obtain ⟨q,es,ep,hq,h2,h3,h4,_,h5⟩:=dd'
  refine d_write I (by rw [e]; exact True.intro) hs ⟨q,hq⟩ ⟨hl,hd,_,(rel.put k eb rv).keeps λc ys ec=>?_,q,es,ep,hq,h2,h3,h4,h5⟩
  rw [am (bq ec e (λz=>nomatch z))]
  exact ec
end
section
variable {X:Cx} {pins:List (Addr × Obj)} {σ:St} {H:Hp} {s:Shared} {a:Addr} {kvs:List (Key × V)} {k:Key} {u:Value} {A:Around} {E:Value->Shared->Prop}
end
def NoSl (i:Expr):Prop:=∀ ov iv,subscripted i false ov iv=operate [ov,iv] (getItem ov iv)
theorem subD_of {prog:Program} {w:World} {A:Around} {E:Value->Shared->Prop} {s:Shared} {env:Env} {value slice:Expr} {pos:Pos} {T id:String} {Q:Value->Shared->Prop}
  (hl:typeLookup (.type T) "__getitem__" = pure (some (.builtin id))) (hs:NoSl slice)
  (h:wpAny (model prog w) A (eval value env) (λo s₁=>wpAny (model prog w) A (eval slice env) (λi s₂=>s₂.TypeIs o T/\wpAny (model prog w) A (getItem o i) Q E s₂) E s₁) E s) :
  wpAny (model prog w) A (eval (.Subscript value slice pos) env) Q E s:=by
 refine Subscript_ (wpAny_mono h (λo s₁ h₁=>wpAny_mono h₁ (λi s₂ h₂=>?_) λ_ _ x=>x) λ_ _ x=>x)
 obtain ⟨hT,h₂⟩:=h₂
 unfold subscriptTail
 refine wpAny_bind ?_
 rw [getitemInPython_of_ne hT.not_modules]
 refine wpAny_bind (wpAny_specialOf hT hl ?_)
 have fin:wpAny (model prog w) A (subscripted slice false o i) (λr s₃=>wpAny (model prog w) A (letTemporaryGo value o r >>= λ_=>pure r) Q E s₃) E s₂:=by
  rw [hs o i]
  exact wpAny_operating (wpAny_mono h₂ (λr s₃ h₃=>wpAny_bind (wpAny_letTemporaryGo (wpAny_pure h₃))) λ_ _ x=>x)
 first
  | exact wpAny_pure (wpAny_bind fin)
  | exact wpAny_bind (wpAny_pure (wpAny_bind fin))
  | exact wpAny_bind fin
theorem dict_typeIs {X:Cx} {pins:List (Addr × Obj)} {σ:St} {H:Hp} {s:Shared} {a:Addr} {y:V} {o:Option V} (I:Inv X pins σ H s) (g:DGet H a y o):s.TypeIs (.ref a) "dict":=by
 rcases g with ⟨kvs,k,e,_,_⟩ | ⟨kvs,k,b,e,_,_,_⟩
 ·obtain ⟨_,_,vs,_,dd⟩:=kW I.hok e
  exact dd.typeIs
 ·obtain ⟨_,_,xs,_,dd⟩:=kO I.hok e
  exact dd.typeIs
def tDGet (td ty:TE):TE:=λσ H Q=>td σ H λx H1=>ty σ H1 λy H2=>∃ a v,x=.ref a/\DGet H2 a y (some v)/\Q v H2
def tDIn (ty td:TE):TE:=λσ H Q=>ty σ H λy H1=>td σ H1 λx H2=>∃ a o,x=.ref a/\DGet H2 a y o/\Q (.bl o.isSome) H2
def sDPut (td ty tv:TE):TS:=λD σ H=>tv σ H λv H1=>td σ H1 λx H2=>ty σ H2 λy H3=>∃ a H4,x=.ref a/\DPut H3 a y v H4/\D.nx σ H4
section
variable {X:Cx} {o i e value:Expr} {pos pos' tpos:Pos} {td ty tv:TE}
theorem dL (hu:X.A.units+1<cLine) (ho:PE X o td) (hi:PE X i ty) (hs:NoSl i):PE X (.Subscript o i pos) (tDGet td ty):=by
 intro pins s σ H Q I h
 refine subD_of PySem.F.slot_dict_getitem.lookup hs (thn (ho pins s σ H _ I h) λu s1 ⟨x,H1,I1,rx,q1⟩=>thn (hi pins s1 σ H1 _ I1 q1) λiv s2 ⟨y,H2,I2,ry,a,v,ex,g,q2⟩=>?_)
 subst ex
 obtain rfl:u=Value.ref a:=rx
 exact ⟨dict_typeIs I2 g,d_getItem hu I2 g ry λw' s3 I3 rw'=>⟨v,H2,I3,rw',q2⟩⟩
theorem pc_din (hu:X.A.units+1<cLine) (hi:PE X i ty) (ho:PE X o td):PC X .In i o (tDIn ty td):=by
 intro pins s σ H Q I h
 refine thn (hi pins s σ H _ I h) λiv s1 ⟨y,H1,I1,ry,q1⟩=>thn (ho pins s1 σ H1 _ I1 q1) λu s2 ⟨x,H2,I2,rx,a,ov,ex,g,q2⟩=>?_
 subst ex
 obtain rfl:u=Value.ref a:=rx
 exact d_in hu I2 g ry λs3 I3=>⟨.bl ov.isSome,H2,I3,rfl,q2⟩
theorem mh (hu:X.A.units+1<cLine) (ho:PE X o td) (hi:PE X i ty) (hv:PE X value tv) (hs:swapsWith value (some (.Subscript o i pos')) pos.line X.env=pure false) :
  PS X (.Assign [.Subscript o i pos'] value pos) (sDPut td ty tv):=by
 intro pins s σ H D I h
 refine wpAny_Assign_Subscript (thn (hv pins s σ H _ I h) λr s1 ⟨v,H1,I1,rv,q1⟩=>thn (ho pins s1 σ H1 _ I1 q1) λu s2 ⟨x,H2,I2,rx,q2⟩=>thn (hi pins s2 σ H2 _ I2 q2) λiv s3 ⟨y,H3,I3,ry,a,H4,ex,g,q3⟩=>?_) hs
 subst ex
 obtain rfl:u=Value.ref a:=rx
 exact d_setItem hu I3 g ry rv λs4 I4=>⟨σ,H4,I4,q3⟩
end
theorem dt_empty {P:Program} {w:World} {H:Hp} (h:Heap) (hb:sysModules<h.objs.size):ny P w H (h.push { cls:=.type "dict",data:=.dict #[] }) h.objs.size (.dT []):=
 ⟨Nat.zero_le _,beq_eq_false_iff_ne.mpr (Ne.symm (Nat.ne_of_lt hb)),[],.nil,_,#[],0,get?_push_size _ rfl,⟨rfl,rfl,rfl⟩,rfl,rfl,List.nodup_nil⟩
def tDNewT:TE:=λ_ H Q=>∀ p,H p=none->Q (.ref p) (upd H p (.dT []))
section
variable {X:Cx} {pos:Pos}
theorem jI:PE X (.Dict [] [] pos) tDNewT:=λpins s σ H Q I h=>
 wpAny_Dict_empty ⟨.ref s.heap.objs.size,_,I.laid (a:=s.heap.objs.size) (o:=.dT []) (t':=s.toks) (λ_ _ q=>get?_push_of_some _ q) (Nat.le_refl _) (dt_empty s.heap I.big),rfl,h _ (I.hok.fresh (Nat.le_refl _))⟩
end
structure M2 (X:Cx) (o:Expr) (m:Str) (apos:Pos) (e f:Expr) (cpos:Pos):Prop where
 base:attributeBase o m X.env (eval o X.env)=eval o X.env
 few:((backTo cpos (starEach [e,f] X.env)).all (λx=>!x.1) && (backToKw cpos (keywordEach [] X.env)).all (λx=>x.1.isSome)
  && decide (([e,f]:List Expr).length+([]:List Keyword).length+(if ([]:List Keyword).isEmpty then 0 else 1)<30))=true
 line:(apos.endLine == cpos.line)=true
 trees:backTo cpos (starEach [e,f] X.env)=[(false,eval e X.env),(false,eval f X.env)]
def IsD (H:Hp) (a:Addr):Prop:=(∃ kvs,Rd H a (.dK kvs))\/∃ kvs,Rd H a (.dT kvs)
theorem isD_at {X:Cx} {pins:List (Addr × Obj)} {σ:St} {H:Hp} {s:Shared} {a:Addr} (I:Inv X pins σ H s) (d:IsD H a) :
  s.TypeIs (.ref a) "dict"/\(∀ b,Value.ref a=.ref b->∃ ob,s.heap.get? b=some ob/\ob.dict=none)/\(a == sysModules)=false:=by
 rcases d with ⟨kvs,e⟩ | ⟨kvs,e⟩
 ·obtain ⟨_,hd,vs,_,dd⟩:=kW I.hok e
  refine ⟨dd.typeIs,λb q=>?_,hd⟩
  cases q
  obtain ⟨ob,_,_,h1,h2,_⟩:=dd
  exact ⟨ob,h1,h2.2.1⟩
 ·obtain ⟨_,hd,xs,_,dd⟩:=kO I.hok e
  refine ⟨dd.typeIs,λb q=>?_,hd⟩
  cases q
  obtain ⟨ob,_,_,h1,h2,_⟩:=dd
  exact ⟨ob,h1,h2.2.1⟩
section
variable {X:Cx} {pins:List (Addr × Obj)} {σ:St} {H:Hp} {s:Shared} {a:Addr} {y d:V} {u r:Value} {o:Option V} {A:Around} {E:Value->Shared->Prop}
theorem d_get2 {Q:Value->Shared->Prop} (hu:A.units+1<cLine) (I:Inv X pins σ H s) (g:DGet H a y o) (ry:m8 y u) (rd:m8 d r) (h:∀ w' s',Inv X pins σ H s'->m8 (o.getD d) w'->Q w' s') :
  wpAny (model X.prog X.w) A (call (.builtin "dict.get") [.ref a,u,r]) Q E s:=by
 rcases g with ⟨kvs,k,e,ey,l⟩ | ⟨kvs,k,b,e,ey,eb,l⟩
 ·subst ey
  obtain ⟨z,hd,vs,rel,dd⟩:=kW I.hok e
  refine call_meetsIn PySem.F.slot_dict_get dd.typeIs PySem.F.entry_dict_get (PySem.F.args_dict_get_3 _ _ _) (meets_dict_get_default (aW X.prog X.w) a (kV_is ry) hd r) ⟨_,dd.mapOf,h _ _ (I.tok _) ?_⟩
  rw [l]
  exact (rel.val k).getD rd
 ·subst ey
  cases (show u=Value.ref b from ry)
  obtain ⟨z,hd,xs,rel,dd⟩:=kO I.hok e
  refine call_meetsIn PySem.F.slot_dict_get dd.typeIs PySem.F.entry_dict_get (PySem.F.args_dict_get_3 _ _ _) (meetsH_dict_get_default (tupleKind (aW X.prog X.w)) a b hd r) ⟨tupleKind_room_in1 hu,k,xs,jq I.hok eb,dd,h _ _ (I.tok _) ?_⟩
  rw [l]
  exact (rel.val k).getD rd
end
def tDGet2 (td ty tx:TE):TE:=λσ H Q=>td σ H λx H1=>∃ a,x=.ref a/\IsD H1 a/\ty σ H1 λy H2=>tx σ H2 λz H3=>∃ o,DGet H3 a y o/\Q (o.getD z) H3
section
variable {X:Cx} {o e f:Expr} {apos cpos:Pos} {td ty tx:TE}
theorem pe_dget2 (hu:X.A.units+1<cLine) (ho:PE X o td) (he:PE X e ty) (hf:PE X f tx) (m:M2 X o "get" apos e f cpos):PE X (.Call (.Attribute o "get" apos) [e,f] [] cpos) (tDGet2 td ty tx):=by
 intro pins s σ H Q I h
 refine wpAny_Call_method m.base m.few m.line PySem.F.plainAttrs_dict PySem.F.slot_dict_get PySem.F.type_dict_get (thn (ho pins s σ H _ I h) λu s1 ⟨x,H1,I1,rx,a,ex,d,q1⟩=>?_)
 subst ex
 obtain rfl:u=Value.ref a:=rx
 obtain ⟨t1,t2,_⟩:=isD_at I1 d
 refine ⟨t1,t2,?_⟩
 rw [m.trees]
 refine Calls.callWith_builtin rfl (Calls.evalArgs_plain (Calls.spliced_cons (thn (he pins s1 σ H1 _ I1 q1) λiv s2 ⟨y,H2,I2,ry,q2⟩=>
  Calls.spliced_cons (thn (hf pins s2 σ H2 _ I2 q2) λfv s3 ⟨z,H3,I3,rz,ov,g,q3⟩=>Calls.spliced_nil ?_))))
 exact d_get2 hu I3 g ry rz λw' s4 I4 rw'=>⟨_,H3,I4,rw',q3⟩
end
section
variable {X:Cx} {pins:List (Addr × Obj)} {σ:St} {H:Hp} {s:Shared} {a:Addr} {kvs:List (Key × V)} {A:Around} {E:Value->Shared->Prop}
end
section
variable {X:Cx} {pins:List (Addr × Obj)} {σ:St} {H:Hp} {s:Shared} {a:Addr} {y:V} {u:Value} {A:Around} {E:Value->Shared->Prop}
end
section
variable {κ:Type} [DecidableEq κ]
end
end L2
namespace L2
open PySem PySem.Spec PyProof.Rows PySem.W
def InR {α:Type} (n:Nat) (P:α->Prop):KasT α->Prop
 | .ret a=>P a
 | .ask i j k=>i<n/\j<n/\∀ b,InR n P (k b)
theorem InR.bind {α β:Type} {n:Nat} {P:α->Prop} {Q:β->Prop} {f:α->KasT β}:∀ {t:KasT α},InR n P t->(∀ a,P a->InR n Q (f a))->InR n Q (t.bind f)
 | .ret a,h,hf=>hf a h
 | .ask i j k,h,hf=>⟨h.1,h.2.1,λb=>InR.bind (h.2.2 b) hf⟩
theorem InR.ite {α:Type} {n:Nat} {P:α->Prop} {c:Prop} [Decidable c] {t u:KasT α} (h1:InR n P t) (h2:InR n P u):InR n P (if c then t else u):=by
 split
 ·exact h1
 ·exact h2
def Lo (n:Nat) (p:Array Nat):Prop:=∀ x ∈ p,x<n
theorem Lo.at {n:Nat} {p:Array Nat} (h:Lo n p) (h0:0<n) (i:Nat):p.getD i 0<n:=by
 rw [gd_q]
 cases e:p[i]? with
 | none=>exact h0
 | some x=>exact h x (Array.mem_of_getElem? e)
theorem Lo.of {n:Nat} {p q:Array Nat} (h:Lo n p) (e:q.Perm p):Lo n q:=λx hx=>h x (e.mem_iff.mp hx)
section
variable {n:Nat} (h0:0<n)
include h0
theorem lJ {p:Array Nat} (hp:Lo n p):∀ f m,InR n (λ_=>True) (kas_asc p f m)
 | 0,m=>trivial
 | f+1,m=>⟨hp.at h0 _,hp.at h0 _,λb=>.ite trivial (lJ hp f (m+1))⟩
theorem gu:∀ f p m q,Lo n p->InR n (λr=>Lo n r.1) (kas_desc f p m q)
 | 0,p,m,q,hp=>hp
 | f+1,p,m,q,hp=>⟨hp.at h0 _,hp.at h0 _,λb=>.ite (.ite (gu f _ _ _ (hp.of (mirror_perm _ _ _ _))) (gu f _ _ _ hp))
   ⟨hp.at h0 _,hp.at h0 _,λd=>.ite hp (gu f _ _ _ hp)⟩⟩
theorem kU {p:Array Nat} (hp:Lo n p) (m k:Nat):InR n (λr=>Lo n r.2) (kas_tail3 m k p):=
 (lJ h0 (hp.of (mirror_perm _ _ _ _)) _ _).bind λ_ _=>hp.of (mirror_perm _ _ _ _)
theorem gW {p:Array Nat} (hp:Lo n p) (m k:Nat):InR n (λr=>Lo n r.2) (kas_descPart m k p):=
 (gu h0 _ _ _ _ hp).bind λr hr=>.ite (kU h0 (hr.of (mirror_perm _ _ _ _)) _ _) (kU h0 hr _ _)
theorem inr_count {p:Array Nat} (hp:Lo n p) (k:Nat):InR n (λr=>Lo n r.2) (kas_count k p):=
 (lJ h0 hp _ _).bind λm _=>.ite hp (.ite ⟨hp.at h0 _,hp.at h0 _,λc=>.ite hp (gW h0 (hp.of (mirror_perm _ _ _ _)) _ _)⟩ (gW h0 hp _ _))
theorem im {p:Array Nat} (hp:Lo n p) (k:Nat):∀ f l r,InR n (λ_=>True) (kas_place p k f l r)
 | 0,l,r=>trivial
 | f+1,l,r=>.ite trivial ⟨hp.at h0 _,hp.at h0 _,λc=>.ite (im hp k f _ _) (im hp k f _ _)⟩
theorem inr_bin:∀ f p k,Lo n p->InR n (λ_=>True) (kas_bin f p k)
 | 0,p,k,hp=>trivial
 | f+1,p,k,hp=>(im h0 hp k _ _ _).bind λl _=>inr_bin f _ _ (hp.of (bubble_perm _ _ _))
theorem inr_sort:InR n (λ_=>True) (kas_sort n):=
 (inr_count h0 (λx hx=>by simpa using hx) n).bind λr hr=>.ite (inr_bin h0 _ _ _ hr) trivial
end
theorem wp_ev {α:Type} {n:Nat} {c:Nat->Nat->Bool} {cmp:Nat->Nat->(Bool->Shared->Prop)->Shared->Prop} {P:α->Prop} {Q:α->Shared->Prop} {s:Shared} (h:∀ i j C,i<n->j<n->C (c i j) s->cmp i j C s) :
  ∀ {t:KasT α},InR n P t->Q (ev c t) s->t.kasWp cmp Q s
 | .ret a,_,q=>q
 | .ask i j k,r,q=>h i j _ r.1 r.2.1 (wp_ev h (r.2.2 (c i j)) q)
def klt (a b:Int × List Int):Bool:=if a.1=b.1 then (if a.2=b.2 then false else HT.lexLt a.2 b.2) else decide (a.1<b.1)
section
variable {X:Cx} {pins:List (Addr × Obj)} {σ:St} {H:Hp} {s:Shared}
def KeyR (K:Frag) (H:Hp) (y:V) (k:Int × List Int):Prop:=∃ a t,y=.ref a/\H a=some (.tup [.int k.1,.ref t])/\SqT K H t (k.2.map V.int)
theorem key_lt {A:Around} {E:Value->Shared->Prop} {x y:V} {u v:Value} {j k:Int × List Int} {Q:Bool->Shared->Prop} (hu:A.units+64<cLine) (I:Inv X pins σ H s) (hx:KeyR X.K H x j) (hy:KeyR X.K H y k) (rx:m8 x u) (ry:m8 y v)
  (h:Q (klt j k) s):wpAny (model X.prog X.w) A (keyLt' (tuples' true) u v) Q E s:=by
 obtain ⟨a,ta,rfl,ha,hta⟩:=hx
 obtain ⟨b,tb,rfl,hb,htb⟩:=hy
 cases rx
 cases ry
 obtain ⟨_,its,r1,p1⟩:=(show ny X.prog X.w H s.heap a (.tup _) from I.hok a _ ha)
 obtain ⟨_,its2,r2,p2⟩:=(show ny X.prog X.w H s.heap b (.tup _) from I.hok b _ hb)
 obtain ⟨⟨cls,dd,data,sl⟩,ho,hc,n,hd⟩:=id p1
 obtain ⟨⟨cls2,dd2,data2,sl2⟩,ho2,hc2,n2,hd2⟩:=id p2
 cases r1 with
 | cons q1 r1=>cases r1 with
  | cons q2 r1=>
   cases r1
   cases r2 with
   | cons q3 r2=>cases r2 with
    | cons q4 r2=>
     cases r2
     obtain ⟨t1,rfl⟩:=q1
     obtain ⟨t3,rfl⟩:=q3
     cases q2
     cases q4
     refine kat_lt ho hd ho2 hd2 (kat_cons (wpAny_eqBool_int (kat_go (λe=>kat_yes ?_) λe=>kat_no ?_)))
     ·have e1:j.1=k.1:=by simpa using e
      unfold klt at h
      rw [if_pos e1] at h
      obtain ⟨as,ra⟩:=(dM hta).reads I rfl
      obtain ⟨bs,rb⟩:=(dM htb).reads I rfl
      obtain ⟨jts,r3,p3,_⟩:=I.tuple hta
      obtain ⟨jts2,r4,p4,_⟩:=I.tuple htb
      have eqr:SeqAt.EqAt A s (.ref ta) (.ref tb) (decide (j.2=k.2)):=by
       by_cases hab:ta=tb
       ·subst hab
        rw [decide_eq_true (jQ (I.tuple_inj hta htb))]
        exact SeqAt.EqAt.same _
       ·exact SeqAt.EqAt.of_refs hab λprog w E Q' hq=>eq_dataH ra rb (bL _) (bL _) hu (by rw [jS]; exact hq)
      refine kat_cons (eqr _ _ _ _ ?_)
      refine kat_go (λe=>kat_yes (kat_nil ?_)) λe=>kat_no ?_
      ·rw [if_pos (of_decide_eq_true e)] at h
       exact h
      ·rw [if_neg (of_decide_eq_false e)] at h
       exact kat_one _ _ (HT.lt_tupInts p3 p4 (ja r3) (ja r4) (by omega) h)
     ·have e1:¬ j.1=k.1:=by simpa using e
      unfold klt at h
      rw [if_neg e1] at h
      exact oneLt_int h
end
section
variable {X:Cx} {pins:List (Addr × Obj)} {σ:St} {H:Hp} {s:Shared}
theorem KeyR.but {K:Frag} {H H':Hp} {p:Addr} {xs:List V} {y:V} {k:Int × List Int} (hp:H p=some (.lst xs)) (hk:∀ c o,H c=some o->c ≠ p->H' c=some o) (h:KeyR K H y k):KeyR K H' y k:=by
 obtain ⟨a,t,rfl,ha,ht⟩:=h
 refine ⟨a,t,rfl,hk _ _ ha (bq ha hp (by intro z; cases z)),?_⟩
 rcases ht with (h | ⟨o,h⟩) | h
 ·exact .inl (.inl (hk _ _ h (bq h hp (by intro z; cases z))))
 ·exact .inl (.inr ⟨o,hk _ _ h (bq h hp (by intro z; cases z))⟩)
 ·exact .inr h
theorem KeyR.same {K:Frag} {H H':Hp} {y:V} {k:Int × List Int} (e:mY H H') (h:KeyR K H y k):KeyR K H' y k:=by
 obtain ⟨a,t,rfl,ha,ht⟩:=h
 exact ⟨a,t,rfl,e _ _ ha,e.sqT ht⟩
abbrev on (K:Frag) (H:Hp):List V->List (Int × List Int)->Prop:=Paired (KeyR K H)
theorem on.imp {K:Frag} {H H':Hp} (hh:∀ y k,KeyR K H y k->KeyR K H' y k):∀ {ys:List V} {ks:List (Int × List Int)},on K H ys ks->on K H' ys ks
 | _,_,.nil=>.nil
 | _,_,.cons q r=>.cons (hh _ _ q) (on.imp hh r)
theorem on.snoc {K:Frag} {H:Hp} {y:V} {k:Int × List Int} (q:KeyR K H y k):∀ {ys:List V} {ks:List (Int × List Int)},on K H ys ks->on K H (ys++[y]) (ks++[k])
 | _,_,.nil=>.cons q .nil
 | _,_,.cons p r=>.cons p (on.snoc q r)
theorem on.get {K:Frag} {H:Hp}:∀ {ys:List V} {ks:List (Int × List Int)} {i:Nat} {y:V},on K H ys ks->ys[i]? = some y->∃ k,ks[i]? = some k/\KeyR K H y k
 | _,_,0,y,.cons q r,e=>by cases e; exact ⟨_,rfl,q⟩
 | _::_,_::_,i+1,y,.cons q r,e=>on.get (i:=i) r e
theorem ll (I:Inv X pins σ H s):∀ {ys:List V} {ks:List (Int × List Int)} {us:List Value},on X.K H ys ks->ni ys us->∃ fs:List Value,KatTups s.heap us fs/\fs.length=us.length/\∀ v ∈ fs,∃ n t,v=Value.int n t
 | _,_,_,.nil,.nil=>⟨[],.nil,rfl,λ_ h=>nomatch h⟩
 | _,_,_,.cons q r,.cons p v=>by
  obtain ⟨fs,h1,h2,h3⟩:=ll I r v
  obtain ⟨a,t,rfl,ha,ht⟩:=q
  cases p
  obtain ⟨_,its,r1,p1⟩:=(show ny X.prog X.w H s.heap a (.tup _) from I.hok a _ ha)
  obtain ⟨⟨cls,dd,data,sl⟩,ho,hc,n,hd⟩:=id p1
  cases r1 with
  | cons q1 r1=>
   obtain ⟨t1,rfl⟩:=q1
   refine ⟨.int _ t1::fs,.cons ho hc hd rfl h1,by simp [h2],λv hv=>?_⟩
   rcases List.mem_cons.mp hv with rfl | hv
   ·exact ⟨_,_,rfl⟩
   ·exact h3 v hv
theorem lb {A:Around} {E:Value->Shared->Prop} {f:Value} {H0:Hp} {D kS:Addr} {φ:Heap->Prop} {key:V->Int × List Int} {body:Value->PUnit->Sem (ForInStep PUnit)} {R:PUnit->Shared->Prop} {all:List V}
  (h0:H0 kS=none) (hn:all.length<64)
  (hf:∀ x ∈ all,∀ u H1 s1,m8 x u->Inv X pins σ H1 s1->mY H0 H1->wpAny (model X.prog X.w) A (call f [u]) (λk s2=>∃ y H2,Inv X pins σ H2 s2/\m8 y k/\mY H1 H2/\KeyR X.K H2 y (key x)) (λ_ _=>False) s1)
  (hb:∀ u (s1:Shared) (C:Shared->Prop),wpAny (model X.prog X.w) A (call f [u]) (λk s2=>∃ (ks:List Value) (n:Nat),s2.heap.get? kS=some (seqObj "list" (List.toArray ks) n)/\ks.length<64/\C { s2 with heap:=s2.heap.update kS (Obj.mapSeq (·.push k)) }) (λ_ _=>False) s1->
   wpAny (model X.prog X.w) A (body u ⟨⟩) (λr s2=>r=.yield ⟨⟩/\C s2) E s1)
  (hR:∀ H1 s1 ys ks,Inv X pins σ H1 s1->mY H0 H1->H1 D=some (.ext φ)->H1 kS=some (.lst ys)->on X.K H1 ys ks->ks=all.map key->R ⟨⟩ s1) :
  ∀ (r pre:List V) (us:List Value) (ys:List V) (H1:Hp) (s1:Shared),all=pre++r->ni r us->Inv X pins σ H1 s1->mY H0 H1->H1 D=some (.ext φ)->H1 kS=some (.lst ys)->on X.K H1 ys (pre.map key)->
   wpAny (model X.prog X.w) A (forIn us PUnit.unit body) R E s1
 | [],pre,us,ys,H1,s1,ea,rv,I,sm,hD,hk,kr=>by
  cases rv
  rw [forIn_nil]
  exact wpAny_pure (hR H1 s1 ys _ I sm hD hk kr (by rw [ea,append_nil]))
 | x::r,pre,us,ys,H1,s1,ea,rv,I,sm,hD,hk,kr=>by
  cases rv with
  | cons q rv=>
   rename_i u us
   rw [forIn_cons]
   have hx:x ∈ all:=by rw [ea]; simp
   have hyl:ys.length=pre.length:=by have:=Paired.length kr; rw [length_map] at this; exact this
   have hal:all.length=pre.length+(r.length+1):=by rw [ea,length_append,length_cons]
   refine wpAny_bind (wpAny_mono (hb u s1 (λs2=>wpAny (model X.prog X.w) A (forIn us PUnit.unit body) R E s2) (wpAny_mono (hf x hx u H1 s1 q I sm) (λk s2 ⟨y,H2,I2,ry,sm2,ky⟩=>?_) λ_ _ z=>z)) (λz s2 ⟨ez,hz⟩=>?_) λ_ _ z=>z)
   ·obtain ⟨_,its,n,rk,lk,ek⟩:=I2.lstM (sm2 _ _ hk)
    refine ⟨its,n,ek,by omega,?_⟩
    have I3:=I2.lset (t':=s2.toks) (f:=(·.push k)) (its':=its++[k]) (ys:=ys++[y]) (sm2 _ _ hk) ek (by simp) (rk.append (.cons ry .nil)) (by rw [length_append,length_singleton,sizeLine_eq]; omega)
    have keep:∀ c o,H2 c=some o->c ≠ kS->upd H2 kS (.lst (ys++[y])) c=some o:=λc o e ne=>by rw [am ne]; exact e
    refine lb h0 hn hf hb hR r (pre++[x]) us (ys++[y]) _ _ (by rw [ea]; simp) rv I3 (λc o e=>?_) ?_ ac ?_
    ·exact keep c o (sm2 _ _ (sm c o e)) (ah e h0)
    ·exact keep D _ (sm2 _ _ hD) (bq hD hk (by intro z; cases z))
    ·rw [map_append]
     exact on.snoc (ky.but (sm2 _ _ hk) keep) (on.imp (λ_ _ z=>(z.same sm2).but (sm2 _ _ hk) keep) kr)
   ·subst ez
    exact hz
end
theorem ij:∀ {a b c:List Int},HT.lexLt a b=true->HT.lexLt b c=true->HT.lexLt a c=true
 | [],[],_,h,_=>by simp [HT.lexLt] at h
 | [],_::_,[],_,h=>by simp [HT.lexLt] at h
 | [],_::_,_::_,_,_=>rfl
 | _::_,[],_,h,_=>by simp [HT.lexLt] at h
 | _::_,_::_,[],_,h=>by simp [HT.lexLt] at h
 | x::a,y::b,z::c,h1,h2=>by
  rw [HT.lexLt_cons] at h1 h2 ⊢
  by_cases e1:x=y
  ·subst e1
   rw [if_pos rfl] at h1
   by_cases e2:x=z
   ·rw [if_pos e2] at h2 ⊢
    exact ij h1 h2
   ·rw [if_neg e2] at h2 ⊢
    exact h2
  ·rw [if_neg e1] at h1
   have l1:=of_decide_eq_true h1
   by_cases e2:y=z
   ·subst e2
    rw [if_neg e1]
    exact h1
   ·rw [if_neg e2] at h2
    have l2:=of_decide_eq_true h2
    rw [if_neg (by omega)]
    exact decide_eq_true (by omega)
theorem ik:∀ {a b:List Int},a ≠ b->HT.lexLt a b=false->HT.lexLt b a=true
 | [],[],h,_=>absurd rfl h
 | [],_::_,_,h=>by simp [HT.lexLt] at h
 | _::_,[],_,_=>rfl
 | x::a,y::b,h,h1=>by
  rw [HT.lexLt_cons] at h1 ⊢
  by_cases e:x=y
  ·subst e
   rw [if_pos rfl] at h1 ⊢
   exact ik (λz=>h (by rw [z])) h1
  ·rw [if_neg e] at h1
   rw [if_neg (λz=>e z.symm)]
   have:=of_decide_eq_false h1
   exact decide_eq_true (by omega)
theorem gD:∀ a:List Int,HT.lexLt a a=false
 | []=>rfl
 | x::a=>by rw [HT.lexLt_cons,if_pos rfl]; exact gD a
theorem jA (a b:Int × List Int):klt a b=if a.1=b.1 then HT.lexLt a.2 b.2 else decide (a.1<b.1):=by
 unfold klt
 by_cases e:a.2=b.2
 ·rw [if_pos e,e,gD]
 ·rw [if_neg e]
theorem kj {a b c:Int × List Int} (h1:klt a b=true) (h2:klt b c=true):klt a c=true:=by
 rw [jA] at *
 by_cases e1:a.1=b.1
 ·rw [if_pos e1] at h1
  by_cases e2:b.1=c.1
  ·rw [if_pos e2] at h2
   rw [if_pos (e1.trans e2)]
   exact ij h1 h2
  ·rw [if_neg e2] at h2
   rw [if_neg (by rw [e1]; exact e2),e1]
   exact h2
 ·rw [if_neg e1] at h1
  have l1:=of_decide_eq_true h1
  by_cases e2:b.1=c.1
  ·rw [if_neg (by rw [<- e2]; exact e1),<- e2]
   exact h1
  ·rw [if_neg e2] at h2
   have l2:=of_decide_eq_true h2
   rw [if_neg (by omega)]
   exact decide_eq_true (by omega)
theorem klt_total {a b:Int × List Int} (h:a ≠ b) (h1:klt a b=false):klt b a=true:=by
 rw [jA] at *
 by_cases e:a.1=b.1
 ·rw [if_pos e] at h1
  rw [if_pos e.symm]
  exact ik (λz=>h (Prod.ext e z)) h1
 ·rw [if_neg e] at h1
  have:=of_decide_eq_false h1
  rw [if_neg (λz=>e z.symm)]
  exact decide_eq_true (by omega)
theorem klt_irr (a:Int × List Int):klt a a=false:=by rw [jA,if_pos rfl,gD]
def kAt (ks:List (Int × List Int)) (i j:Nat):Bool:=klt (ks.getD i (0,[])) (ks.getD j (0,[]))
theorem kAt_tot {ks:List (Int × List Int)} (hn:ks.Nodup):Tot ks.length (kAt ks):=by
 refine ⟨λi j k _ _ _=>kj,λi j hi hj hne h=>klt_total (λz=>hne ?_) h⟩
 have g:∀ {i:Nat} (hi:i<ks.length),ks.getD i (0,[])=ks[i]:=λhi=>by simp [List.getD,hi]
 rw [g hi,g hj] at z
 exact (getElem_inj hn).mp z
section
variable {X:Cx} {pins:List (Addr × Obj)} {σ:St} {H:Hp} {s:Shared}
theorem kH {A:Around} {E:Value->Shared->Prop} {P:PySem.Fin->Shared->Prop} {H0:Hp} {D kS:Addr} {e1:Nat} {st:SortSt} {out:List Value} {ys zs:List V} (hout:(arrOf st).map (·.2)=List.toArray out) (hz:out.length<64) (hf:failedOf st=none)
  (I:Inv X pins σ H s) (h0:H0 kS=none) (h1:H0 D=none) (sm:mY H0 H) (hD:H D=some (.ext λh=>h.get? D=some (seqObj "list" #[] e1))) (hk:H kS=some (.lst ys)) (rv:ni zs out.reverse)
  (h:∀ H2 s2,Inv X pins σ H2 s2->mY H0 H2->H2 D=some (.lst zs)->P (.done (.ret .none)) s2):wpAny (model X.prog X.w) A (ksk_tail D true e1 (.ref kS) st) P E s:=by
 have ne:D ≠ kS:=bq hD hk (by intro z; cases z)
 have hzl:zs.length=out.length:=by rw [rv.length,length_reverse]
 obtain ⟨lz,its,n,rk,lk,ek⟩:=I.lstM hk
 have I1:=I.lset (t':=s.toks) (f:=λ_=>#[]) (its':=[]) (ys:=[]) hk ek rfl .nil (Nat.zero_le _)
 have hD1:upd H kS (.lst []) D=some (.ext λh=>h.get? D=some (seqObj "list" #[] e1)):=by rw [am ne]; exact hD
 have eD:(s.heap.update kS (Obj.mapSeq λ_=>#[])).get? D=some (seqObj "list" #[] e1):=(show ny X.prog X.w _ _ D (.ext _) from I1.hok D _ hD1).1
 have q:=get?_update_seq eD (λ_=>List.toArray out.reverse)
 have I2:Inv X pins σ (upd (upd H kS (.lst [])) D (.lst zs)) { s with heap:=(s.heap.update kS (Obj.mapSeq λ_=>#[])).update D (Obj.mapSeq λ_=>List.toArray out.reverse),toks:=s.toks }:=
  I1.write (x:=D) (e:=D) (by rw [hD1]; exact trivial) (.inl rfl) (λb' u hb hu=>(get?_update_other _ _ (Ne.symm hb)).trans hu) ⟨_,q⟩ ⟨by rw [hzl,sizeLine_eq]; omega,out.reverse,_,rv,q⟩
 unfold ksk_tail
 dsimp only
 rw [hout,kat_outs,show katRev true out=out.reverse from if_pos rfl]
 refine wpAny_bind (listUpdate_at ek rfl ?_ (by rw [size_toArray,<- lk]; exact lz) (Nat.zero_le _))
 refine wpAny_bind (wpAny_letGo ?_)
 refine wpAny_bind (seqEpoch_at eD rfl ?_)
 refine wpAny_bind (listUpdate_at eD rfl ?_ (Nat.zero_le _) (by rw [size_toArray,length_reverse,sizeLine_eq]; omega))
 rw [hf]
 simp only [bne_self_eq_false,Bool.false_eq_true,if_false]
 refine wpAny_pure (h _ _ I2 (λc o e=>?_) ac)
 rw [am (ah e h1),am (ah e h0)]
 exact sm c o e
end
theorem i4 {α:Type} {l:List α} {d:α} {i:Nat} (h:i<l.length):l.getD i d=l[i]:=by simp [List.getD,h]
theorem map_range {α:Type} (l:List α) (d:α):(List.range l.length).map (λi=>l.getD i d)=l:=by
 apply List.ext_getElem
 ·simp
 ·intro i h1 h2
  rw [List.getElem_map,List.getElem_range,i4 h2]
def pick {α:Type} (p:Array Nat) (xs:List α) (d:α):List α:=p.toList.map λi=>xs.reverse.getD i d
theorem pick_perm {α:Type} {p:Array Nat} {xs:List α} {d:α} (hp:Pm xs.length p):((pick p xs d).reverse).Perm xs:=by
 refine (reverse_perm _).trans (((hp.map _).trans ?_).trans (reverse_perm xs))
 rw [show List.map (λi=>xs.reverse.getD i d) (List.range xs.length)=xs.reverse by rw [<- length_reverse (as:=xs)]; exact map_range _ _]
theorem Pm.mem {n:Nat} {p:Array Nat} (hp:Pm n p) {i:Nat} (h:i ∈ p.toList):i<n:=List.mem_range.mp (hp.mem_iff.mp h)
theorem pick_vals {p:Array Nat} {xs:List V} {us:List Value} (hp:Pm xs.length p) (rv:ni xs us):ni (pick p xs .non) (pick p us Value.none):=by
 have r:=rv.reverse
 have go:∀ l:List Nat,(∀ i ∈ l,i<xs.length)->ni (l.map λi=>xs.reverse.getD i .non) (l.map λi=>us.reverse.getD i Value.none):=by
  intro l
  induction l with
  | nil=>intro _; exact .nil
  | cons i l ih=>
   intro h
   have hi:i<xs.reverse.length:=by rw [length_reverse]; exact h i (by simp)
   refine .cons ?_ (ih λj hj=>h j (by simp [hj]))
   obtain ⟨u,e,q⟩:=r.get (getElem?_eq_getElem hi)
   show m8 (xs.reverse.getD i .non) (us.reverse.getD i Value.none)
   rw [i4 hi,getD_eq_getElem?_getD,e]
   exact q
 exact go _ λi hi=>hp.mem hi
theorem pick_pair {p:Array Nat} {xs:List V} {key:V->Int × List Int} (hp:Pm xs.length p) (hs:So (kAt (xs.map key).reverse) p xs.length):((pick p xs .non).reverse).Pairwise λx y=>klt (key y) (key x)=true:=by
 rw [List.pairwise_reverse]
 unfold pick
 rw [pairwise_map,List.pairwise_iff_getElem]
 intro i j hi hj hij
 rw [Array.length_toList,hp.sz] at hi hj
 have z:=hs i j hij hj
 unfold kAt at z
 have g:∀ k (hk:k<xs.length),key (xs.reverse.getD (p.getD k 0) .non)=(xs.map key).reverse.getD (p.getD k 0) (0,[]):=λk hk=>by
  have h1:p.getD k 0<xs.length:=hp.lt hk
  rw [i4 (by rw [length_reverse]; exact h1),i4 (by rw [length_reverse,length_map]; exact h1)]
  simp
 rw [<- g i hi,<- g j hj,gd_at (by rw [hp.sz]; exact hi),gd_at (by rw [hp.sz]; exact hj)] at z
 exact z
section
variable {X:Cx} {pins:List (Addr × Obj)} {σ:St} {H:Hp} {s:Shared}
theorem sort_end {A:Around} {E:Value->Shared->Prop} {P:PySem.Fin->Shared->Prop} {H0:Hp} {D kS:Addr} {e1:Nat} {xs ys:List V} {us its:List Value} {key:V->Int × List Int} (hu:A.units+64<cLine)
  (I:Inv X pins σ H s) (h0:H0 kS=none) (h1:H0 D=none) (sm:mY H0 H) (hD:H D=some (.ext λh=>h.get? D=some (seqObj "list" #[] e1))) (hk:H kS=some (.lst ys)) (kr:on X.K H ys (xs.map key)) (ru:ni ys us) (rv:ni xs its)
  (h64:xs.length<64) (nd:(xs.map key).Nodup)
  (h:∀ H2 s2 zs,Inv X pins σ H2 s2->mY H0 H2->H2 D=some (.lst zs)->zs.Perm xs->zs.Pairwise (λx y=>klt (key y) (key x)=true)->P (.done (.ret .none)) s2):wpAny (model X.prog X.w) A (ksk_end D true its.toArray e1 (.ref kS) us.toArray) P E s:=by
 have lx:=rv.length
 have lu:=ru.length
 have ly:ys.length=xs.length:=by have:=Paired.length kr; rw [length_map] at this; exact this
 have hl:us.length=its.length:=by omega
 unfold ksk_end
 dsimp only
 rw [if_pos rfl]
 refine wpAny_bind (wpAny_rule ?_)
 by_cases h2:its.toArray.size<2
 ·rw [if_pos h2,if_pos h2]
  refine wpAny_bind (wpAny_pure ?_)
  rw [StateT.run_pure]
  refine wpAny_bind (wpAny_pure ?_)
  dsimp only
  rw [kat_pairs true hl,show katRev true us=us.reverse from if_pos rfl,show katRev true its=its.reverse from if_pos rfl]
  refine kH (st:=SortSt.mk' general' _ #[] 7 none) (out:=its.reverse) (zs:=xs) ?_ (by rw [length_reverse]; omega) rfl I h0 h1 sm hD hk (by rw [List.reverse_reverse]; exact rv) λH2 s2 I2 sm2 q=>h H2 s2 xs I2 sm2 q (.refl _) ?_
  ·show Array.map (·.2) ((us.reverse.toArray).zip (its.reverse.toArray))=_
   apply Array.toList_inj.mp
   rw [Array.toList_map,ksk_zip]
   exact List.map_snd_zip (by simp [hl])
  ·rw [size_toArray] at h2
   match xs,(by omega:xs.length<2) with
   | [],_=>exact .nil
   | [x],_=>exact pairwise_singleton _ _
 ·rw [if_neg h2,if_neg h2]
  rw [size_toArray] at h2
  obtain ⟨fs,t1,t2,t3⟩:=ll I kr ru
  refine wpAny_bind (kat_kind (T:=.type "int") t1 (by omega) (λv hv=>?_) (by decide) ?_)
  ·obtain ⟨n,t,rfl⟩:=t3 v hv
   exact Looks.of_pure rfl
  rw [show (Value.type "int" != Value.type "tuple")=true by decide,kat_pairs true hl,show katRev true us=us.reverse from if_pos rfl,show katRev true its=its.reverse from if_pos rfl]
  have tot:=kAt_tot (ks:=(xs.map key).reverse) ((reverse_perm _).nodup_iff.mpr nd)
  rw [length_reverse,length_map] at tot
  obtain ⟨hp,hs⟩:=ev_sort tot (by omega)
  refine wpAny_bind (wpAny_mono (kat_run (vs:=its.reverse) (ks:=us.reverse) (G:=λp s'=>p=ev (kAt (xs.map key).reverse) (kas_sort xs.length)/\s'=s)
   (Q:=λst' s'=>s'=s/\failedOf st'=none/\arrOf st'=(ev (kAt (xs.map key).reverse) (kas_sort xs.length)).map (kas_item ((List.toArray us.reverse).zip (List.toArray its.reverse))))
   (by rw [length_reverse,length_reverse]; exact hl) (by rw [length_reverse]; omega) (by rw [length_reverse]; omega) (λp st' s' a1 a2 a3 a4=>⟨a4.2,a3,by rw [<- a4.1]; exact a2⟩) ?_) ?_ λ_ _ x=>x)
  ·rw [length_reverse,<- lx]
   refine wp_ev (c:=kAt (xs.map key).reverse) (λi j C hi hj hC=>?_) (inr_sort (by omega)) ⟨rfl,rfl⟩
   show wpAny _ _ (keyLt' _ (us.reverse.getD i Value.none) (us.reverse.getD j Value.none)) C _ s
   have at_:∀ i,i<xs.length->∃ y u,us.reverse.getD i Value.none=u/\m8 y u/\KeyR X.K H y ((xs.map key).reverse.getD i (0,[])):=λi hi=>by
    have hi':xs.length-1-i<ys.length:=by omega
    obtain ⟨k,ek,kk⟩:=on.get kr (getElem?_eq_getElem hi')
    obtain ⟨u,eu,ru'⟩:=ru.get (getElem?_eq_getElem hi')
    refine ⟨ys[xs.length-1-i],u,?_,ru',?_⟩
    ·rw [getD_eq_getElem?_getD,List.getElem?_reverse (by omega),show us.length-1-i=xs.length-1-i by omega,eu]
     rfl
    ·rw [getD_eq_getElem?_getD,List.getElem?_reverse (by rw [length_map]; exact hi),length_map,ek]
     exact kk
   obtain ⟨y1,u1,e1,r1,k1⟩:=at_ i hi
   obtain ⟨y2,u2,e2,r2,k2⟩:=at_ j hj
   rw [e1,e2]
   exact key_lt hu I k1 k2 r1 r2 hC
  ·rintro ⟨⟨⟩,st'⟩ s' ⟨es,hf,har⟩
   dsimp only at es hf har ⊢
   subst es
   refine kH (out:=pick (ev (kAt (xs.map key).reverse) (kas_sort xs.length)) its Value.none) (zs:=(pick (ev (kAt (xs.map key).reverse) (kas_sort xs.length)) xs .non).reverse) (kat_snds (by rw [length_reverse,length_reverse]; exact hl) har) ?_ hf I h0 h1 sm hD hk (pick_vals hp rv).reverse
    λH2 s2 I2 sm2 q=>h H2 s2 _ I2 sm2 q (pick_perm hp) (pick_pair hp hs)
   unfold pick
   rw [length_map,Array.length_toList,hp.sz]
   exact h64
end
section
variable {X:Cx} {pins:List (Addr × Obj)} {σ:St} {H:Hp} {s:Shared}
def KeyF (X:Cx) (pins:List (Addr × Obj)) (σ:St) (A:Around) (f:Value) (H0:Hp) (xs:List V) (key:V->Int × List Int):Prop:=
 ∀ x ∈ xs,∀ u H1 s1,m8 x u->Inv X pins σ H1 s1->mY H0 H1->wpAny (model X.prog X.w) A (call f [u]) (λk s2=>∃ y H2,Inv X pins σ H2 s2/\m8 y k/\mY H1 H2/\KeyR X.K H2 y (key x)) (λ_ _=>False) s1
theorem sort_tree {A:Around} {E:Value->Shared->Prop} {P:PySem.Fin->Shared->Prop} {H0:Hp} {D:Addr} {f:Value} {xs:List V} {key:V->Int × List Int} (hu:A.units+64<cLine)
  (I:Inv X pins σ H s) (h1:H0 D=none) (sm:mY H0 H) (hD:H D=some (.lst xs)) (h64:xs.length<64) (nd:(xs.map key).Nodup) (hf:KeyF X pins σ A f H0 xs key)
  (h:∀ H2 s2 zs,Inv X pins σ H2 s2->mY H0 H2->H2 D=some (.lst zs)->zs.Perm xs->zs.Pairwise (λx y=>klt (key y) (key x)=true)->P (.done (.ret .none)) s2):wpAny (model X.prog X.w) A (ksk_tree D f true) P E s:=by
 obtain ⟨lz,its,n,rv,lk,e⟩:=I.lstM hD
 have q:=get?_update_seq e (λ_=>#[])
 have I1:Inv X pins σ (upd H D (.ext λh=>h.get? D=some (seqObj "list" #[] (if ((#[]:Array Value).size == its.toArray.size)=true then n else n+1)))) { s with heap:=s.heap.update D (Obj.mapSeq λ_=>#[]),toks:=s.toks }:=
  I.write (x:=D) (e:=D) (by rw [hD]; exact trivial) (.inl rfl) (λb' u hb hu=>(get?_update_other _ _ (Ne.symm hb)).trans hu) ⟨_,q⟩ ⟨q,⟨_,q⟩,λ_ _ p k=>k _ p⟩
 have I2:=I1.laid (t':=s.toks) (o:=.tup xs) (λb ob z=>get?_push_of_some { cls:=.type "tuple",data:=.seq its.toArray } z) (Nat.le_refl _) ⟨by rw [sizeLine_eq]; omega,its,rv,IsTup.new _ _⟩
 have I3:=I2.lnew (t':=s.toks) (ys:=[]) (its:=[]) .nil (Nat.zero_le _)
 have nT:=I1.fresh
 have nK:=I2.fresh
 have hD1:upd H D (.ext λh=>h.get? D=some (seqObj "list" #[] (if ((#[]:Array Value).size == its.toArray.size)=true then n else n+1))) D=some (.ext λh=>h.get? D=some (seqObj "list" #[] (if ((#[]:Array Value).size == its.toArray.size)=true then n else n+1))):=ac
 have s1:mY H0 (upd H D (.ext λh=>h.get? D=some (seqObj "list" #[] (if ((#[]:Array Value).size == its.toArray.size)=true then n else n+1)))):=sm.put h1
 have hD2:=mY.new (o:=.tup xs) nT _ _ hD1
 have s2:=s1.trans (mY.new (o:=.tup xs) nT)
 have hD3:=mY.new (o:=.lst []) nK _ _ hD2
 have s3:=s2.trans (mY.new (o:=.lst []) nK)
 have hK0:=s2.free nK
 unfold ksk_tree
 refine wpAny_bind (listItems_at e rfl ?_)
 refine wpAny_bind (listUpdate_at e rfl ?_ (by rw [size_toArray,sizeLine_eq]; omega) (Nat.zero_le _))
 refine wpAny_bind (seqEpoch_at q rfl ?_)
 refine wpAny_bind (wpAny_newTuple ?_ (by show its.length<=_; rw [sizeLine_eq]; omega))
 refine wpAny_bind (wpAny_newList ?_ (Nat.zero_le _))
 refine wpAny_holding ?_
 unfold ksk_rest
 refine wpAny_bind (wpAny_rule ?_)
 first
  | rw [List.forIn_toArray]
  | (rw [<- Array.forIn_toList]; simp only [List.toList_toArray])
  | rw [<- Array.forIn_toList]
 refine wpAny_bind (lb (all:=xs) hK0 h64 hf (λu s1 C hc=>?_) (λH4 s4 ys ks I4 sm4 hD4 hk4 kr ek=>?_) xs [] its [] _ _ rfl rv I3 s3 hD3 ac .nil)
 ·refine wpAny_bind (wpAny_attempt (wpAny_mono hc (λk s5 ⟨ks,m,eo,hz,hC⟩=>?_) λ_ _ z=>z.elim))
  dsimp only
  refine wpAny_bind (listUpdate_at eo rfl ?_ (by rw [size_toArray,sizeLine_eq]; omega) (Nat.le_trans (Nat.le_of_eq (Array.size_push ..)) (by rw [size_toArray,sizeLine_eq]; omega)))
  exact wpAny_pure ⟨rfl,hC⟩
 ·dsimp only
  obtain ⟨_,us,m,ru,_,eo⟩:=I4.lstM hk4
  refine wpAny_bind (listItems_at eo rfl ?_)
  subst ek
  exact sort_end hu I4 hK0 h1 sm4 hD4 hk4 kr ru rv h64 nd h
end
def DRaw (d:Addr) (es:Array DictEntry) (ep:Nat) (h:Heap):Prop:=∃ o,h.get? d=some o/\o.ExactDict/\o.data=.dict es ep
section
variable {prog:Program} {w:World} {A:Around} {E:Value->Shared->Prop} {s:Shared} {d it:Addr} {es:Array DictEntry} {ep i:Nat}
theorem DRaw.typeIs (h:DRaw d es ep s.heap):s.TypeIs (.ref d) "dict":=let ⟨o,ho,hc,_⟩:=h; ⟨o,ho,hc.1⟩
theorem DRaw.at {h h':Heap} (x:DRaw d es ep h) (e:∀ o,h.get? d=some o->h'.get? d=some o):DRaw d es ep h':=let ⟨o,ho,r⟩:=x; ⟨o,e _ ho,r⟩
theorem iter_raw {Q:Value->Shared->Prop} (hd:(d == sysModules)=false) (hm:DRaw d es ep s.heap)
  (hQ:Q (.ref s.heap.objs.size) { s with heap:=s.heap.push { cls:=.type "dict_keyiterator",data:=.fields #[.ref d,.int 0 0,.int es.size 0,.int ep 0] } }):wpAny (model prog w) A (pyIter (.ref d)) Q E s:=by
 have hT:=hm.typeIs
 obtain ⟨o,ho,_,hdat⟩:=id hm
 refine wpAny_pyIter_slot hT F.slot_dict_iter (wpAny_call_entry F.slot_dict_iter hT F.entry_dict_iter ?_ (F.args_dict_iter_1 _))
 unfold Builtin.«dict.__iter__» Builtin.Dict.dictSlotNone
 refine wpAny_bind (wpAny_bind (wpAny_notOrdered_dict hT (wpAny_pure ?_)))
 show wpAny _ _ (Builtin.Dict.showsAll d >>= _) _ _ s
 unfold Builtin.Dict.showsAll
 rw [if_neg (by rw [hd]; exact Bool.false_ne_true)]
 refine wpAny_bind (wpAny_pure (wpAny_bind (wpAny_dictEntries ho hdat (wpAny_bind (wpAny_dictEpoch ho hdat ?_)))))
 refine wpAny_bind (wpAny_newObj_type (wpAny_pure ⟨_,rfl, "dict_keyiterator",_,⟨_,get?_push_size _ rfl,rfl⟩,F.slot_dict_keyiterator_next.lookup,?_⟩))
 simpa [rawInt] using hQ
theorem gN {Q:Option Value->Shared->Prop} (hh:A.handled=none) (hit:s.heap.IsKeyIter it d i es.size ep) (hm:DRaw d es ep s.heap)
  (h1:∀ (hi:i<es.size) h',h'.IsKeyIter it d (i+1) es.size ep->Heap.SameBut it s.heap h'->Q (some es[i].key) { s with heap:=h' })
  (h2:es.size<=i->∀ h',Heap.ExtBut it s.heap h'->Q none { s with heap:=h' }):wpAny (model prog w) A (pyNext (.ref it)) Q E s:=by
 obtain ⟨o,ho,hc,hd⟩:=id hit
 obtain ⟨od,hod,_,hdd⟩:=id hm
 have hT:=hit.typeIs
 unfold pyNext
 refine wpAny_bind (wpAny_attempt (wpAny_callSpecial?_slot (name:=Str.ofString "__next__") hT F.slot_dict_keyiterator_next (wpAny_call_entry F.slot_dict_keyiterator_next hT F.entry_dict_keyiterator_next ?_ (F.args_dict_keyiterator_next_1 _))))
 refine wpAny_bind (wpAny_pure (wpAny_bind (wpAny_bind ?_)))
 first | refine wpAny_bind (wpAny_typeNameOfWhole_keyiter hT (wpAny_pure ?_)) | refine wpAny_bind (wpAny_typeNameOf_keyiter hT (wpAny_pure ?_))
 refine wpAny_bind (wpAny_fieldsOf ho hd ?_)
 simp only [show Builtin.Dict_items.ownsTuple "dict_keyiterator" = false by decide,Bool.false_eq_true,if_false]
 show wpAny _ _ (if (Value.ref d == Value.none)=true then _ else _) _ _ s
 rw [if_neg (show ¬ ((Value.ref d == Value.none)=true) from Bool.false_ne_true)]
 refine wpAny_bind (wpAny_pure (wpAny_bind (wpAny_dictEntries hod hdd ?_)))
 rw [if_neg (by simp)]
 refine wpAny_bind (wpAny_pure (wpAny_bind (wpAny_dictEpoch hod hdd ?_)))
 rw [if_neg (by simp)]
 refine wpAny_pure ?_
 by_cases hlt:i<es.size
 ·simp only [show ¬ ((i:Int)<0) from by omega,if_false,Int.toNat_natCast,Array.getElem?_eq_getElem hlt]
  refine wpAny_bind ?_
  first | refine wpAny_bind (wpAny_typeNameOfWhole_keyiter hT (wpAny_pure ?_)) | refine wpAny_bind (wpAny_typeNameOf_keyiter hT (wpAny_pure ?_))
  refine wpAny_bind (wpAny_isOneOf_keyiter hT ?_)
  show wpAny _ _ (setField (.ref it) 1 (rawInt ((i:Int)+1)) >>= _) _ _ s
  refine wpAny_bind (wpAny_setField ho hd (by simp) ?_)
  have hit':(s.heap.update it (Obj.mapFields (·.setIfInBounds 1 (rawInt ((i:Int)+1))))).IsKeyIter it d (i+1) es.size ep:=
   ⟨_,get?_update_self _ ho (Obj.isFreed_of_fields (Obj.data_mapFields hd _)),(Obj.cls_mapFields ..).trans hc,by rw [Obj.data_mapFields hd]; simp [rawInt]⟩
  refine wpAny_bind (wpAny_holding (wpAny_bind (wpAny_isOneOf_keyiter (s:={ s with heap:=s.heap.update it (Obj.mapFields (·.setIfInBounds 1 (rawInt ((i:Int)+1)))) }) hit'.typeIs ?_)))
  show wpAny _ _ (pure es[i].key) _ _ _
  exact wpAny_pure (wpAny_pure ⟨_,rfl,wpAny_pure (h1 hlt _ hit' (Heap.SameBut.update ..))⟩)
 ·simp only [show ¬ ((i:Int)<0) from by omega,if_false,Int.toNat_natCast,Array.getElem?_eq_none (Nat.le_of_not_lt hlt)]
  refine wpAny_bind ?_
  first | refine wpAny_bind (wpAny_typeNameOfWhole_keyiter hT (wpAny_pure ?_)) | refine wpAny_bind (wpAny_typeNameOf_keyiter hT (wpAny_pure ?_))
  show wpAny _ _ (setField (.ref it) 0 .none >>= _) _ _ s
  refine wpAny_bind (wpAny_setField ho hd (by simp) ?_)
  show wpAny _ _ (newExc (.type "StopIteration") [] >>= _) _ _ _
  refine wpAny_bind ?_
  simp only [newExc,newTuple]
  refine wpAny_bind (wpAny_newObj_type ?_ (by size_fits))
  refine wpAny_bind (m:=firstArgMember _ _) (wpAny_of_eq (a:=Value.none) (by first | rfl | (simp only [firstArgMember]; rfl)) ?_)
  refine wpAny_newObj_type ?_ (by size_fits)
  simp only [raiseNew]
  refine wpAny_bind (wpAny_handled ?_)
  rw [show A.in1.handled=none from hh]
  refine wpAny_bind (wpAny_pure (wpAny_throw ?_))
  refine wpAny_bind (wpAny_isInstance (T := "StopIteration") (b:=true) ⟨_,get?_push_size _ rfl,rfl⟩ isSubtype_stop ?_)
  exact wpAny_pure (h2 (Nat.le_of_not_lt hlt) _ (((Heap.SameBut.update ..).extBut.push _).push _))
theorem walks_raw (hh:A.handled=none) (it d:Addr) (hne:d ≠ it) (es:Array DictEntry) (ep:Nat) :
  Walks prog w A it [it,d] [it] es.size (λi v=>∃ hi:i<es.size,v=es[i].key) (λi h=>h.IsKeyIter it d i es.size ep/\DRaw d es ep h) where
 sub:=λb hb=>by simp at hb; simp [hb]
 frame:=λ_ _ _ st hk=>⟨st.1.at λo e=>hk it (by simp) o e,st.2.at λo e=>hk d (by simp) o e⟩
 item:=λi s Q E hi st hQ=>gN hh st.1 st.2 (λhi h' hit' hs'=>hQ _ h' s.toks ⟨hi,rfl⟩ ⟨hit',st.2.at λo e=>hs'.extBut d o hne e⟩ λb o hb e=>hs'.extBut b o (λh=>hb (by simp [h])) e) λhge=>absurd hi (Nat.not_lt.mpr hge)
 done:=λs Q E st hQ=>gN hh st.1 st.2 (λhi=>absurd hi (Nat.lt_irrefl _)) λ_ h' he'=>hQ h' s.toks λb o hb e=>he' b o (λh=>hb (by simp [h])) e
 self:=λ_ _ _ _ st hQ=>wpAny_pyIter_keyiter st.1 hQ
theorem src_raw (lo:(d == sysModules)=false):KdlSrc prog w "dict" d d es.size (λi v=>∃ hi:i<es.size,v=es[i].key) (DRaw d es ep) where
 type:=λ_ hm=>hm.typeIs
 there:=λ_ ⟨_,ho,_⟩=>⟨lt_size ho,lt_size ho⟩
 keep:=λ_ _ hm hk=>hm.at λo e=>hk d (.inl rfl) o e
 notList:=by decide
 notTuple:=by decide
 hint:=λ_ _ _ _ hm hq=>kdl_hint_dict hm.typeIs hq
 iter:=λ_ s hh hm=>⟨_,_,(λ_ _ hq=>iter_raw lo hm hq),walks_raw hh _ d (Nat.ne_of_lt (let ⟨_,ho,_⟩:=hm; lt_size ho)) es ep,⟨⟨_,get?_push_size _ rfl,rfl,rfl⟩,hm.at λo e=>get?_push_of_some _ e⟩⟩
end
section
variable {X:Cx} {pins:List (Addr × Obj)} {σ:St} {H:Hp} {s:Shared}
def Src (K:Frag) (H:Hp) (x:V) (B:List V->Prop):Prop:=
 (∃ l xs,x=.ref l/\SqL K H l xs/\B xs)\/∃ d kvs,x=.ref d/\H d=some (.dT kvs)/\∀ as,Paired (λ(p:List Key × V) (a:Addr)=>H a=some (.tup (p.1.map kV))) kvs as->B (as.map V.ref)
theorem collect_src {E:Value->Shared->Prop} {A:Around} {x:V} {u:Value} {B:List V->Prop} {R:List Value->Shared->Prop} (hh:A.handled=none) (I:Inv X pins σ H s) (rx:m8 x u) (hs:Src X.K H x B)
  (h:∀ h' tk its xs,B xs->ni xs its->(∀ b o,s.heap.get? b=some o->h'.get? b=some o)->xs.length<=sizeLine->R its { s with heap:=h',toks:=tk }):wpAny (model X.prog X.w) A (collect u) R E s:=by
 rcases hs with ⟨l,xs,rfl,hl,hB⟩ | ⟨d,kvs,rfl,hd,hB⟩
 ·cases rx
  obtain ⟨its,rv,p,hz⟩:=I.list hl
  refine collect_list (vs:=its) p.isList (h _ s.toks its xs hB rv (λb o q=>?_) hz) (by rw [<- rv.length]; exact hz)
  have hlt:b<s.heap.objs.size:=lt_size q
  rw [Heap.get?_update_ne _ _ _ _ (Nat.ne_of_lt hlt),Heap.get?_push_ne _ _ _ (Nat.ne_of_lt hlt)]
  exact q
 ·cases rx
  obtain ⟨hz,hm,es3,kt,o,es,ep,h1,h2,h3,h4,h5⟩:=(show ny X.prog X.w H s.heap d (.dT kvs) from I.hok d _ hd)
  have hsz:es.size=kvs.length:=by rw [<- Array.length_toList,h4,length_map,<- Paired.length kt]
  refine kdu_collect (src_raw (es:=es) (ep:=ep) hm) hh ⟨o,h1,h2,h3⟩ (by rw [hsz]; exact hz) λh' tk acc hk ha=>?_
  have go:∀ {l:List (List Key × V)} {m:List (List Key × Addr × Value)},Paired (λ(p:List Key × V) (q:List Key × Addr × Value)=>p.1=q.1/\H q.2.1=some (.tup (p.1.map kV))/\m8 p.2 q.2.2) l m->
    Paired (λ(p:List Key × V) (a:Addr)=>H a=some (.tup (p.1.map kV))) l (m.map (·.2.1)):=by
   intro l m q
   induction q with
   | nil=>exact .nil
   | cons hq t ih=>exact .cons hq.2.1 ih
  have ke:acc.toList=(es3.map (·.2.1)).map Value.ref:=by
   apply List.ext_getElem?
   intro j
   rw [Array.getElem?_toList]
   by_cases hj:j<es.size
   ·have hj':j<acc.size:=by rw [ha.1]; exact hj
    obtain ⟨_,e⟩:=ha.2 j acc[j] (Array.getElem?_eq_getElem hj')
    rw [Array.getElem?_eq_getElem hj',e]
    have e2:es.toList[j]? = (es3.map (entryOfKey (tupleKind (aW X.prog X.w))))[j]?:=by rw [h4]
    rw [Array.getElem?_toList,Array.getElem?_eq_getElem hj,getElem?_map] at e2
    rw [getElem?_map,getElem?_map]
    cases e3:es3[j]? with
    | none=>rw [e3] at e2; cases e2
    | some q=>
     rw [e3] at e2
     show some es[j].key=some (Value.ref q.2.1)
     have e4:es[j]=entryOfKey (tupleKind (aW X.prog X.w)) q:=Option.some.inj e2
     rw [e4]
     rfl
   ·rw [Array.getElem?_eq_none (by rw [ha.1]; omega)]
    symm
    apply List.getElem?_eq_none
    rw [length_map,length_map,<- Paired.length kt]
    omega
  have vals:∀ l:List Addr,ni (l.map V.ref) (l.map Value.ref):=by
   intro l
   induction l with
   | nil=>exact .nil
   | cons a l ih=>exact .cons rfl ih
  rw [ke]
  exact h h' tk _ _ (hB _ (go kt)) (vals _) hk (by rw [length_map,length_map,<- Paired.length kt]; exact hz)
theorem call_sorted {E:Value->Shared->Prop} {x:V} {u:Value} {f:Addr} {B:List V->Prop} {Q:Value->Shared->Prop} (hh:X.A.handled=none) (hu:X.A.in1.in1.units+64<cLine) (I:Inv X pins σ H s) (rx:m8 x u) (hs:Src X.K H x B)
  (hB:∀ xs,B xs->xs.length<64/\∃ key:V->Int × List Int,(xs.map key).Nodup/\KeyF X pins σ X.A.in1.in1 (.ref f) H xs key/\
   ∀ D H2 s2 zs,H D=none->Inv X pins σ H2 s2->mY H H2->H2 D=some (.lst zs)->zs.Perm xs->zs.Pairwise (λx y=>klt (key y) (key x)=true)->Q (.ref D) s2) :
  wpAny (model X.prog X.w) X.A (call (.builtin "sorted") [u] [(Str.ofString "key",.ref f),(Str.ofString "reverse",.bool true)]) Q E s:=by
 refine call_function_entry_kw kind_sorted plain_sorted entry_sorted (ksk_s2 _ _ _) ?_
 unfold Builtin.«sorted»
 refine wpAny_bind (m:=checkCount "sorted" 1 1 _) (wpAny_pure ?_)
 refine wpAny_bind (collect_src (A:=X.A.in1) hh I rx hs λh' tk its xs src rv hk' hz=>?_)
 obtain ⟨h64,key,nd,kf,h⟩:=hB xs src
 have I1:Inv X pins σ H { s with heap:=h',toks:=tk }:=I.kept hk'
 have I2:=I1.lnew (t':=tk) rv hz
 refine wpAny_bind (wpAny_newList ?_ (by rw [<- rv.length]; exact hz))
 refine wpAny_bind (wpAny_holding (wpAny_call_entry_kw slot_list_sort ⟨_,get?_push_size _ rfl,rfl⟩ entry_list_sort ?_ (ksk_l2 _ _ _)))
 rw [ksk_t2]
 refine sort_tree (key:=key) hu I2 I1.fresh (mY.new I1.fresh) ac h64 nd kf λH2 s2 zs I3 sm q pm pw=>⟨_,rfl,wpAny_pure ⟨_,rfl,h _ H2 s2 zs I1.fresh I3 sm q pm pw⟩⟩
end
def SortB (K:Frag) (sp:Sp) (H1:Hp) (Q:VK) (xs:List V):Prop:=xs.length<64/\∃ key:V->Int × List Int,(xs.map key).Nodup/\(∀ y ∈ xs,∀ H2,mY H1 H2->sp [y] H2 (λz H3=>mY H2 H3/\KeyR K H3 z (key y)) E0)/\
 ∀ D H2 zs,H1 D=none->mY H1 H2->H2 D=some (.lst zs)->zs.Perm xs->zs.Pairwise (λx y=>klt (key y) (key x)=true)->Q (.ref D) H2
def tSort (K:Frag) (sp:Sp) (te:TE):TE:=λσ H Q=>te σ H λx H1=>Src K H1 x (SortB K sp H1 Q)
section
variable {X:Cx} {p pos kp k1 k2 kp2:Pos} {e:Expr} {te:TE}
theorem key_fn {pins:List (Addr × Obj)} {σ:St} {A:Around} {k:Nat} {sp:Sp} {f:Addr} {fd:FuncData} {ps:List Str} {H0:Hp} {xs:List V} {key:V->Int × List Int} (F:nk X.prog X.w X.K X.mg X.base CX0 k f fd ps sp) (hb:nY X.K fd ps []) (hr:nC k X.A.in1.in1)
  (h:∀ y ∈ xs,∀ H2,mY H0 H2->sp [y] H2 (λz H3=>mY H2 H3/\KeyR X.K H3 z (key y)) E0):KeyF X pins σ X.A.in1.in1 (.ref f) H0 xs key:=by
 intro x hx u H1 s1 rx I sm
 have h':=h x hx H1 sm
 have r2:ni [x] [u]:=.cons rx .nil
 have hl:([u]++[]).length=ps.length:=F.len _ _ _ _ h'
 refine wpAny_call (codeAny_mono (F.run X.A.in1.in1 X.stack s1 H1 ⟨[u],[]⟩ [u] [x] _ E0 hr I.env0.in1.in1 (hb s1 [u] I.kIn hl) r2 h') λr s' hq=>?_)
 cases r with
 | error e=>exact hq
 | ok fl=>
  cases fl with
  | ret v=>
   obtain ⟨y,H2,I2,ry,q1,q2⟩:=I.after hq
   exact ⟨y,H2,I2,ry,q1,q2⟩
  | next=>exact False.elim hq
  | brk=>exact False.elim hq
  | cont=>exact False.elim hq
theorem pe_sortK (T:Blt X.mg) {x:Str} {k:Nat} {sp:Sp} {j:Nat} (F:FnB X.prog X.w X.K X.mg X.base k x sp) (hr:nC (k+2) X.A) (he:PE X e te) (hg:Gl X "sorted":=by rfl) (hgx:Gl X x:=by rfl) (hdb:(x == ("__debug__" : Str))=false:=by decide)
  (hs:starEach [e] X.env=[(false,eval e X.env)]:=by rfl) :
  PE X (.Call (.Name "sorted" p) [e] [⟨some "key",.Name x kp,k1⟩,⟨some "reverse",.Constant (.bool true) j kp2,k2⟩] pos) (tSort X.K sp te):=by
 obtain ⟨f,fd,ps,F',hm,hk,hb⟩:=F.ex
 intro pins s σ H Q I h
 refine wpAny_Call_Name_kw (dO I hg T.sorted boot_sorted ?_)
 refine callWith_kw ?_ (by rw [hs]; rfl) (by rw [hs]; rfl)
 refine thn ((aa he af hs) pos pins s σ H (λvs H1=>match vs with | [v]=>Src X.K H1 v (SortB X.K sp H1 Q) | _=>False) I h) λus s1 ⟨vs,H1,I1,r1,q1⟩=>?_
 match vs,r1,q1 with
 | [v],r1,q1=>
  obtain ⟨u,rfl,ru⟩:=r1.one
  refine thn ((lI (cS (v:=.ref f) hgx hm rfl hdb) (lI fH pk_nil)) pos pins s1 σ H1 (λzs H2=>zs=[V.ref f,.bl true]/\H2=H1) I1 ⟨rfl,rfl⟩) λws s2 ⟨zs,H2,I2,r2,e1,e2⟩=>?_
  subst e1 e2
  obtain ⟨w1,w2,rfl,rw1,rw2⟩:=r2.two
  cases rw1
  cases rw2
  refine call_sorted (f:=f) hr.hd hr.in1.in1.units I2 ru q1 λxs ⟨h64,key,nd,hk1,hq⟩=>⟨h64,key,nd,key_fn (A:=X.A) F' hb hr.in1.in1 hk1,λD H3 s3 zs nD I3 sm q pm pw=>⟨.ref D,H3,I3,rfl,hq D H3 zs nD sm q pm pw⟩⟩
end
def Itd (d:Addr) (o:Obj) (u:HO) (vs:List V):It:=⟨λi H=>H d=some (.frz o u)/\i<vs.length,λi H x H'=>H'=H/\vs[i]? = some x,λi H=>H d=some (.frz o u)/\vs.length<=i⟩
theorem turn_dict {P:Program} {w:World} {K:Frag} {tg:Expr} {d it:Addr} {o:Obj} {u:HO} {es:Array DictEntry} {ep:Nat} {vs:List V} (hx:o.ExactDict) (hd:o.data=.dict es ep) (rv:ni vs (es.toList.map (·.key))) :
  jX P w K tg (Itd d o u vs) [it] it (λi h=>h.IsKeyIter it d i es.size ep) where
 mem:=by simp
 obj:=λi h st b hb=>by
  have e:b=it:=by simpa using hb
  subst e
  obtain ⟨o,e,c,d⟩:=st
  exact ⟨o,e,λv z=>by rw [d] at z; cases z⟩
 keep:=λi h h' st k=>st.at λo e=>k it (by simp) o e
 item:=by
  intro X hP hw hK hc i pins s σ H E I hf st hg
  subst hP hw hK
  obtain ⟨hD,hi⟩:=(show H d=some (.frz o u)/\i<vs.length from hg)
  have hl:vs.length=es.size:=by rw [rv.length]; simp
  have ho:s.heap.get? d=some o:=(show ny X.prog X.w H s.heap d (.frz o u) from I.hok d _ hD).1
  obtain ⟨f0,f1,f2,f3,f4,f5⟩:=hf it (by simp)
  refine gN (I.ok.hd hc) st ⟨o,ho,hx,hd⟩ (λhi' h' st' sb=>?_) λhge=>absurd hi (by omega)
  have I1:Inv X pins σ H { s with heap:=h' }:=I.turned (t':=s.toks) (λb o hb e=>(sb.2 b hb).trans e) f0 f1 f3 f4 f5
  obtain ⟨x,hxi⟩:∃ x,vs[i]? = some x:=⟨_,getElem?_eq_getElem hi⟩
  obtain ⟨v,hv,rx⟩:=rv.get hxi
  have hv':es[i].key=v:=by
   rw [getElem?_map,Array.getElem?_toList,Array.getElem?_eq_getElem hi'] at hv
   exact Option.some.inj hv
  obtain ⟨ob,e,c,dd⟩:=id st'
  exact ⟨_,rfl,go_of (s:={ s with heap:=h' }) e c dd (by decide) ⟨x,H,I1,by rw [hv']; exact rx,⟨rfl,hxi⟩,st',λb hb=>(hf b hb).1⟩⟩
 done:=by
  intro X hP hw hK hc i pins s σ H E I hf st hg
  subst hP hw hK
  obtain ⟨hD,hi⟩:=(show H d=some (.frz o u)/\vs.length<=i from hg)
  have hl:vs.length=es.size:=by rw [rv.length]; simp
  have ho:s.heap.get? d=some o:=(show ny X.prog X.w H s.heap d (.frz o u) from I.hok d _ hD).1
  obtain ⟨f0,f1,f2,f3,f4,f5⟩:=hf it (by simp)
  exact gN (I.ok.hd hc) st ⟨o,ho,hx,hd⟩ (λhi'=>absurd hi' (by omega)) λ_ h' eb=>⟨rfl,I.turned (t':=s.toks) (λb o hb e=>eb b o hb e) f0 f1 f3 f4 f5⟩
 self:=λ_ _ _ _ _ st h=>wpAny_pyIter_keyiter st h
def iDict (tl:TE):TI:=λσ H R=>tl σ H λx H1=>∃ d kvs,x=.ref d/\H1 d=some (.dT kvs)/\∀ o as,Paired (λ(p:List Key × V) (a:Addr)=>H1 a=some (.tup (p.1.map kV))) kvs as->R (Itd d o (.dT kvs) (as.map V.ref)) (upd H1 d (.frz o (.dT kvs)))
theorem kB {P:Program} {w:World} {H:Hp} {kvs:List (List Key × V)} {m:List (List Key × Addr × Value)} (q:Paired (λ(p:List Key × V) (q:List Key × Addr × Value)=>p.1=q.1/\H q.2.1=some (.tup (p.1.map kV))/\m8 p.2 q.2.2) kvs m) :
  Paired (λ(p:List Key × V) (a:Addr)=>H a=some (.tup (p.1.map kV))) kvs (m.map (·.2.1))/\ni ((m.map (·.2.1)).map V.ref) ((m.map (entryOfKey (tupleKind (aW P w)))).map (·.key)):=by
 induction q with
 | nil=>exact ⟨.nil,.nil⟩
 | cons hq t ih=>exact ⟨.cons hq.2.1 ih.1,.cons rfl ih.2⟩
theorem pi_dict {X:Cx} {tg l:Expr} {tl:TE} (hl:PE X l tl):PI X tg l (iDict tl):=by
 intro pins s σ H R I h
 refine thn (hl pins s σ H _ I h) λv s1 ⟨x,H1,I1,r1,q1⟩=>?_
 obtain ⟨d,kvs,e,hd,q⟩:=q1
 subst e
 cases r1
 obtain ⟨hz,hm,es3,kt,o,es,ep,h1,h2,h3,h4,h5⟩:=id (show ny X.prog X.w H1 s1.heap d (.dT kvs) from I1.hok d _ hd)
 obtain ⟨k1,k2⟩:=kB (P:=X.prog) (w:=X.w) kt
 have go:∀ {l:List (List Key × V)} {m:List (List Key × Addr × Value)},Paired (λ(p:List Key × V) (q:List Key × Addr × Value)=>p.1=q.1/\H1 q.2.1=some (.tup (p.1.map kV))/\m8 p.2 q.2.2) l m->
   Paired (λ(p:List Key × V) (q:List Key × Addr × Value)=>p.1=q.1/\upd H1 d (.frz o (.dT kvs)) q.2.1=some (.tup (p.1.map kV))/\m8 p.2 q.2.2) l m:=by
  intro l m q
  induction q with
  | nil=>exact .nil
  | cons hq t ih=>exact .cons ⟨hq.1,by rw [am (bq hq.2.1 hd (by intro z; cases z))]; exact hq.2.1,hq.2.2⟩ ih
 have I2:Inv X pins σ (upd H1 d (.frz o (.dT kvs))) { s1 with heap:=s1.heap,toks:=s1.toks }:=I1.write (x:=d) (e:=d) (by rw [hd]; exact trivial) (.inl rfl) (λ_ _ _ z=>z) ⟨_,h1⟩ ⟨h1,hz,hm,es3,go kt,o,es,ep,h1,h2,h3,h4,h5⟩
 rw [<- h4] at k2
 refine iter_raw hm ⟨o,h1,h2,h3⟩ ?_
 refine ⟨s1.heap.objs.size,[s1.heap.objs.size],_,_,_,rfl,I2.kept (t':=s1.toks) λb o e=>get?_push_of_some _ e,turn_dict (u:=.dT kvs) h2 h3 k2,⟨_,get?_push_size _ rfl,rfl,rfl⟩,λb hb=>?_,q o _ k1⟩
 have e:b=s1.heap.objs.size:=by simpa using hb
 subst e
 exact I2.fpOk (Nat.le_refl _) (I2.hok.fresh (Nat.le_refl _))
theorem hu1 {k:Nat} {A:Around} (hr:nC k A):A.units+1<cLine:=by have:=hr.un; omega
theorem kpi_dict {X:Cx} {tg e:Expr} {te:TE} (K:Frag) (hK:X.K=K) (hl:PE X e te):PI X tg e (iDict te):=pi_dict hl
def kI (k:List Int):List Key:=k.map Sum.inl
theorem kI_inj {a b:List Int} (h:kI a=kI b):a=b:=by
 induction a generalizing b with
 | nil=>cases b with
  | nil=>rfl
  | cons y b=>cases h
 | cons x a ih=>cases b with
  | nil=>cases h
  | cons y b=>
   have h':(Sum.inl x:Key)::kI a=Sum.inl y::kI b:=h
   injection h' with h1 h2
   injection h1 with h1
   rw [h1,ih h2]
theorem kl (k:List Int):(kI k).map kV=k.map V.int:=by
 unfold kI
 rw [map_map]
 rfl
section
variable {α:Type}
def bo (m:List (List Int × α)) (k:List Int):Option α:=(m.find? λp=>decide (p.1=k)).map (·.2)
def cW (m:List (List Int × α)) (k:List Int) (x:α):List (List Int × α):=if (bo m k).isSome then m.map (λp=>if p.1=k then (p.1,x) else p) else m++[(k,x)]
theorem aval_nil (k:List Int):bo ([]:List (List Int × α)) k=none:=rfl
theorem de {p:List Int × α} {r:List (List Int × α)} {k:List Int} (e:p.1=k):bo (p::r) k=some p.2:=by simp [bo,find?_cons,e]
theorem dw {p:List Int × α} {r:List (List Int × α)} {k:List Int} (e:¬ p.1=k):bo (p::r) k=bo r k:=by simp [bo,find?_cons,e]
theorem aval_none {k:List Int}:∀ {m:List (List Int × α)},bo m k=none↔¬ k ∈ m.map (·.1)
 | []=>by simp [aval_nil]
 | p::r=>by
  by_cases e:p.1=k
  ·rw [de e]
   simp [e]
  ·rw [dw e,aval_none (m:=r),map_cons,mem_cons]
   exact ⟨λh z=>z.elim (λz=>e z.symm) h,λh z=>h (.inr z)⟩
theorem bh {k:List Int} {x:α}:∀ {m:List (List Int × α)},bo m k=some x->(k,x) ∈ m
 | p::r,h=>by
  by_cases e:p.1=k
  ·rw [de e] at h
   have:p=(k,x):=Prod.ext e (Option.some.inj h)
   rw [this]; simp
  ·rw [dw e] at h
   exact List.mem_cons.mpr (.inr (bh h))
theorem fA {k:List Int} {x:α}:∀ {m:List (List Int × α)},(m.map (·.1)).Nodup->(k,x) ∈ m->bo m k=some x
 | p::r,hn,h=>by
  have hn':(p.1::r.map (·.1)).Nodup:=hn
  obtain ⟨h1,h2⟩:=List.nodup_cons.mp hn'
  rcases List.mem_cons.mp h with z | z
  ·rw [<- z]
   exact de rfl
  ·have:k ∈ r.map (·.1):=List.mem_map.mpr ⟨_,z,rfl⟩
   rw [dw (λe=>h1 (by rw [e]; exact this))]
   exact fA h2 z
theorem aput_keys (m:List (List Int × α)) (k:List Int) (x:α):(cW m k x).map (·.1)=if (bo m k).isSome then m.map (·.1) else m.map (·.1)++[k]:=by
 unfold cW
 split
 ·rw [map_map]
  apply List.map_congr_left
  intro p _
  show (if p.1=k then (p.1,x) else p).1=p.1
  split<;>rfl
 ·rw [map_append]; rfl
theorem aput_nodup {m:List (List Int × α)} {k:List Int} {x:α} (h:(m.map (·.1)).Nodup):((cW m k x).map (·.1)).Nodup:=by
 rw [aput_keys]
 split
 ·exact h
 ·rename_i hs
  have hn:bo m k=none:=by
   cases e:bo m k with
   | none=>rfl
   | some y=>rw [e] at hs; exact absurd rfl hs
  exact List.nodup_append.mpr ⟨h,by simp,λa ha b hb=>by
   rw [List.mem_singleton.mp hb]
   intro z
   exact aval_none.mp hn (by rw [<- z]; exact ha)⟩
theorem dn {m:List (List Int × α)} {k:List Int} {x:α} {p:List Int × α} (h:p ∈ cW m k x):p=(k,x)\/p ∈ m:=by
 unfold cW at h
 split at h
 ·obtain ⟨q,hq,e⟩:=List.mem_map.mp h
  by_cases hk:q.1=k
  ·rw [if_pos hk] at e
   exact .inl (by rw [<- e,hk])
  ·rw [if_neg hk] at e
   exact .inr (by rw [<- e]; exact hq)
 ·rcases List.mem_append.mp h with z | z
  ·exact .inr z
  ·exact .inl (List.mem_singleton.mp z)
theorem aput_len (m:List (List Int × α)) (k:List Int) (x:α):(cW m k x).length<=m.length+1:=by
 unfold cW
 split
 ·rw [length_map]; omega
 ·rw [length_append]; simp
def nG (R:V->α->Prop) (kvs:List (List Key × V)) (m:List (List Int × α)):Prop:=Paired (λ(p:List Key × V) (q:List Int × α)=>p.1=kI q.1/\R p.2 q.2) kvs m
theorem nG.mono {R R':V->α->Prop} (h:∀ v x,R v x->R' v x):∀ {kvs:List (List Key × V)} {m:List (List Int × α)},nG R kvs m->nG R' kvs m
 | _,_,.nil=>.nil
 | _,_,.cons q r=>.cons ⟨q.1,h _ _ q.2⟩ (nG.mono h r)
theorem nG.val {R:V->α->Prop} (k:List Int):∀ {kvs:List (List Key × V)} {m:List (List Int × α)},nG R kvs m->(fD kvs (kI k)=none/\bo m k=none)\/∃ v x,fD kvs (kI k)=some v/\bo m k=some x/\R v x
 | _,_,.nil=>.inl ⟨rfl,rfl⟩
 | p::_,q' :: _,.cons q r=>by
  by_cases e:q'.1=k
  ·exact .inr ⟨p.2,q'.2,gH (by rw [q.1,e]),de e,q.2⟩
  ·rw [gv (λz=>e (kI_inj (q.1.symm.trans z))),dw e]
   exact nG.val k r
theorem nG.put {R:V->α->Prop} {k:List Int} {v:V} {x:α} (hx:R v x) {kvs:List (List Key × V)} {m:List (List Int × α)} (h:nG R kvs m):nG R (bU kvs (kI k) v) (cW m k x):=by
 unfold bU cW
 rw [jh]
 rcases h.val k with ⟨e1,e2⟩ | ⟨v',x',e1,e2,_⟩
 ·rw [e1,e2]
  have go:∀ {kvs:List (List Key × V)} {m:List (List Int × α)},nG R kvs m->nG R (kvs++[(kI k,v)]) (m++[(k,x)]):=by
   intro kvs m h
   induction h with
   | nil=>exact .cons ⟨rfl,hx⟩ .nil
   | cons q r ih=>exact .cons q ih
  exact go h
 ·rw [e1,e2]
  have go:∀ {kvs:List (List Key × V)} {m:List (List Int × α)},nG R kvs m->nG R (kvs.map λkv=>if kv.1=kI k then (kv.1,v) else kv) (m.map λp=>if p.1=k then (p.1,x) else p):=by
   intro kvs m h
   induction h with
   | nil=>exact .nil
   | @cons p q ps qs hq r ih=>
    refine .cons ?_ ih
    dsimp only
    by_cases e:q.1=k
    ·rw [if_pos (by rw [hq.1,e]),if_pos e]
     exact ⟨hq.1,hx⟩
    ·rw [if_neg (λz=>e (kI_inj (hq.1.symm.trans z))),if_neg e]
     exact hq
  exact go h
theorem nG.tups {R:V->α->Prop} {H:Hp}:∀ {kvs:List (List Key × V)} {m:List (List Int × α)} {as:List Addr},nG R kvs m->Paired (λ(p:List Key × V) (a:Addr)=>H a=some (.tup (p.1.map kV))) kvs as->
  Paired (λ(a:Addr) (q:List Int × α)=>H a=some (.tup (q.1.map V.int))) as m
 | _,_,_,.nil,.nil=>.nil
 | _,_,_,.cons q r,.cons t ts=>.cons (by rw [q.1,kl] at t; exact t) (nG.tups r ts)
end
theorem iw {β:Type} {lt:β->β->Bool} (irr:∀ a,lt a a=false) (tr:∀ a b c,lt a b=true->lt b c=true->lt a c=true):∀ {xs ys:List β},xs.Perm ys->xs.Pairwise (λa b=>lt b a=true)->ys.Pairwise (λa b=>lt b a=true)->xs=ys
 | [],ys,p,_,_=>(List.nil_perm.mp p).symm
 | x::xs,[],p,_,_=>by have:=p.length_eq; simp at this
 | x::xs,y::ys,p,h1,h2=>by
  obtain ⟨a1,a2⟩:=List.pairwise_cons.mp h1
  obtain ⟨b1,b2⟩:=List.pairwise_cons.mp h2
  have e:x=y:=by
   have mx:x ∈ y::ys:=p.mem_iff.mp (by simp)
   have my:y ∈ x::xs:=p.mem_iff.mpr (by simp)
   rcases List.mem_cons.mp mx with z | z
   ·exact z
   ·rcases List.mem_cons.mp my with w | w
    ·exact w.symm
    ·have c1:=b1 x z
     have c2:=a1 y w
     have:=tr _ _ _ c1 c2
     rw [irr] at this
     cases this
  subst e
  rw [iw irr tr ((List.perm_cons x).mp p) a2 b2]
variable {X:Cx}
section
variable {K:Frag} {e:Expr} {te:TE} {p pos:Pos}
end
end L2
namespace L2
open PySem PySem.Spec PyProof.Rows PySem.W
section
variable {prog:Program} {w:World} {A:Around} {E:Value->Shared->Prop} {s:Shared} {d it v:Addr} {es:Array DictEntry} {ep i:Nat}
theorem items_raw {Q:Value->Shared->Prop} (hd:(d == sysModules)=false) (hm:DRaw d es ep s.heap)
  (hQ:Q (.ref s.heap.objs.size) { s with heap:=s.heap.push { cls:=.type "dict_items",data:=.fields #[.ref d] } }):wpAny (model prog w) A (call (.builtin "dict.items") [.ref d]) Q E s:=by
 have hT:=hm.typeIs
 refine wpAny_call_entry F.slot_dict_items hT F.entry_dict_items ?_ (F.args_dict_items_1 _)
 unfold Builtin.«dict.items» Builtin.Dict.noArgs
 refine wpAny_bind (wpAny_bind (wpAny_notOrdered_dict hT (wpAny_pure ?_)))
 show wpAny _ _ (Builtin.Dict.showsAll d >>= _) _ _ s
 unfold Builtin.Dict.showsAll
 rw [if_neg (by rw [hd]; exact Bool.false_ne_true)]
 exact wpAny_bind (wpAny_pure (wpAny_bind (wpAny_newObj_type (wpAny_pure ⟨_,rfl,hQ⟩))))
theorem iterI_raw {Q:Value->Shared->Prop} (hv:s.heap.IsItemsView v d) (hm:DRaw d es ep s.heap)
  (hQ:Q (.ref s.heap.objs.size) { s with heap:=s.heap.push { cls:=.type "dict_itemiterator",data:=.fields #[.none,.bool false,.ref d,.int 0 0,.int es.size 0,.int ep 0,.none,.none] } }):wpAny (model prog w) A (pyIter (.ref v)) Q E s:=by
 obtain ⟨ov,hov,hcv,hdv⟩:=id hv
 obtain ⟨o,ho,_,hdat⟩:=id hm
 refine wpAny_pyIter_slot hv.typeIs F.slot_dict_items_iter (wpAny_call_entry F.slot_dict_items_iter hv.typeIs F.entry_dict_items_iter ?_ (F.args_dict_items_iter_1 _))
 unfold Builtin.«dict_items.__iter__» Builtin.Dict_items.dictOf
 refine wpAny_bind (wpAny_pure (wpAny_bind (wpAny_bind (wpAny_field hov hdv (x:=.ref d) rfl (wpAny_pure ?_)))))
 refine wpAny_bind ?_
 unfold Builtin.Dict_items.newIterator
 refine wpAny_bind (wpAny_dictEntries ho hdat (wpAny_bind (wpAny_dictEpoch ho hdat ?_)))
 simp only [show Builtin.Dict_items.ownsTuple "dict_itemiterator"=true by decide,if_true]
 refine wpAny_newObj_type (wpAny_pure ⟨_,rfl, "dict_itemiterator",_,⟨_,get?_push_size _ rfl,rfl⟩,F.slot_dict_itemiterator_next.lookup,?_⟩)
  (by simp only [sizeOk,Builtin.Dict_items.ownedTupleFields,size_toArray,length_append,length_cons,length_nil,sizeLine_eq]; omega)
 simpa [rawInt,Builtin.Dict_items.ownedTupleFields] using hQ
theorem ku {ok ov:Value} {Q:Option Value->Shared->Prop} (hh:A.handled=none) (hit:IsItemIter s.heap it d i es.size ep ok ov) (hm:DRaw d es ep s.heap)
  (h1:∀ (hi:i<es.size) h',IsItemIterOut h' it d (i+1) es.size ep es[i].key es[i].val s.heap.objs.size->h'.get? s.heap.objs.size=some { cls:=.type "tuple",data:=.seq #[es[i].key,es[i].val] }->
   (∀ b o,b ≠ it->s.heap.get? b=some o->h'.get? b=some o)->Q (some (.ref s.heap.objs.size)) { s with heap:=h' })
  (h2:es.size<=i->∀ h',Heap.ExtBut it s.heap h'->Q none { s with heap:=h' }):wpAny (model prog w) A (pyNext (.ref it)) Q E s:=by
 obtain ⟨hp,g,dr,tk,os⟩:=s
 obtain ⟨od,hod,_,hdd⟩:=id hm
 have hT:Shared.TypeIs ⟨hp,g,dr,tk,os⟩ (.ref it) "dict_itemiterator":=⟨_,hit,rfl⟩
 unfold pyNext
 refine wpAny_bind (wpAny_attempt (wpAny_callSpecial?_slot (name:=Str.ofString "__next__") hT F.slot_dict_itemiterator_next (wpAny_call_entry F.slot_dict_itemiterator_next hT F.entry_dict_itemiterator_next ?_ (F.args_dict_itemiterator_next_1 _))))
 refine wpAny_bind (wpAny_pure (wpAny_bind (wpAny_bind ?_)))
 first | refine wpAny_bind (wpAny_typeNameOfWhole_itemiter hT (wpAny_pure ?_)) | refine wpAny_bind (wpAny_typeNameOf_itemiter hT (wpAny_pure ?_))
 refine wpAny_bind (wpAny_fieldsOf hit rfl ?_)
 simp only [show Builtin.Dict_items.ownsTuple "dict_itemiterator"=true by decide,if_true]
 show wpAny _ _ (if (Value.ref d == Value.none)=true then _ else _) _ _ _
 rw [if_neg (show ¬ ((Value.ref d == Value.none)=true) from Bool.false_ne_true)]
 refine wpAny_bind (wpAny_pure (wpAny_bind (wpAny_dictEntries hod hdd ?_)))
 rw [if_neg (by simp)]
 refine wpAny_bind (wpAny_pure (wpAny_bind (wpAny_dictEpoch hod hdd ?_)))
 rw [if_neg (by simp)]
 refine wpAny_pure ?_
 by_cases hlt:i<es.size
 ·simp only [show ¬ ((i:Int)<0) from by omega,if_false,Int.toNat_natCast,Array.getElem?_eq_getElem hlt]
  refine wpAny_bind ?_
  first | refine wpAny_bind (wpAny_typeNameOfWhole_itemiter hT (wpAny_pure ?_)) | refine wpAny_bind (wpAny_typeNameOf_itemiter hT (wpAny_pure ?_))
  refine wpAny_bind (wpAny_isOneOf_itemiter hT ?_)
  show wpAny _ _ (setField (.ref it) 3 (rawInt ((i:Int)+1)) >>= _) _ _ ⟨hp,g,dr,tk,os⟩
  refine wpAny_bind (wpAny_setField_rec hit (by simp) λk1 e1 b1=>?_)
  replace b1:Heap.SameBut it hp k1:=b1
  replace e1:IsItemIter k1 it d (i+1) es.size ep ok ov:=by
   have e:((i+1:Nat):Int)=(i:Int)+1:=by omega
   unfold IsItemIter; rw [e]; simpa [rawInt] using e1
  have hT1:Shared.TypeIs ⟨k1,g,dr,tk,os⟩ (.ref it) "dict_itemiterator":=⟨_,e1,rfl⟩
  refine wpAny_bind (wpAny_holding (wpAny_bind (wpAny_isOneOf_itemiter hT1 (wpAny_bind (wpAny_isOneOf_itemiter hT1 ?_)))))
  show wpAny _ _ (Builtin.Dict_items.pairFromOwner (.ref it) 6 es[i].key es[i].val) _ _ ⟨k1,g,dr,tk,os⟩
  unfold Builtin.Dict_items.pairFromOwner
  refine wpAny_bind (wpAny_newTuple ?_)
  have e2:IsItemIter (k1.push { cls:=.type "tuple",data:=.seq #[es[i].key,es[i].val] }) it d (i+1) es.size ep ok ov:=get?_push_of_some _ e1
  generalize hk2:k1.push { cls:=.type "tuple",data:=.seq #[es[i].key,es[i].val] }=k2 at e2
  have z1:k1.objs.size=hp.objs.size:=b1.1
  have hil:it<hp.objs.size:=lt_size hit
  have t2:k2.get? hp.objs.size=some { cls:=.type "tuple",data:=.seq #[es[i].key,es[i].val] }:=by rw [<- hk2,<- z1]; exact get?_push_size _ rfl
  have c2:∀ b o,b ≠ it->hp.get? b=some o->k2.get? b=some o:=λb o hb e=>by rw [<- hk2]; exact get?_push_of_some _ (b1.extBut b o hb e)
  show wpAny _ _ (Builtin.Dict_items.ownedTupleIsFree (.ref it) >>= _) _ _ ⟨k2,g,dr,tk,os⟩
  rw [z1]
  clear hk2 e1 b1 hT1 z1 k1
  refine wpAny_bind ?_
  unfold Builtin.Dict_items.ownedTupleIsFree
  refine wpAny_bind (wpAny_field e2 rfl (x:=.none) rfl (wpAny_pure ?_))
  simp only [if_true]
  refine wpAny_bind (wpAny_field e2 rfl (x:=ok) rfl (wpAny_bind (wpAny_field e2 rfl (x:=ov) rfl (wpAny_bind (wpAny_setField_rec e2 (by simp) λk3 e3 b3=>?_)))))
  replace b3:Heap.SameBut it k2 k3:=b3
  replace e3:IsItemIter k3 it d (i+1) es.size ep es[i].key ov:=e3
  refine wpAny_bind (wpAny_setField_rec e3 (by simp) λk4 e4 b4=>?_)
  replace b4:Heap.SameBut it k3 k4:=b4
  replace e4:IsItemIter k4 it d (i+1) es.size ep es[i].key es[i].val:=e4
  refine wpAny_bind (wpAny_setField_rec e4 (by simp) λk5 e5 b5=>?_)
  replace b5:Heap.SameBut it k4 k5:=b5
  replace e5:IsItemIterOut k5 it d (i+1) es.size ep es[i].key es[i].val hp.objs.size:=e5
  refine wpAny_bind (wpAny_setField_rec e5 (by simp) λk6 e6 b6=>?_)
  replace b6:Heap.SameBut it k5 k6:=b6
  replace e6:IsItemIterOut k6 it d (i+1) es.size ep es[i].key es[i].val hp.objs.size:=e6
  have ne:=Nat.ne_of_gt hil
  refine wpAny_bind (wpAny_letGo (wpAny_pure (wpAny_pure ⟨_,rfl,wpAny_pure (h1 hlt k6 e6 (b6.extBut _ _ ne (b5.extBut _ _ ne (b4.extBut _ _ ne (b3.extBut _ _ ne t2)))) λb o hb e=>?_)⟩)))
  exact b6.extBut b o hb (b5.extBut b o hb (b4.extBut b o hb (b3.extBut b o hb (c2 b o hb e))))
 ·simp only [show ¬ ((i:Int)<0) from by omega,if_false,Int.toNat_natCast,Array.getElem?_eq_none (Nat.le_of_not_lt hlt)]
  refine wpAny_bind ?_
  first | refine wpAny_bind (wpAny_typeNameOfWhole_itemiter hT (wpAny_pure ?_)) | refine wpAny_bind (wpAny_typeNameOf_itemiter hT (wpAny_pure ?_))
  show wpAny _ _ (setField (.ref it) 2 .none >>= _) _ _ _
  refine wpAny_bind (wpAny_setField hit rfl (by simp) ?_)
  show wpAny _ _ (newExc (.type "StopIteration") [] >>= _) _ _ _
  refine wpAny_bind ?_
  simp only [newExc,newTuple]
  refine wpAny_bind (wpAny_newObj_type ?_ (by size_fits))
  refine wpAny_bind (m:=firstArgMember _ _) (wpAny_of_eq (a:=Value.none) (by first | rfl | (simp only [firstArgMember]; rfl)) ?_)
  refine wpAny_newObj_type ?_ (by size_fits)
  simp only [raiseNew]
  refine wpAny_bind (wpAny_handled ?_)
  rw [show A.in1.handled=none from hh]
  refine wpAny_bind (wpAny_pure (wpAny_throw ?_))
  refine wpAny_bind (wpAny_isInstance (T := "StopIteration") (b:=true) ⟨_,get?_push_size _ rfl,rfl⟩ isSubtype_stop ?_)
  exact wpAny_pure (h2 (Nat.le_of_not_lt hlt) _ (((Heap.SameBut.update ..).extBut.push _).push _))
end
def li (v d:Addr):HO:=.ext λh=>h.IsItemsView v d
def Iti (d:Addr) (o:Obj) (u:HO) (kv:List (V × V)):It:=
 ⟨λi H=>H d=some (.frz o u)/\i<kv.length,λi H x H'=>∃ p k y,x=.ref p/\H p=none/\H'=upd H p (.tup [k,y])/\kv[i]? = some (k,y),λi H=>H d=some (.frz o u)/\kv.length<=i⟩
theorem turn_items {P:Program} {w:World} {K:Frag} {tes:List Expr} {tk:Nat} {tp:Pos} {d it:Addr} {o:Obj} {u:HO} {es:Array DictEntry} {ep:Nat} {kv:List (V × V)} (hx:o.ExactDict) (hd:o.data=.dict es ep)
  (r1:ni (kv.map (·.1)) (es.toList.map (·.key))) (r2:ni (kv.map (·.2)) (es.toList.map (·.val))) :
  jX P w K (.Tuple tes tk tp) (Iti d o u kv) [it] it (λi h=>∃ ok ov,IsItemIter h it d i es.size ep ok ov) where
 mem:=by simp
 obj:=λi h ⟨ok,ov,st⟩ b hb=>by
  have e:b=it:=by simpa using hb
  subst e
  exact ⟨_,st,λv z=>by cases z⟩
 keep:=λi h h' ⟨ok,ov,st⟩ k=>⟨ok,ov,k it (by simp) _ st⟩
 item:=by
  intro X hP hw hK hc i pins s σ H E I hf st hg
  subst hP hw hK
  obtain ⟨hD,hi⟩:=(show H d=some (.frz o u)/\i<kv.length from hg)
  obtain ⟨ok,ov,st⟩:=st
  have ho:s.heap.get? d=some o:=(show ny X.prog X.w H s.heap d (.frz o u) from I.hok d _ hD).1
  refine ku (I.ok.hd hc) st ⟨o,ho,hx,hd⟩ (λhi' h' a1 a5 hk=>?_) λhge=>absurd hi (by have:=r1.length; simp at this; omega)
  refine ⟨_,rfl,wpAny_letOwnedTupleGo_items a1 λh'' hz'' sb=>?_⟩
  obtain ⟨⟨x,y⟩,hxy⟩:∃ q,kv[i]? = some q:=⟨_,getElem?_eq_getElem hi⟩
  obtain ⟨v1,hv1,rx⟩:=r1.get (i:=i) (x:=x) (by rw [getElem?_map,hxy]; rfl)
  obtain ⟨v2,hv2,ry⟩:=r2.get (i:=i) (x:=y) (by rw [getElem?_map,hxy]; rfl)
  have e1:es[i].key=v1:=by
   rw [getElem?_map,Array.getElem?_toList,Array.getElem?_eq_getElem hi'] at hv1
   exact Option.some.inj hv1
  have e2:es[i].val=v2:=by
   rw [getElem?_map,Array.getElem?_toList,Array.getElem?_eq_getElem hi'] at hv2
   exact Option.some.inj hv2
  rw [e1,e2] at a5
  have lit:it<s.heap.objs.size:=lt_size st
  have nit:s.heap.objs.size ≠ it:=Nat.ne_of_gt lit
  have hT:h''.get? s.heap.objs.size=some { cls:=.type "tuple",data:=.seq #[v1,v2] }:=(sb.2 _ nit).trans a5
  have fresh:H s.heap.objs.size=none:=I.hok.fresh (Nat.le_refl _)
  have gT:(s.heap.push { cls:=.type "tuple",data:=.seq #[v1,v2] }).get? s.heap.objs.size=some { cls:=.type "tuple",data:=.seq #[v1,v2] }:=get?_push_size _ rfl
  have I1:Inv X pins σ (upd H s.heap.objs.size (.tup [x,y])) { s with heap:=s.heap.push { cls:=.type "tuple",data:=.seq #[v1,v2] },toks:=s.toks }:=
   I.laid (λb o e=>get?_push_of_some _ e) (Nat.le_refl _) ⟨by show 2<=sizeLine; decide,[v1,v2],.cons rx (.cons ry .nil),_,gT,rfl,_,rfl⟩
  have fp1:∀ c ∈ [it],nI X pins (upd H s.heap.objs.size (.tup [x,y])) c:=λc hc=>by
   have e:c=it:=by simpa using hc
   subst e
   exact ⟨by rw [am nit.symm]; exact (hf c hc).1,(hf c hc).2⟩
  have I2:=I1.turnedN (h':=h'') (t':=s.toks) (fp:=[it]) (λc o hc e=>by
   have hc':c ≠ it:=by simpa using hc
   rcases get?_push_cases e with ⟨e1,e2⟩ | e1
   ·rw [e1,e2]
    exact hT
   ·exact (sb.2 c hc').trans (hk c o hc' e1)) fp1
  exact ⟨.ref s.heap.objs.size,_,I2,rfl,⟨_,x,y,rfl,fresh,rfl,hxy⟩,⟨_,_,hz''⟩,λc hc=>(fp1 c hc).1⟩
 done:=by
  intro X hP hw hK hc i pins s σ H E I hf st hg
  subst hP hw hK
  obtain ⟨hD,hi⟩:=(show H d=some (.frz o u)/\kv.length<=i from hg)
  obtain ⟨ok,ov,st⟩:=st
  have ho:s.heap.get? d=some o:=(show ny X.prog X.w H s.heap d (.frz o u) from I.hok d _ hD).1
  refine ku (I.ok.hd hc) st ⟨o,ho,hx,hd⟩ (λhi'=>absurd hi' (by have:=r1.length; simp at this; omega)) λ_ h' eb=>⟨rfl,I.turnedN (t':=s.toks) (λc o hc e=>eb c o (by simpa using hc) e) hf⟩
 self:=λ_ _ _ _ _ ⟨_,_,st⟩ h=>kcp_self st h
def rItems:V->List V->Hp->VK->Prop:=λx vs H Q=>∃ d kvs,x=.ref d/\vs=[]/\H d=some (.dT kvs)/\∀ v,H v=none->Q (.ref v) (upd H v (li v d))
theorem mt_items {X:Cx}:MtR X "dict.items" rItems:=by
 intro pins s σ H x xs v us Q I rx rv h
 obtain ⟨d,kvs,rfl,rfl,hd,q⟩:=h
 cases rx
 cases rv
 obtain ⟨hz,hm,es3,kt,o,es,ep,h1,h2,h3,h4,h5⟩:=id (show ny X.prog X.w H s.heap d (.dT kvs) from I.hok d _ hd)
 refine items_raw hm ⟨o,h1,h2,h3⟩ ?_
 have gV:(s.heap.push { cls:=.type "dict_items",data:=.fields #[.ref d] }).get? s.heap.objs.size=some { cls:=.type "dict_items",data:=.fields #[.ref d] }:=get?_push_size _ rfl
 refine ⟨.ref s.heap.objs.size,_,I.laid (t':=s.toks) (λb o e=>get?_push_of_some _ e) (Nat.le_refl _) ?_,rfl,q _ (I.hok.fresh (Nat.le_refl _))⟩
 exact ⟨⟨_,gV,rfl,rfl⟩,⟨_,gV⟩,λk1 k2 ⟨o,e,c⟩ k=>⟨o,k o e,c⟩⟩
def iItems (tl:TE):TI:=λσ H R=>tl σ H λx H1=>∃ v d kvs,x=.ref v/\H1 v=some (li v d)/\H1 d=some (.dT kvs)/\∀ o as,Paired (λ(p:List Key × V) (a:Addr)=>H1 a=some (.tup (p.1.map kV))) kvs as->R (Iti d o (.dT kvs) ((as.map V.ref).zip (kvs.map (·.2)))) (upd H1 d (.frz o (.dT kvs)))
theorem dict_vals {P:Program} {w:World} {H:Hp} {kvs:List (List Key × V)} {m:List (List Key × Addr × Value)} (q:Paired (λ(p:List Key × V) (q:List Key × Addr × Value)=>p.1=q.1/\H q.2.1=some (.tup (p.1.map kV))/\m8 p.2 q.2.2) kvs m) :
  ni (kvs.map (·.2)) ((m.map (entryOfKey (tupleKind (aW P w)))).map (·.val)):=by
 induction q with
 | nil=>exact .nil
 | cons hq t ih=>exact .cons hq.2.2 ih
theorem pi_items {X:Cx} {tes:List Expr} {tk:Nat} {tp:Pos} {l:Expr} {tl:TE} (hl:PE X l tl):PI X (.Tuple tes tk tp) l (iItems tl):=by
 intro pins s σ H R I h
 refine thn (hl pins s σ H _ I h) λv s1 ⟨x,H1,I1,r1,q1⟩=>?_
 obtain ⟨vw,d,kvs,e,hv,hd,q⟩:=q1
 subst e
 cases r1
 obtain ⟨hz,hm,es3,kt,o,es,ep,h1,h2,h3,h4,h5⟩:=id (show ny X.prog X.w H1 s1.heap d (.dT kvs) from I1.hok d _ hd)
 obtain ⟨k1,k2⟩:=kB (P:=X.prog) (w:=X.w) kt
 have k3:=dict_vals (P:=X.prog) (w:=X.w) kt
 have hview:s1.heap.IsItemsView vw d:=(show ny X.prog X.w H1 s1.heap vw (li vw d) from I1.hok vw _ hv).1
 have go:∀ {l:List (List Key × V)} {m:List (List Key × Addr × Value)},Paired (λ(p:List Key × V) (q:List Key × Addr × Value)=>p.1=q.1/\H1 q.2.1=some (.tup (p.1.map kV))/\m8 p.2 q.2.2) l m->
   Paired (λ(p:List Key × V) (q:List Key × Addr × Value)=>p.1=q.1/\upd H1 d (.frz o (.dT kvs)) q.2.1=some (.tup (p.1.map kV))/\m8 p.2 q.2.2) l m:=by
  intro l m q
  induction q with
  | nil=>exact .nil
  | cons hq t ih=>exact .cons ⟨hq.1,by rw [am (bq hq.2.1 hd (by intro z; cases z))]; exact hq.2.1,hq.2.2⟩ ih
 have I2:Inv X pins σ (upd H1 d (.frz o (.dT kvs))) { s1 with heap:=s1.heap,toks:=s1.toks }:=I1.write (x:=d) (e:=d) (by rw [hd]; exact trivial) (.inl rfl) (λ_ _ _ z=>z) ⟨_,h1⟩ ⟨h1,hz,hm,es3,go kt,o,es,ep,h1,h2,h3,h4,h5⟩
 rw [<- h4] at k2 k3
 have len:((es3.map (·.2.1)).map V.ref).length=(kvs.map (·.2)).length:=by
  have:=Paired.length kt
  simp only [length_map]
  omega
 refine iterI_raw hview ⟨o,h1,h2,h3⟩ ?_
 refine ⟨s1.heap.objs.size,[s1.heap.objs.size],_,_,_,rfl,I2.kept (t':=s1.toks) λb o e=>get?_push_of_some _ e,turn_items (u:=.dT kvs) h2 h3 (kv:=((es3.map (·.2.1)).map V.ref).zip (kvs.map (·.2))) (by rw [List.map_fst_zip (Nat.le_of_eq len)]; exact k2) (by rw [List.map_snd_zip (Nat.le_of_eq len.symm)]; exact k3),⟨_,_,get?_push_size _ rfl⟩,λb hb=>?_,q o _ k1⟩
 have e:b=s1.heap.objs.size:=by simpa using hb
 subst e
 exact I2.fpOk (Nat.le_refl _) (I2.hok.fresh (Nat.le_refl _))
theorem kpi_items {X:Cx} {tes:List Expr} {tk:Nat} {tp apos cpos:Pos} {o:Expr} {to:TE} (K:Frag) (hK:X.K=K) (ho:PE X o to)
  (hbase:attributeBase o "items" X.env (eval o X.env)=eval o X.env:=by rfl) (hline:(apos.endLine == cpos.line)=true:=by rfl) :
  PI X (.Tuple tes tk tp) (.Call (.Attribute o "items" apos) [] [] cpos) (iItems (tBM0 K "dict" rItems to)):=by
 subst hK
 exact pi_items (pe_bm0 PySem.F.plainAttrs_dict PySem.F.slot_dict_items PySem.F.type_dict_items mt_items ho hbase hline)
section
variable {X:Cx} {K:Frag} {e st:Expr} {te:TE} {ts:TO} {pos p2:Pos}
end
section
variable {X:Cx} {p pos:Pos} {e:Expr} {te:TE} {K:Frag}
def rMax1 (t:Bool) (K:Frag):List V->Hp->VK->Prop:=λxs H Q=>∃ (p:Addr) (ns:List Int),xs=[.ref p]/\SqV t K H p (ns.map V.int)/\ns ≠ []/\∀ m,m ∈ ns->(∀ x ∈ ns,x<=m)->Q (.int m) H
def rMin1 (t:Bool) (K:Frag):List V->Hp->VK->Prop:=λxs H Q=>∃ (p:Addr) (ns:List Int),xs=[.ref p]/\SqV t K H p (ns.map V.int)/\ns ≠ []/\∀ m,m ∈ ns->(∀ x ∈ ns,m<=x)->Q (.int m) H
theorem call_max1 (hc:X.calm=true) (t:Bool):cA X (.builtin "max") (rMax1 t X.K):=by
 intro pins s σ H xs us Q I rv h
 obtain ⟨p,ns,rfl,q,hne,hq⟩:=h
 obtain ⟨u,rfl,ru⟩:=fG rv
 cases ru
 obtain ⟨its,rb,po,z⟩:=I.seqV q
 have hh:X.A.in1.handled=none:=I.ok.hd hc
 have hlen:=rb.length
 rw [length_map] at hlen
 have hpos:0<ns.length:=List.length_pos_iff.mpr hne
 have hval:∀ (i:Nat) (v:Value),its.toArray[i]? = some v->∃ t,v=Value.int (ns.getD i 0) t:=by
  intro i v hv
  have hv':its[i]? = some v:=by simpa using hv
  have hil:i<its.length:=(List.getElem?_eq_some_iff.mp hv').1
  have hb:(ns.map V.int)[i]? = some (.int (ns.getD i 0)):=by
   rw [getElem?_map,getD_eq_getElem?_getD,getElem?_eq_getElem (by omega)]
   rfl
  obtain ⟨u,hu,ru⟩:=rb.get hb
  rw [hv'] at hu
  cases hu
  exact ru
 refine call_max_walk (fi po λo hi=>?_)
 have hlt:p<s.heap.objs.size:=by obtain ⟨ob,e⟩:=po.obj; exact lt_size e
 refine ⟨s.heap.objs.size,_,_,_,_,_,_,rfl,Walks.sq t hh s.heap.objs.size p (Nat.ne_of_lt hlt) its.toArray,⟨hi,po.at λo' e=>get?_push_of_some _ e⟩,λb hb=>?_,?_,CmpOf.ints_gt (λi=>ns.getD i 0) hval,λv h' tk hP hk=>?_⟩
 ·show b<(s.heap.push o).objs.size
  rw [size_push]
  rcases List.mem_cons.mp hb with rfl | hb
  ·exact Nat.lt_succ_self _
  ·rcases List.mem_cons.mp hb with rfl | hb
   ·exact Nat.lt_succ_of_lt hlt
   ·cases hb
 ·rw [size_toArray]
  omega
 ·have I1:Inv X pins σ H { s with heap:=s.heap.push o,toks:=s.toks }:=I.kept λb u e=>get?_push_of_some _ e
  have fp:nI X pins H s.heap.objs.size:=I.fpOk (Nat.le_refl _) (I.hok.fresh (Nat.le_refl _))
  have I2:Inv X pins σ H { s with heap:=h',toks:=tk }:=by
   have:=I1.turnedN (fp:=[s.heap.objs.size]) (h':=h') (t':=tk) (λb ob hb e=>hk b ob hb e) (λb hb=>by have e:b=s.heap.objs.size:=by simpa using hb
                                                                                                     subst e; exact fp)
   exact this
  obtain ⟨g1,g2⟩:=argBest_gt (λi=>ns.getD i 0) (its.toArray.size-1)
  rw [size_toArray] at g1 g2 hP
  obtain ⟨tv,rfl⟩:=hval _ _ hP
  have hi2:argBest (λi j=>decide (ns.getD i 0 > ns.getD j 0)) (its.length-1)<ns.length:=by omega
  refine ⟨.int (ns.getD (argBest (λi j=>decide (ns.getD i 0 > ns.getD j 0)) (its.length-1)) 0),H,I2,⟨tv,rfl⟩,hq _ ?_ λx hx=>?_⟩
  ·rw [getD_eq_getElem?_getD,getElem?_eq_getElem hi2]
   exact getElem_mem hi2
  ·obtain ⟨j,hj,rfl⟩:=getElem_of_mem hx
   have:=g2 j (by omega)
   rw [getD_eq_getElem?_getD (i:=j),getElem?_eq_getElem hj] at this
   exact this
theorem call_min1 (hc:X.calm=true) (t:Bool):cA X (.builtin "min") (rMin1 t X.K):=by
 intro pins s σ H xs us Q I rv h
 obtain ⟨p,ns,rfl,q,hne,hq⟩:=h
 obtain ⟨u,rfl,ru⟩:=fG rv
 cases ru
 obtain ⟨its,rb,po,z⟩:=I.seqV q
 have hh:X.A.in1.handled=none:=I.ok.hd hc
 have hlen:=rb.length
 rw [length_map] at hlen
 have hpos:0<ns.length:=List.length_pos_iff.mpr hne
 have hval:∀ (i:Nat) (v:Value),its.toArray[i]? = some v->∃ t,v=Value.int (ns.getD i 0) t:=by
  intro i v hv
  have hv':its[i]? = some v:=by simpa using hv
  have hil:i<its.length:=(List.getElem?_eq_some_iff.mp hv').1
  have hb:(ns.map V.int)[i]? = some (.int (ns.getD i 0)):=by
   rw [getElem?_map,getD_eq_getElem?_getD,getElem?_eq_getElem (by omega)]
   rfl
  obtain ⟨u,hu,ru⟩:=rb.get hb
  rw [hv'] at hu
  cases hu
  exact ru
 refine call_min_walk (fi po λo hi=>?_)
 have hlt:p<s.heap.objs.size:=by obtain ⟨ob,e⟩:=po.obj; exact lt_size e
 refine ⟨s.heap.objs.size,_,_,_,_,_,_,rfl,Walks.sq t hh s.heap.objs.size p (Nat.ne_of_lt hlt) its.toArray,⟨hi,po.at λo' e=>get?_push_of_some _ e⟩,λb hb=>?_,?_,CmpOf.ints_lt (λi=>ns.getD i 0) hval,λv h' tk hP hk=>?_⟩
 ·show b<(s.heap.push o).objs.size
  rw [size_push]
  rcases List.mem_cons.mp hb with rfl | hb
  ·exact Nat.lt_succ_self _
  ·rcases List.mem_cons.mp hb with rfl | hb
   ·exact Nat.lt_succ_of_lt hlt
   ·cases hb
 ·rw [size_toArray]
  omega
 ·have I1:Inv X pins σ H { s with heap:=s.heap.push o,toks:=s.toks }:=I.kept λb u e=>get?_push_of_some _ e
  have fp:nI X pins H s.heap.objs.size:=I.fpOk (Nat.le_refl _) (I.hok.fresh (Nat.le_refl _))
  have I2:Inv X pins σ H { s with heap:=h',toks:=tk }:=by
   have:=I1.turnedN (fp:=[s.heap.objs.size]) (h':=h') (t':=tk) (λb ob hb e=>hk b ob hb e) (λb hb=>by have e:b=s.heap.objs.size:=by simpa using hb
                                                                                                     subst e; exact fp)
   exact this
  obtain ⟨g1,g2⟩:=argBest_lt (λi=>ns.getD i 0) (its.toArray.size-1)
  rw [size_toArray] at g1 g2 hP
  obtain ⟨tv,rfl⟩:=hval _ _ hP
  have hi2:argBest (λi j=>decide (ns.getD i 0<ns.getD j 0)) (its.length-1)<ns.length:=by omega
  refine ⟨.int (ns.getD (argBest (λi j=>decide (ns.getD i 0<ns.getD j 0)) (its.length-1)) 0),H,I2,⟨tv,rfl⟩,hq _ ?_ λx hx=>?_⟩
  ·rw [getD_eq_getElem?_getD,getElem?_eq_getElem hi2]
   exact getElem_mem hi2
  ·obtain ⟨j,hj,rfl⟩:=getElem_of_mem hx
   have:=g2 j (by omega)
   rw [getD_eq_getElem?_getD (i:=j),getElem?_eq_getElem hj] at this
   exact this
theorem kpl_max1 (T:Blt X.mg) (ha:PE X e te) (b:Bool) (hK:X.K=K:=by rfl) (hc:X.calm=true:=by rfl) (hg:Gl X "max":=by rfl) (hs:starEach [e] X.env=[(false,eval e X.env)]:=by rfl):PE X (.Call (.Name "max" p) [e] [] pos) (tCB (rMax1 b K) (bv te di)):=by
 subst hK
 exact bI (call_max1 hc b) hg T.max io (aa ha af hs) (by decide) (by decide) hs
theorem kpl_min1 (T:Blt X.mg) (ha:PE X e te) (b:Bool) (hK:X.K=K:=by rfl) (hc:X.calm=true:=by rfl) (hg:Gl X "min":=by rfl) (hs:starEach [e] X.env=[(false,eval e X.env)]:=by rfl):PE X (.Call (.Name "min" p) [e] [] pos) (tCB (rMin1 b K) (bv te di)):=by
 subst hK
 exact bI (call_min1 hc b) hg T.min lj (aa ha af hs) (by decide) (by decide) hs
end
theorem for_zip {t1 t2:Bool} {K:Frag} {a b:Addr} {xs ys:List V} {g:TG} {tb:TS} {D:eG} {σ:St} {H:Hp} (Pv:Nat->St->Hp->Prop) (h0:Pv 0 σ H) (hl:∀ i σ H,i<=min xs.length ys.length->Pv i σ H->SqV t1 K H a xs/\SqV t2 K H b ys)
  (hs:∀ (i:Nat) x y σ H p,xs[i]? = some x->ys[i]? = some y->Pv i σ H->H p=none->g (.ref p) σ (upd H p (.tup [x,y])) λσ2 H2=>tb { D with nx:=Pv (i+1),ct:=Pv (i+1),bk:=D.nx } σ2 H2) (hd:∀ σ H,Pv (min xs.length ys.length) σ H->D.nx σ H) :
  ∃ W:Nat->Nat->St->Hp->Prop,(∃ m,W 0 m σ H)/\∀ i m σ H,W i m σ H->
   ((Itz t1 t2 K a b).stop i H/\D.nx σ H)\/((Itz t1 t2 K a b).go i H/\∃ N:St->Hp->Prop,(∀ σ' H',N σ' H'->∃ m',m' < m/\W (i+1) m' σ' H')/\∀ x H',(Itz t1 t2 K a b).yld i H x H'->g x σ H' λσ2 H2=>tb { D with nx:=N,ct:=N,bk:=D.nx } σ2 H2):=by
 refine ⟨λi m σ H=>m=min xs.length ys.length-i/\i<=min xs.length ys.length/\Pv i σ H,⟨min xs.length ys.length,by simp,Nat.zero_le _,h0⟩,?_⟩
 rintro i m σ H ⟨rfl,hi,p⟩
 obtain ⟨q1,q2⟩:=hl i σ H hi p
 by_cases hlt:i<min xs.length ys.length
 ·have hx:i<xs.length:=by omega
  have hy:i<ys.length:=by omega
  refine .inr ⟨⟨xs,ys,xs[i],ys[i],q1,q2,by simp [hx],by simp [hy]⟩,Pv (i+1),λσ' H' p'=>⟨min xs.length ys.length-(i+1),by omega,rfl,hlt,p'⟩,λx H' y=>?_⟩
  obtain ⟨l,x1,y1,rfl,hl1,rfl,g1,g2⟩:=y
  exact hs i x1 y1 σ _ l (g1 xs q1) (g2 ys q2) p hl1
 ·have e:i=min xs.length ys.length:=by omega
  subst e
  refine .inl ⟨⟨xs,ys,q1,q2,?_⟩,hd σ H p⟩
  omega
theorem gK:∀ (names:List (Str × NameKind)) (n:Nat) (acc:List (Str × Addr)) (x:Str) (c:Nat),(cellsFrom n names acc).lookup x=some c->(n<=c/\(x,NameKind.cell) ∈ names)\/acc.lookup x=some c
 | [],n,acc,x,c,h=>.inr h
 | (m,k)::r,n,acc,x,c,h=>by
  unfold cellsFrom at h
  split at h
  ·rename_i hk
   rcases gK r (n+1) _ x c h with ⟨a,b⟩ | z
   ·exact .inl ⟨by omega,mem_cons_of_mem _ b⟩
   ·cases hx:x == m with
    | true=>
     simp only [lookup_cons,hx] at z
     cases z
     have e:x=m:=by simpa using hx
     have e2:k=NameKind.cell:=by simpa using hk
     subst e e2
     exact .inl ⟨Nat.le_refl _,mem_cons_self⟩
    | false=>
     simp only [lookup_cons,hx] at z
     exact .inr z
  ·rcases gK r n acc x c h with ⟨a,b⟩ | z
   ·exact .inl ⟨a,mem_cons_of_mem _ b⟩
   ·exact .inr z
theorem i6:∀ (names:List (Str × NameKind)) (n:Nat) (acc:List (Str × Addr)) (x:Str),(∃ c,acc.lookup x=some c)->∃ c,(cellsFrom n names acc).lookup x=some c
 | [],n,acc,x,h=>h
 | (m,k)::r,n,acc,x,h=>by
  unfold cellsFrom
  split
  ·refine i6 r (n+1) _ x ?_
   cases hx:x == m with
   | true=>exact ⟨n,by simp only [lookup_cons,hx]⟩
   | false=>
    obtain ⟨c,h⟩:=h
    exact ⟨c,by simp only [lookup_cons,hx]; exact h⟩
  ·exact i6 r n acc x h
theorem cf_has:∀ (names:List (Str × NameKind)) (n:Nat) (acc:List (Str × Addr)) (x:Str),(x,NameKind.cell) ∈ names->∃ c,(cellsFrom n names acc).lookup x=some c
 | [],n,acc,x,h=>absurd h (by simp)
 | (m,k)::r,n,acc,x,h=>by
  unfold cellsFrom
  rcases List.mem_cons.mp h with e | e
  ·cases e
   rw [if_pos (by decide)]
   exact i6 r (n+1) _ m ⟨n,by simp [lookup_cons]⟩
  ·split
   ·exact cf_has r (n+1) _ x e
   ·exact cf_has r n acc x e
theorem i7:∀ (names:List (Str × NameKind)) (n:Nat) (acc:List (Str × Addr)) (x:Str),(x,NameKind.cell) ∉ names->(cellsFrom n names acc).lookup x=acc.lookup x
 | [],n,acc,x,h=>rfl
 | (m,k)::r,n,acc,x,h=>by
  have h':(x,NameKind.cell) ∉ r:=λz=>h (mem_cons_of_mem _ z)
  unfold cellsFrom
  split
  ·rename_i hk
   rw [i7 r (n+1) _ x h']
   cases hx:x == m with
   | true=>
    have e:x=m:=by simpa using hx
    have e2:k=NameKind.cell:=by simpa using hk
    subst e e2
    exact absurd mem_cons_self h
   | false=>simp only [lookup_cons,hx]
  ·exact i7 r n acc x h'
theorem cf_own:∀ (names:List (Str × NameKind)) (n:Nat) (acc:List (Str × Addr)) (x:Str) (c:Nat),((x,NameKind.cell) ∈ names\/∀ c:Nat,acc.lookup x=some c->n<=c)->(∀ c,acc.lookup x=some c->True)->(cellsFrom n names acc).lookup x=some c->(x,NameKind.cell) ∈ names->n<=c
 | [],n,acc,x,c,_,_,_,h=>absurd h (by simp)
 | (m,k)::r,n,acc,x,c,h0,h1,h,hm=>by
  by_cases hr:(x,NameKind.cell) ∈ r
  ·unfold cellsFrom at h
   split at h
   ·have:=cf_own r (n+1) _ x c (.inl hr) (λ_ _=>trivial) h hr
    omega
   ·exact cf_own r n acc x c (.inl hr) (λ_ _=>trivial) h hr
  ·have e:(x,NameKind.cell)=(m,k):=by
    rcases List.mem_cons.mp hm with z | z
    ·exact z
    ·exact absurd z hr
   cases e
   unfold cellsFrom at h
   rw [if_pos (by decide),i7 r (n+1) _ m hr] at h
   simp [lookup_cons] at h
   exact Nat.le_of_eq h
theorem cf_inj:∀ (names:List (Str × NameKind)) (n:Nat) (acc:List (Str × Addr)) (x y:Str) (c:Nat),(∀ (z:Str) (a:Nat),acc.lookup z=some a->a<n)->(cellsFrom n names acc).lookup x=some c->(cellsFrom n names acc).lookup y=some c->n<=c->x=y
 | [],n,acc,x,y,c,h,h1,h2,hc=>absurd (h x c h1) (by omega)
 | (m,k)::r,n,acc,x,y,c,h,h1,h2,hc=>by
  unfold cellsFrom at h1 h2
  split at h1
  ·rename_i hk
   rw [if_pos hk] at h2
   by_cases hn:n+1<=c
   ·refine cf_inj r (n+1) _ x y c (λz a e=>?_) h1 h2 hn
    cases hz:z == m with
    | true=>
     simp only [lookup_cons,hz] at e
     cases e
     omega
    | false=>
     simp only [lookup_cons,hz] at e
     have:=h z a e
     omega
   ·have go:∀ z,(cellsFrom (n+1) r ((m,n)::acc)).lookup z=some c->z=m:=λz e=>by
     rcases gK r (n+1) _ z c e with ⟨a,_⟩ | a
     ·omega
     ·cases hz:z == m with
      | true=>simpa using hz
      | false=>
       simp only [lookup_cons,hz] at a
       have:=h z c a
       omega
    rw [go x h1,go y h2]
  ·rename_i hk
   rw [if_neg hk] at h2
   exact cf_inj r n acc x y c h h1 h2 hc
theorem lV:∀ (names:List (Str × NameKind)) (h:Heap) (acc:List (Str × Addr)) (x:Str) (c:Nat),(cellsFrom h.objs.size names acc).lookup x=some c->acc.lookup x=some c\/((pushCells h names).IsCell c none/\h.objs.size<=c)
 | [],h,acc,x,c,e=>.inl e
 | (m,k)::r,h,acc,x,c,e=>by
  unfold cellsFrom at e
  unfold pushCells
  split at e
  ·rename_i hk
   rw [if_pos hk]
   have e':(cellsFrom (h.push { cls:=.type "cell",data:=.cell none }).objs.size r ((m,h.objs.size)::acc)).lookup x=some c:=by rw [size_push]; exact e
   rcases lV r (h.push { cls:=.type "cell",data:=.cell none }) _ x c e' with z | ⟨z,z2⟩
   ·cases hx:x == m with
    | true=>
     simp only [lookup_cons,hx] at z
     cases z
     exact .inr ⟨⟨_,pushCells_keeps r _ _ _ (get?_push_size _ rfl),rfl⟩,Nat.le_refl _⟩
    | false=>
     simp only [lookup_cons,hx] at z
     exact .inl z
   ·rw [size_push] at z2
    exact .inr ⟨z,by omega⟩
  ·rename_i hk
   rw [if_neg hk]
   exact lV r h acc x c e
theorem newEnvC {M:Model} {A:Around} {E:Value->Shared->Prop} {s:Shared} {scope:Scope} {globals:Addr} {cl:List (Str × Addr)} {qual:Str} {env:Env} {Q:Env->Shared->Prop}
  (hQ:Q (newEnv scope s.heap.objs.size globals (cellsFrom (s.heap.objs.size+1) scope.names cl) qual none .none (some env) builtinsNs) { s with heap:=pushCells (s.heap.push { cls:=.type "dict",data:=.dict #[] }) scope.names }) :
  wpAny M A (newFunctionEnv scope globals cl [] qual none .none (some env)) Q E s:=by
 simp only [newFunctionEnv,Option.isSome_some,if_true]
 refine wpAny_bind (wpAny_alloc ?_)
 refine wpAny_bind (wpAny_layCells _ (λname kind cells=>by cases hkc:kind == NameKind.cell<;>simp [hkc]) _ _ _ _ ?_)
 rw [show ({ s with heap:=s.heap.push { cls:=.type "dict",data:=.dict #[] } }:Shared).heap.objs.size=s.heap.objs.size+1 from size_push ..]
 rw [forIn_nil]
 exact wpAny_bind (wpAny_pure (wpAny_pure hQ))
def lL (outer scope:Scope):Bool:=
 scope.kind == .function && outer.kind == .function && scope.names.all λx=>(x.2 != .cell || scope.names.lookup x.1 == some .cell) && (x.2 != .local || scope.names.lookup x.1 == some .local) && (x.2 != .free || (outer.names.lookup x.1 == some .cell || outer.names.lookup x.1 == some .free))
structure nJ (X:Cx) (scope:Scope):Prop where
 kind:scope.kind=.function
 own:∀ x ∈ scope.names,x.2=.cell->scope.names.lookup x.1=some .cell
 names:∀ x ∈ scope.names,x.2=.local->scope.names.lookup x.1=some .local
 free:∀ x ∈ scope.names,x.2=.free->X.env.kindOf x.1=some .cell\/X.env.kindOf x.1=some .free
theorem compFactsC {X:Cx} {scope:Scope} (h:lL X.env.scope scope=true):nJ X scope:=by
 unfold lL at h
 simp only [Bool.and_eq_true,beq_iff_eq,all_eq_true,Bool.or_eq_true,bne_iff_ne] at h
 obtain ⟨⟨h1,_⟩,h2⟩:=h
 refine ⟨h1,λx hx e=>?_,λx hx e=>?_,λx hx e=>?_⟩
 ·rcases (h2 x hx).1.1 with z | z
  ·exact absurd e z
  ·exact z
 ·rcases (h2 x hx).1.2 with z | z
  ·exact absurd e z
  ·exact z
 ·rcases (h2 x hx).2 with z | z
  ·exact absurd e z
  ·exact z
abbrev jE (scope:Scope) (L:Addr) (env:Env):List (Str × Addr):=cellsFrom (L+1) scope.names (bK env scope.names [])
def j4 (X:Cx) (N:List Str) (scope:Scope) (s:Shared) (H:Hp) (ex:List Addr):Cx where
 prog:=X.prog
 w:=X.w
 K:=X.K
 mg:=X.mg
 base:=X.base
 A:=X.A
 N:=N
 s₀:=s
 H₀:=H
 env:=compEnvC scope (jE scope s.heap.objs.size X.env) s.heap.objs.size X.env
 outer:=X.stack
 stack:=X.stack
 ex:=ex
 fn:=λx=>scope.names.lookup x == some .cell
 calm:=X.calm
 pn:=[]
 xe:=λ_ _=>False
theorem nJ.cells {X:Cx} {scope:Scope} (f:nJ X scope) (ok:X.Ok):∀ x ∈ scope.names,x.2=.free->∃ c,X.env.cells.lookup x.1=some c:=λx hx e=>ok.has x.1 (f.free x hx e)
theorem nJ.cl {X:Cx} {scope:Scope} (f:nJ X scope) (ok:X.Ok) {n:Str} {c:Addr} (h:(bK X.env scope.names []).lookup n=some c):X.env.cells.lookup n=some c:=by
 rcases cls_in _ _ _ _ (f.cells ok) h with z | z
 ·exact z
 ·cases z
theorem nJ.kf {X:Cx} {scope:Scope} {x:Str} (h:(relabel scope X.env).names.lookup x=some .cell\/(relabel scope X.env).names.lookup x=some .free):scope.names.lookup x=some .free\/scope.names.lookup x=some .cell:=by
 unfold relabel at h
 simp only at h
 rw [bO] at h
 cases e:scope.names.lookup x with
 | none=>rw [e] at h; rcases h with z | z<;>cases z
 | some k=>
  rw [e] at h
  simp only [Option.map_some,Option.some.injEq] at h
  cases k with
  | free=>exact .inl rfl
  | cell=>exact .inr rfl
  | _=>simp at h
theorem nJ.nofree {X:Cx} {scope:Scope} (f:nJ X scope) {x:Str} (h:scope.names.lookup x=some .free):(x,NameKind.cell) ∉ scope.names:=λz=>by
 have:=f.own _ z rfl
 simp only at this
 rw [h] at this
 cases this
section
variable {X:Cx} {pins:List (Addr × Obj)} {σ:St} {H:Hp} {s:Shared}
theorem nJ.lk {scope:Scope} (f:nJ X scope) (I:Inv X pins σ H s) {x:Str} {c:Nat} (h:(jE scope s.heap.objs.size X.env).lookup x=some c):(X.env.cells.lookup x=some c/\c<s.heap.objs.size)\/s.heap.objs.size<c:=by
 rcases gK _ _ _ _ _ h with ⟨a,_⟩ | z
 ·exact .inr a
 ·have z':=f.cl I.ok z
  obtain ⟨v,o,ho,_⟩:=I.cell x c z'
  exact .inl ⟨z',lt_size ho⟩
theorem comp_startC {N:List Str} {src:List (Option Nat)} {scope:Scope} {ex:List Addr} {h1:Heap} {m:Str->Option Value} {tk:Nat} (I:Inv X pins σ H s) (f:nJ X scope) (hsrc:gk X.N N src scope=true)
  (hex:∀ b ∈ ex,b<s.heap.objs.size/\b ≠ X.env.locals/\b ∉ X.fs/\(∀ x c,X.env.cells.lookup x=some c->c ≠ b)/\∀ o,X.base.get? b ≠ some o)
  (hn:h1.Ns s.heap.objs.size m) (hk:∀ b o,s.heap.get? b=some o->h1.get? b=some o) (hcl:∀ (x:Str) (c:Nat),(jE scope s.heap.objs.size X.env).lookup x=some c->s.heap.objs.size<c->∃ v,h1.IsCell c v) :
  Inv (j4 X N scope s H ex) [] (bG src σ) H { s with heap:=h1,toks:=tk }:=by
 obtain ⟨hlen,hix⟩:=srcOk_ix hsrc
 have ok:=I.ok
 have fsL:∀ b ∈ frs X.stack,b ∈ X.env.locals::X.fs:=I.stkSub
 have clLt:∀ (z:Str) (a:Nat),(bK X.env scope.names []).lookup z=some a->a<s.heap.objs.size+1:=λz a e=>by
  obtain ⟨v,o,ho,_⟩:=I.cell z a (f.cl ok e)
  exact Nat.lt_succ_of_lt (lt_size ho)
 refine ⟨⟨ok.mod,f.kind,ok.glob,ok.blt,Nat.le_refl _,λx y c h1 h2=>?_,λx hx=>?_,λx c hx e=>?_,ok.hd,ok.frames,.inl rfl,λb hb=>⟨Nat.ne_of_lt (hex b hb).1,λx c e=>?_⟩,I.bs,Nat.le_trans ok.bsz I.sz,λb o e hb=>(hex b hb).2.2.2.2 o e,λb hb hb'=>?_,I.stack,I.stkFree⟩,
  rfl,I.bare,Un.kept hk,⟨m,hn,λi x v e1 e2 e3=>?_⟩,λx c e=>?_,I.hok.fresh (Nat.le_refl _),λx c e=>?_,λp hp=>absurd (show p ∈ ([]:List (Addr × Obj)) from hp) (by simp),I.hok.kept hk,?_⟩
 ·rcases f.lk I h1 with ⟨a,a'⟩ | a
  ·rcases f.lk I h2 with ⟨b,_⟩ | b
   ·exact ok.inj x y c a b
   ·exact absurd b (Nat.lt_asymm a')
  ·exact cf_inj _ _ _ _ _ _ clLt h1 h2 a
 ·rcases nJ.kf hx with z | z
  ·exact i6 _ _ _ _ (gs _ _ _ (PySem.mem_of_lookup z))
  ·exact cf_has _ _ _ _ (PySem.mem_of_lookup z)
 ·have hx':scope.names.lookup x=some .cell:=by simpa [j4] using hx
  have:=cf_own _ _ _ _ _ (.inl (PySem.mem_of_lookup hx')) (λ_ _=>trivial) e (PySem.mem_of_lookup hx')
  exact Nat.le_of_succ_le this
 ·rcases f.lk I e with ⟨a,_⟩ | a
  ·exact (hex b hb).2.2.2.1 x c a
  ·exact λz=>absurd (hex b hb).1 (Nat.lt_asymm (z ▸ a))
 ·rcases List.mem_cons.mp (fsL b hb') with z | z
  ·exact (hex b hb).2.1 z
  ·exact (hex b hb).2.2.1 z
 ·have e2':(bG src σ)[i]? = some (some v):=e2
  unfold bG at e2'
  rw [getElem?_map] at e2'
  cases hs:src[i]? with
  | none=>rw [hs] at e2'; cases e2'
  | some o=>
   rw [hs] at e2'
   cases o with
   | none=>cases e2'
   | some j=>
    obtain ⟨q1,q2⟩:=hix i x j e1 hs
    have e4:σ[j]? = some (some v):=by
     simp only [Option.map_some,Option.bind_some,Option.some.injEq] at e2'
     cases z:σ[j]? with
     | none=>rw [z] at e2'; cases e2'
     | some o=>rw [z] at e2'; simp only [Option.join_some] at e2'; rw [e2']
    have kx:=f.free (x,.free) (PySem.mem_of_lookup q2) rfl
    obtain ⟨mX,hnX,hl⟩:=I.loc
    obtain ⟨u,r,l⟩:=hl j x v q1 e4 (by rcases kx with z | z; exact .inr (.inl z); exact .inr (.inr z))
    refine ⟨u,r,.inr ⟨nX.fk (X:=X) q2,?_⟩⟩
    rcases l with ⟨l,_⟩ | ⟨_,c,ec,ic⟩
    ·rcases kx with z | z
     ·rw [z] at l; cases l
     ·rw [z] at l; cases l
    ·obtain ⟨c',hc'⟩:=gs (env:=X.env) scope.names [] x (PySem.mem_of_lookup q2)
     have z:=f.cl ok hc'
     rw [ec] at z
     cases z
     obtain ⟨oc,ho,hd⟩:=ic
     refine ⟨c,?_,oc,hk c oc ho,hd⟩
     show (jE scope s.heap.objs.size X.env).lookup x=some c
     rw [i7 _ _ _ _ (f.nofree q2)]
     exact hc'
 ·rcases f.lk I e with ⟨a,_⟩ | a
  ·obtain ⟨v,o,ho,hd⟩:=I.cell x c a
   exact ⟨v,o,hk c o ho,hd⟩
  ·exact hcl x c e a
 ·rcases f.lk I e with ⟨a,_⟩ | a
  ·exact I.freeC x c a
  ·exact I.hok.fresh (Nat.le_of_lt a)
 ·show (bG src σ).length=N.length
  unfold bG
  rw [length_map]
  exact hlen
theorem comp_runC {elt tg iter:Expr} {ifs:List Expr} {scope:Scope} {pos:Pos} {N:List Str} {src:List (Option Nat)} {g:TG} {tt:TT} {te:TE} (use:Option (Value->Sem Unit)) (PQ:Value->Shared->Prop) (E:Value->Shared->Prop)
  (hcalm:X.calm=true) (f:nJ X scope) (hsrc:gk X.N N src scope=true)
  (hb:∀ (s:Shared) (H:Hp) (ex:List Addr),PG (j4 X N scope s H ex) tg g/\PIf (j4 X N scope s H ex) ifs tt/\PE (j4 X N scope s H ex) elt te)
  {it:Addr} {fp:List Addr} {tn:Nat->Heap->Prop} {J:It} (I:Inv X pins σ H s) (T:jX X.prog X.w X.K tg J fp it tn) (st:tn 0 s.heap) (hf:∀ b ∈ fp,nI X pins H b) {Q:VK}
  (h:cf J src g tt te σ H Q)
  (hfin:∀ (acc C:Addr) (s':Shared) (H':Hp) (m:Str->Option Value),s'.heap.Ns C m->nI X pins H' C->(∀ h',Heap.SameBut C s'.heap h'->Inv X pins σ H' { s' with heap:=h' })->Q (.ref acc) H'->compPost (model X.prog X.w) X.A E use PQ (.ref acc) C (.ok .next) s') :
  wpAny (model X.prog X.w) X.A (newList []) (λacc s₃=>
   wpAny (model X.prog X.w) X.A (newFunctionEnv scope X.env.globals (bK X.env scope.names []) [] X.env.qual none .none (some X.env)) (λcenv s₄=>
    codeAny (model X.prog X.w) X.A (.compStart (.ListComp elt [⟨tg,iter,ifs,0⟩] scope pos) 0 (.ref it) acc { cenv with scope:=relabel scope X.env }) (compPost (model X.prog X.w) X.A E use PQ acc cenv.locals) s₄) E s₃) E s:=by
 have ok:=I.ok
 have I3:Inv X pins σ (upd H s.heap.objs.size (.lst [])) { s with heap:=s.heap.push { cls:=.type "list",data:=.seq ([]:List Value).toArray },toks:=s.toks }:=I.lnew (ys:=[]) (its:=[]) .nil (Nat.zero_le _)
 obtain ⟨W,⟨m0,w0⟩,turn⟩:=h s.heap.objs.size (I.hok.fresh (Nat.le_refl _))
 refine wpAny_newObj_type (newEnvC ?_)
 dsimp only
 generalize hs3:({ s with heap:=s.heap.push { cls:=.type "list",data:=.seq ([]:List Value).toArray },toks:=s.toks }:Shared)=s3 at I3
 have e3:s3.heap=s.heap.push { cls:=.type "list",data:=.seq ([]:List Value).toArray }:=by rw [<- hs3]
 rw [<- e3]
 have hk:∀ b o,s3.heap.get? b=some o->(pushCells (s3.heap.push { cls:=.type "dict",data:=.dict #[] }) scope.names).get? b=some o:=λb o e=>pushCells_keeps _ _ b o (get?_push_of_some _ e)
 have hns₁':(pushCells (s3.heap.push { cls:=.type "dict",data:=.dict #[] }) scope.names).Ns s3.heap.objs.size (λ_=>none):=(Heap.Ns.new s3.heap (.type "dict")).keeps (pushCells_keeps _ _)
 have hcl:∀ (x:Str) (c:Nat),(jE scope s3.heap.objs.size X.env).lookup x=some c->s3.heap.objs.size<c->∃ v,(pushCells (s3.heap.push { cls:=.type "dict",data:=.dict #[] }) scope.names).IsCell c v:=λx c e hc=>by
  have e':(cellsFrom (s3.heap.push { cls:=.type "dict",data:=.dict #[] }).objs.size scope.names (bK X.env scope.names [])).lookup x=some c:=by rw [size_push]; exact e
  rcases lV _ _ _ _ _ e' with z | z
  ·obtain ⟨v,o,ho,_⟩:=I3.cell x c (f.cl ok z)
   exact absurd (lt_size ho) (Nat.lt_asymm hc)
  ·exact ⟨none,z.1⟩
 generalize pushCells (s3.heap.push { cls:=.type "dict",data:=.dict #[] }) scope.names=h₁ at *
 have up3:∀ b o,s.heap.get? b=some o->s3.heap.get? b=some o:=λb o e=>by rw [e3]; exact get?_push_of_some _ e
 have nacc:∀ b ∈ fp,b ≠ s.heap.objs.size:=λb hb z=>by
  obtain ⟨o,e,_⟩:=T.obj 0 _ st b hb
  exact absurd (lt_size e) (by rw [z]; exact Nat.lt_irrefl _)
 have hex:∀ b ∈ fp,b<s3.heap.objs.size/\b ≠ X.env.locals/\b ∉ X.fs/\(∀ x c,X.env.cells.lookup x=some c->c ≠ b)/\∀ o,X.base.get? b ≠ some o:=λb hb=>by
  obtain ⟨o,e,_⟩:=T.obj 0 _ st b hb
  obtain ⟨f0,f1,f2,f3,f4,f5⟩:=hf b hb
  refine ⟨lt_size (up3 b o e),f1,f2,f4,λo' z=>?_⟩
  rcases f3 with q | q
  ·exact ok.noex b o' z q
  ·exact absurd (Nat.lt_of_lt_of_le (lt_size (ok.bs b o' z).1) q) (Nat.lt_irrefl _)
 have IY0:Inv (j4 X N scope s3 (upd H s.heap.objs.size (.lst [])) fp) [] (bG src σ) (upd H s.heap.objs.size (.lst [])) { s3 with heap:=h₁,toks:=s.toks }:=
  comp_startC (tk:=s.toks) I3 f hsrc hex hns₁' hk hcl
 generalize hY:j4 X N scope s3 (upd H s.heap.objs.size (.lst [])) fp=Y at IY0
 have hb':PG Y tg g/\PIf Y ifs tt/\PE Y elt te:=by rw [<- hY]; exact hb s3 _ fp
 obtain ⟨hg,ht,he⟩:=hb'
 have Yp:Y.prog=X.prog:=by rw [<- hY]; rfl
 have Yw:Y.w=X.w:=by rw [<- hY]; rfl
 have YK:Y.K=X.K:=by rw [<- hY]; rfl
 have YA:Y.A=X.A:=by rw [<- hY]; rfl
 have Yc:Y.calm=true:=by rw [<- hY]; exact hcalm
 have Yx:Y.xe=λ_ _=>False:=by rw [<- hY]; rfl
 have Ye:Y.env=compEnvC scope (jE scope s3.heap.objs.size X.env) s3.heap.objs.size X.env:=by rw [<- hY]; rfl
 have Ys:Y.s₀=s3:=by rw [<- hY]; rfl
 have YH:Y.H₀=upd H s.heap.objs.size (.lst []):=by rw [<- hY]; rfl
 have Yf:Y.fs=frs X.stack:=by rw [<- hY]; rfl
 have Yex:Y.ex=fp:=by rw [<- hY]; rfl
 have Ypn:Y.pn=[]:=by rw [<- hY]; rfl
 have stat:∀ {H':Hp},(∀ b ∈ fp,H' b=none)->∀ b ∈ fp,nI Y [] H' b:=λ{H'} hn b hb=>by
  obtain ⟨x1,x2,x3,x4,x5⟩:=hex b hb
  refine ⟨hn b hb,?_,?_,.inl (by rw [Yex]; exact hb),?_,λp hp=>?_⟩
  ·rw [Ye]; exact Nat.ne_of_lt x1
  ·rw [Yf]
   intro z
   rcases List.mem_cons.mp (I.stkSub b z) with q | q
   ·exact x2 q
   ·exact x3 q
  ·rw [Ye]
   intro x c e
   rcases f.lk I3 e with ⟨a,_⟩ | a
   ·exact x4 x c a
   ·exact λz=>absurd x1 (Nat.lt_asymm (z ▸ a))
  ·rw [Ypn] at hp
   exact absurd hp (by simp)
 have loop:∀ s4:Shared,s4=({ s3 with heap:=h₁,toks:=s.toks }:Shared)->
   codeAny (model X.prog X.w) X.A (.compLoop (.ListComp elt [⟨tg,iter,ifs,0⟩] scope pos) 0 (.ref it) (.ref s.heap.objs.size) (compEnvC scope (jE scope s3.heap.objs.size X.env) s3.heap.objs.size X.env))
    (compPost (model X.prog X.w) X.A E use PQ (.ref s.heap.objs.size) s3.heap.objs.size) s4:=by
  rintro s4 rfl
  refine gr (λn s'=>∃ i σ' H',Inv Y [] σ' H' s'/\tn i s'.heap/\(∀ b ∈ fp,H' b=none)/\W i n σ' H') ?_ m0
   ⟨0,bG src σ,_,IY0,T.keep 0 _ _ st λb hb o e=>hk b o (up3 b o e),λb hb=>by rw [am (nacc b hb)]; exact (hf b hb).1,w0⟩
  rintro n s5 ⟨i,σ5,H5,I5,st5,fr5,w5⟩
  rcases turn i n σ5 H5 w5 with ⟨stop,qn⟩ | ⟨go,Nn,hNn,step⟩
  ·have q:=T.done Y Yp Yw YK Yc i [] s5 σ5 H5 (λ_ _=>False) I5 (stat fr5) st5 stop
   rw [YA] at q
   refine thn q λr s6 ⟨hr,I6⟩=>?_
   subst hr
   obtain ⟨m6,hn6,_⟩:=id I6.loc
   have eL:Y.env.locals=s3.heap.objs.size:=by rw [Ye]; rfl
   rw [eL] at hn6
   refine hfin s.heap.objs.size s3.heap.objs.size s6 H5 m6 hn6 (I3.fpOk (Nat.le_refl _) (by have z:=I6.free; rw [eL] at z; exact z)) (λh' sb=>?_) qn
   ·have b6:=I6.base
    rw [Ys,YH,Yf,Yex] at b6
    have ne:∀ b o,s3.heap.get? b=some o->b ≠ s3.heap.objs.size:=λb o e=>Nat.ne_of_lt (lt_size e)
    have u6:Un (frs X.stack) fp (upd H s.heap.objs.size (.lst [])) H5 s3.heap h':=
     ⟨λb o e n hb hx=>(sb.2 b (ne b o e)).trans (b6.keep b o e n hb hx),λb o e n hb hx=>by
       obtain ⟨sl,z⟩:=b6.slot b o e n hb hx
       exact ⟨sl,(sb.2 b (ne b o e)).trans z⟩,b6.free,λb o e hx=>by
       obtain ⟨o',z⟩:=b6.there b o e hx
       exact ⟨o',(sb.2 b (ne b o e)).trans z⟩,b6.tups,b6.frzs,b6.tbls⟩
    have fL:H5 s3.heap.objs.size=none:=by
     have z:=I6.free
     rw [eL] at z
     exact z
    have hok6:HOk X.prog X.w H5 h':=by
     have z:=I6.hok
     rw [Yp,Yw] at z
     intro b ob e
     refine (z b ob e).stay (λc w' hc q=>(sb.2 c ?_).trans q) (λ_ q=>q) λ_ _ q=>q
     rintro rfl
     rcases hc with rfl | hc
     ·rw [fL] at e; cases e
     ·rw [fL] at hc; cases hc
    have os6:s6.os=s3.os:=by
     have z:=I6.os
     rw [Ys] at z
     exact z
    refine Inv.call' (s':={ s6 with heap:=h' }) I3 os6 u6 hok6 I6.bare λb hb=>?_
    obtain ⟨f0,f1,f2,f3,f4,f5⟩:=hf b hb
    exact ⟨f3,f1,f4,f5⟩
  ·have q:=T.item Y Yp Yw YK Yc i [] s5 σ5 H5 (λ_ _=>False) I5 (stat fr5) st5 go
   rw [YA] at q
   refine thn q λr s6 ⟨u,hr,h6⟩=>?_
   subst hr
   refine thn h6 λ_ s7 ⟨x,H7,I7,r7,y7,st7,fr7⟩=>?_
   have I7':=I7.pinned (stat fr7) (T.obj _ _ st7)
   have back:∀ {σ9:St} {H9:Hp} {s9:Shared},Inv Y ([]++ig fp s7.heap) σ9 H9 s9->tn (i+1) s9.heap/\∀ b ∈ fp,H9 b=none:=λ{σ9 H9 s9} I9=>
    ⟨T.keep _ _ _ st7 λb hb o e=>(I9.pin (b,o) (mem_append_right _ (mem_append_right _ (cb hb e)))).1,λb hb=>by
     obtain ⟨o,e,d⟩:=T.obj _ _ st7 b hb
     exact (I9.pin (b,o) (mem_append_right _ (mem_append_right _ (cb hb e)))).2.1⟩
   have g1:=hg _ s7 σ5 H7 x u _ I7' r7 (step x H7 y7)
   rw [YA,Yx,Yp,Yw,Ye] at g1
   refine thn g1 λ_ s8 ⟨σ8,H8,I8,q8⟩=>?_
   have g2:=ht _ s8 σ8 H8 _ I8 q8
   rw [YA,Yx,Yp,Yw,Ye] at g2
   refine thn g2 λb s9 ⟨H9,I9,q9⟩=>?_
   cases b with
   | false=>
    simp only [Bool.false_eq_true,if_false] at q9 ⊢
    obtain ⟨m',hm,w9⟩:=hNn _ _ q9
    exact ⟨m',hm,i+1,σ8,H9,I9.unpinned,(back I9).1,(back I9).2,w9⟩
   | true=>
    simp only [if_true] at q9 ⊢
    have g3:=he _ s9 σ8 H9 _ I9 q9
    rw [YA,Yx,Yp,Yw,Ye] at g3
    refine thn g3 λyv s10 ⟨y,H10,I10,r10,ys,hys,hz,n10⟩=>?_
    obtain ⟨m',hm,w10⟩:=hNn _ _ n10
    have g4:=g9 (X:=Y) _ s10 σ8 H10 (.ref s.heap.objs.size) [y] (.ref s.heap.objs.size) [yv] (λ_ H11=>H11=upd H10 s.heap.objs.size (.lst (ys++[y]))) I10 rfl (.cons r10 .nil) ⟨_,ys,y,rfl,rfl,hys,hz,rfl⟩
    rw [YA,Yx,Yp,Yw] at g4
    refine thn g4 λ_ s11 ⟨_,H11,I11,_,e11⟩=>?_
    subst e11
    exact ⟨m',hm,i+1,σ8,_,I11.unpinned,(back I11).1,(back I11).2,w10⟩
 have q:=loop _ rfl
 have eqs:({ s3 with heap:=h₁,toks:=s.toks }:Shared)={ s with heap:=h₁,toks:=s.toks }:=by rw [<- hs3]
 rw [eqs] at q
 have stn:tn 0 h₁:=T.keep 0 _ _ st λb hb o e=>hk b o (up3 b o e)
 exact codeAny_compStart_list q (T.self X.A 0 _ _ _ stn q)
theorem pe_compC {elt tg iter:Expr} {ifs:List Expr} {scope:Scope} {pos:Pos} {N:List Str} {src:List (Option Nat)} {wi:TI} {g:TG} {tt:TT} {te:TE}
  (hcalm:X.calm=true) (hsc:lL X.env.scope scope=true) (hsrc:gk X.N N src scope=true) (hi:PI X tg iter wi)
  (hb:∀ (s:Shared) (H:Hp) (ex:List Addr),PG (j4 X N scope s H ex) tg g/\PIf (j4 X N scope s H ex) ifs tt/\PE (j4 X N scope s H ex) elt te)
  (hs:∀ x,foldedSetIterable iter X.env x=pure x:=by intro _; rfl) :
  PE X (.ListComp elt [⟨tg,iter,ifs,0⟩] scope pos) (tComp src wi g tt te):=by
 intro pins s σ H Q I h
 have f:=compFactsC hsc
 rw [eval_ListComp]
 refine wpAny_comprehension_free (use:=none) rfl hs (fO (f.cells I.ok)) f.kind f.names (thn (hi pins s σ H _ I h) λv s1 h1=>thn h1 λitv s2 h2=>?_)
 obtain ⟨it,fp,tn,J,H2,rfl,I2,T,st2,f2,q2⟩:=h2
 refine comp_runC (N:=N) (src:=src) none (EP X pins σ Q) X.xe hcalm f hsrc hb I2 T st2 f2 q2 ?_
 intro acc C s' H' m hn _ hI hq
 exact ⟨m,hn,λh' sb=>⟨.ref acc,H',hI h' sb,rfl,hq⟩⟩
end
end L2
namespace L2
open PySem PySem.Spec PyProof.Rows
theorem nC.m {j k:Nat} {A:Around} (r:nC k A) (h:j<=k:=by first | decide | exact Nat.le_refl _):nC j A:=r.mono h
theorem mZ.i {N P:List Str} {sc:Scope} (a:sc.kind=.function:=by rfl) (b:sc.isCoroutine=false:=by rfl) (c:sc.isGenerator=false:=by rfl) (d:N.Nodup:=by decide +kernel) (e:N.take P.length=P:=by rfl)
  (f:∀ x ∈ P,sc.names.lookup x=some .local\/sc.names.lookup x=some .cell:=by decide +kernel) (g:∀ y ∈ sc.names,y.2 ≠ .free:=by decide +kernel):mZ N P sc:=⟨a,b,c,d,e,f,g⟩
def AllA:Nat->(List Value->Prop)->Prop
 | 0,p=>p []
 | n+1,p=>∀ v,AllA n λr=>p (v::r)
theorem AllA.all:∀ {n:Nat} {p:List Value->Prop},AllA n p->∀ us:List Value,us.length=n->p us
 | 0,_,h,[],_=>h
 | _+1,_,h,v::r,e=>AllA.all (h v) r (Nat.succ.inj e)
def nu (K:Frag) (n:Str) (st:Stmt):Prop:=∃ f fd,nsIn K mainGlobals n=some (some (.ref f))/\Fun K n n st f fd
theorem nu.mk {K:Frag} {n:Str} {st:Stmt} {f:Addr} {oc:Value} {od an:Option Addr} {osl:Array (Option Value)} {kV doc pm cdv ct:Value} (a:nsIn K mainGlobals n=some (some (.ref f))) (l:K.lookup f=some ⟨oc,od,.func (fnOf n n (aR st) (aK st) (al st) .none kV doc pm an cdv ct),osl⟩)
  (c:codeIn K cdv n=true) (k:keepIn K (.ref f)=true):nu K n st:=⟨f,_,a,eB l c k⟩
section
variable {P:Program} {w:World} {K:Frag} {mg:Str->Option Value} {base h:Heap} {n:Str} {st:Stmt} {k:Nat} {sp:Sp} {ps:List Str}
def BindsOk (n:Str) (st:Stmt) (ps:List Str):Prop:=∀ (kV doc pm:Value) (an:Option Addr) (cdv ct:Value),AllA ps.length λus=>bindArgs (fnOf n n (aR st) (aK st) (al st) .none kV doc pm an cdv ct) ⟨us,[]⟩=pure (ps.zip us)
theorem BindsOk.b (h:BindsOk n st ps) {f:Addr} {fd:FuncData} (F:Fun K n n st f fd):nY K fd ps []:=F.binds λa b c d e g=>(h a b c d e g).all
theorem nu.fb (X:K.In h) (G:h.Ns mainGlobals mg) (d:nu K n st) (o:∀ {f fd},Fun K n n st f fd->nk P w K mg base CX0 k f fd ps sp) (b:BindsOk n st ps:=by (repeat intro _); rfl):FnB P w K mg base k n sp:=
 let ⟨f,fd,a,F⟩:=d
 ⟨f,fd,ps,o F,mg_of X G a,F.kp,b.b F⟩
theorem nu.fx (X:K.In h) (G:h.Ns mainGlobals mg) (d:nu K n st) (o:∀ {f fd},Fun K n n st f fd->nk P w K mg base (CXE P w) k f fd ps sp) (b:BindsOk n st ps:=by (repeat intro _); rfl):lR P w K mg base k n sp:=
 let ⟨f,fd,a,F⟩:=d
 ⟨f,fd,ps,o F,mg_of X G a,F.kp,b.b F⟩
end
theorem bmA {X:Cx} (K:Frag) (hK:X.K=K) {o e:Expr} {es:List Expr} {to:TE} {t:TA} {apos cpos:Pos} (ho:PE X o to) (ha:PA X (e::es) t)
  (hbase:attributeBase o "append" X.env (eval o X.env)=eval o X.env:=by rfl)
  (hfew:((backTo cpos (starEach (e::es) X.env)).all (λx=>!x.1) && (backToKw cpos (keywordEach [] X.env)).all (λx=>x.1.isSome)
   && decide ((e::es).length+([]:List Keyword).length+(if ([]:List Keyword).isEmpty then 0 else 1)<30))=true:=by rfl)
  (hline:(apos.endLine == cpos.line)=true:=by rfl) (hs:starEach (e::es) X.env=(false,eval e X.env)::starEach es X.env:=by rfl) (hplain:(backTo cpos (starEach es X.env)).any (·.1)=false:=by rfl) :
  PE X (.Call (.Attribute o "append" apos) (e::es) [] cpos) (tBM K "list" rAppend to t):=hK ▸ pe_bm PySem.F.plainAttrs_list PySem.F.slot_list_append PySem.F.type_list_append g9 ho ha hbase hfew hline hs hplain
section
variable {P:Program} {w:World} {K:Frag} {mg:Str->Option Value} {base:Heap}
theorem Fun.o {x qual:Str} {st:Stmt} {f:Addr} {fd:FuncData} {N ps:List Str} {k:Nat} {sp:Sp} (F:Fun K x qual st f fd) (S:mZ N ps (al st))
  (hbody:∀ (cdv:Value) (A:Around) (outer:List Env) (s:Shared) (H:Hp) (vs:List V) (Q:VK) (E:XK),nC k (A.deeper (envOfC qual (al st) s.heap.objs.size f cdv))->sp vs H Q E->
   ∃ t,PSs (bR CX0 P w K mg base N qual (al st) f cdv A outer s H E).nox (aK st) t/\t { nx:=λ_ H'=>Q .non H',rt:=Q } (bS N vs) H)
  (len:∀ vs H Q E,sp vs H Q E->vs.length=ps.length:=by intro _ _ _ _ h; repeat first | (cases h.1; rfl) | obtain ⟨_,h⟩:=h):nk P w K mg base CX0 (k+1) f fd ps sp:=F.ok S len hbody
end
def BmB (mg:Str->Option Value) (h:Heap):Prop:=∃ bm o,mg "__builtins__"=some (.ref bm)/\bm ≠ builtinsNs/\bm ≠ mainGlobals/\h.get? bm=some o/\o.cls=.type "module"/\o.dict=some builtinsNs/\o.data=.plain
theorem law_callT {P:Program} {w:World} {K:Frag} {mg mb:Str->Option Value} {CX:CXT} {k:Nat} {fa a c0 P0:Addr} {fd:FuncData} {x:Str} {sp:Sp} {s₁:Shared} {vs:List Value} {ns:List Int}
  (KX:K.In s₁.heap) (hns:s₁.heap.Ns mainGlobals mg) (hb:s₁.heap.Ns builtinsNs mb) (hbb:∀ x:Str,x ≠ "__name__"->mb x=bootBuiltins x) (hlim:s₁.heap.NoLimit) (hg:s₁.gens = #[])
  (ha:s₁.heap.get? a=some { cls:=.type "list",data:=.seq vs.toArray }) (hi:IntsAre vs ns) (hl:ns.length<=sizeLine) (hr:nC k callerA)
  (C0:CodeHd s₁.heap c0 P0) (hP0:s₁.heap.get? P0=some (tabObj #[])) (hKP:K.lookup P0=none) (hbm:BmB mg s₁.heap)
  (F:∀ base:Heap,K.In base->base.Ns mainGlobals mg->BmB mg base->CodeHd base c0 P0->nk P w K mg base CX k fa fd [x] sp) (hbind:∀ (s:Shared) (u:Value),BindsTo s fd ⟨[u],[]⟩ [(x,u)])
  (hsp:∀ H:Hp,H P0=some (.tbl #[])->SqL K H a (ns.map V.int)->sp [.ref a] H (λv _=>v=.bl true) λ_ _ _=>False)
  (hCX:∀ H e s',CX [] H s₁ (λ_ _ _=>False) e s'->False) :
  codeAny (model P w) callerA (.call (.ref fa) ⟨[.ref a],[]⟩) (λr s'=>r=.ok (.ret (.bool true))/\OldK s₁.heap s'.heap/\s'.os=s₁.os/\AllBare s'.gens) s₁:=by
 have rv:=ki hi
 have lenV:=hi.length
 have aP:a ≠ P0:=λz=>by rw [z,hP0] at ha; cases ha
 have tabC:isCodeTable s₁.heap P0:=by
  obtain ⟨o,vs,_,_,_,_,_,_,_,h1,h2,h3,h4,_⟩:=C0
  exact ⟨c0,o,vs,h1,h2,h3,h4⟩
 have core:∀ H:Hp,H P0=some (.tbl #[])->(∀ b,b ≠ P0->H b=none\/∃ o xs,H b=some (.frz o (.lst xs)))->SqL K H a (ns.map V.int)->HOk P w H s₁.heap->(∀ b,H b ≠ none->b=a\/b=P0)->(H a ≠ none->K.lookup a=none)->
   codeAny (model P w) callerA (.call (.ref fa) ⟨[.ref a],[]⟩) (λr s'=>r=.ok (.ret (.bool true))/\OldK s₁.heap s'.heap/\s'.os=s₁.os/\AllBare s'.gens) s₁:=by
  intro H hT hO hS hok hA hK
  have base_of:∀ {b:Addr} {o:Obj},s₁.heap.get? b=some o->H b=none->(jx s₁.heap H).get? b=some o:=λe n=>hidT_get e n
  have noA:∀ {b:Addr} {o:Obj} {es:Array DictEntry} {ep:Nat},s₁.heap.get? b=some o->o.data=.dict es ep->H b=none:=λ{b o es ep} e d=>by
   cases q:H b with
   | none=>rfl
   | some u=>
    rcases hA b (by rw [q]; simp) with e' | e'
    ·subst e'
     rw [ha] at e; cases e
     have d':Data.seq vs.toArray _=Data.dict es ep:=d
     cases d'
    ·subst e'
     rw [hP0] at e; cases e
     have d':Data.fields _=Data.dict es ep:=d
     cases d'
  have nsK:∀ {b:Addr} {m:Str->Option Value},s₁.heap.Ns b m->(jx s₁.heap H).Ns b m:=λ{b m} ⟨o,es,ep,e,d,r⟩=>⟨o,es,ep,base_of e (noA e d),d,r⟩
  have hKb:K.In (jx s₁.heap H):=λb o e=>base_of (KX b o e) (by
   cases q:H b with
   | none=>rfl
   | some u=>
    rcases hA b (by rw [q]; simp) with e' | e'
    ·subst e'
     rw [hK (by rw [q]; simp)] at e; cases e
    ·subst e'
     rw [hKP] at e; cases e)
  have hM:Mod K mg (jx s₁.heap H):=⟨hKb,nsK hns,⟨mb,nsK hb,hbb⟩,let ⟨mc,h1,h2⟩:=hlim; ⟨mc,nsK h1,h2⟩⟩
  have e0:Env0 P w K mg (jx s₁.heap H) callerA [] s₁ H:=⟨rfl,hM,λb o e=>of_hidT e,Nat.le_of_eq (hidT_size _ _),trivial,λb hb=>absurd (show b ∈ ([]:List Addr) from hb) (by simp),hok,.of_eq hg⟩
  have hbm':BmB mg (jx s₁.heap H):=by
   obtain ⟨bm,o,b1,b2,b3,b4,b5,b6,b7⟩:=hbm
   refine ⟨bm,o,b1,b2,b3,base_of b4 ?_,b5,b6,b7⟩
   cases q:H bm with
   | none=>rfl
   | some u=>
    rcases hA bm (by rw [q]; simp) with e' | e'
    ·subst e'; rw [ha] at b4; cases b4; exact absurd b5 (by simp)
    ·subst e'; rw [hP0] at b4; cases b4; exact absurd b5 (by simp)
  have hC':CodeHd (jx s₁.heap H) c0 P0:=by
   obtain ⟨o,vs',file,tf,flags,tg,inF,text,tt,h1,h2,r⟩:=C0
   refine ⟨o,vs',file,tf,flags,tg,inF,text,tt,base_of h1 ?_,h2,r⟩
   cases q:H c0 with
   | none=>rfl
   | some u=>
    rcases hA c0 (by rw [q]; simp) with e' | e'
    ·subst e'; rw [ha] at h1; cases h1; exact absurd h2 (by simp)
    ·subst e'; rw [hP0] at h1; cases h1; exact absurd h2 (by simp)
  refine codeAny_mono ((F _ hKb (nsK hns) hbm' hC').run callerA [] s₁ H ⟨[.ref a],[]⟩ [.ref a] [.ref a] _ _ hr e0 (hbind s₁ (.ref a)) (.cons rfl .nil) (hsp H hT hS)) λr s' h=>?_
  cases r with
  | error e=>exact (hCX H e s' h).elim
  | ok fl=>
   cases fl with
   | next=>exact False.elim h
   | brk=>exact False.elim h
   | cont=>exact False.elim h
   | ret u=>
    obtain ⟨v,H',os,bare,un,hok',r',q⟩:=h
    have q':v=.bl true:=q
    subst q'
    obtain rfl:u=Value.bool true:=r'
    have keep:∀ b o,s₁.heap.get? b=some o->b ≠ P0->s'.heap.get? b=some o:=λb o e nb=>by
     cases q:H b with
     | none=>exact un.keep b o e q (by intro z; exact absurd (show b ∈ ([]:List Addr) from z) (by simp)) (by simp)
     | some u=>
      rcases hO b nb with z | ⟨ob,xs,z⟩
      ·rw [q] at z; cases z
      ·have z2:=un.frzs b ob _ z
       obtain ⟨e1,_⟩:=hok b _ z
       obtain ⟨e2,_⟩:=hok' b _ z2
       rw [e] at e1; cases e1
       exact e2
    obtain ⟨more,hmore⟩:=un.tbls P0 _ hT
    have hP':s'.heap.get? P0=some (tabObj (#[]++more)):=hok' P0 _ hmore
    refine ⟨rfl,⟨λb o e=>?_,λb o e=>?_⟩,os,bare⟩
    ·by_cases nb:b=P0
     ·subst nb
      rw [hP0] at e
      cases e
      exact .inr (.inl ⟨tabC,rfl,#[],more,rfl,hP'⟩)
     ·exact .inl (keep b o e nb)
    ·by_cases nb:b=P0
     ·subst nb; exact ⟨_,hP'⟩
     ·exact ⟨_,keep b o e nb⟩
 cases hk:K.lookup a with
 | some o=>
  have e:=KX a o hk
  rw [ha] at e
  cases e
  refine core (λb=>if b=P0 then some (.tbl #[]) else none) (if_pos rfl) (λb nb=>.inl (if_neg nb)) (.inr ⟨_,vs.toArray,_,hk,rfl,rfl,rfl,by rw [size_toArray,lenV]; exact hl,by simpa using rv⟩) (λb u z=>?_) (λb z=>?_) λz=>absurd (if_neg aP) z
  ·by_cases hb:b=P0
   ·have z':=(if_pos hb).symm.trans z
    cases z'
    subst hb
    exact hP0
   ·have z':=(if_neg hb).symm.trans z
    cases z'
  ·by_cases hb:b=P0
   ·exact .inr hb
   ·exact absurd (if_neg hb) z
 | none=>
  refine core (λb=>if b=P0 then some (.tbl #[]) else if b=a then some (.frz { cls:=.type "list",data:=.seq vs.toArray } (.lst (ns.map V.int))) else none) (if_pos rfl) (λb nb=>?_) (.inl (.inr ⟨{ cls:=.type "list",data:=.seq vs.toArray },(if_neg aP).trans (if_pos rfl)⟩)) (λb u z=>?_) (λb z=>?_) λ_=>hk
  ·by_cases hb:b=a
   ·exact .inr ⟨_,_,(if_neg nb).trans (if_pos hb)⟩
   ·exact .inl ((if_neg nb).trans (if_neg hb))
  ·by_cases hp:b=P0
   ·have z':=(if_pos hp).symm.trans z
    cases z'
    subst hp
    exact hP0
   ·by_cases hb:b=a
    ·have z':=((if_neg hp).trans (if_pos hb)).symm.trans z
     cases z'
     subst hb
     exact ⟨ha,by rw [length_map]; exact hl,vs,_,rv,ha⟩
    ·have z':=((if_neg hp).trans (if_neg hb)).symm.trans z
     cases z'
  ·by_cases hp:b=P0
   ·exact .inr hp
   ·by_cases hb:b=a
    ·exact .inl hb
    ·exact absurd ((if_neg hp).trans (if_neg hb)) z
theorem walk_ofT {l:PySem.W.OpenLaw} {n k:Nat} {q:Program} {loose:List Str} {XP:(Str->Option Value)->Heap->Prop} {YP:World->Heap->Prop} {d dt:DefRec} {K:Params->Frag} {CX:World->CXT} {sp:World->Sp} {x y:Str} {c0 P0:Addr}
  (hn:l.most=some n) (hn2:n<=sizeLine) (hdf:d.params.defaults=[]) (hr:nC k callerA)
  (hY:∀ (w:World) (h:Heap),YP w h->(K w.params).In h)
  (hrec:(recsOf q).find? (λe=>e.name == y)=some dt) (htab:∀ w:World,tabIn (K w.params) y=some (c0,P0)) (hKP:∀ w:World,(K w.params).lookup P0=none)
  (F:∀ (w:World) (mg:Str->Option Value) (fa:Addr) (h:Heap),(K w.params).In h->h.Ns mainGlobals mg->mg d.name=some (.ref fa)->
   ∃ fd:FuncData,(∀ (s:Shared) (u:Value),BindsTo s fd ⟨[u],[]⟩ [(x,u)])/\
    ∀ base:Heap,(K w.params).In base->base.Ns mainGlobals mg->BmB mg base->CodeHd base c0 P0->nk l.prog w (K w.params) mg base (CX w) k fa fd [x] (sp w))
  (hsp:∀ (w:World) (H:Hp) (a:Addr) (ns:List Int),ns.length<=n->H P0=some (.tbl #[])->SqL (K w.params) H a (ns.map V.int)->sp w [.ref a] H (λv _=>v=.bl true) λ_ _ _=>False)
  (hCX:∀ (w:World) (H:Hp) (s:Shared) (e:Value) (s':Shared),CX w [] H s (λ_ _ _=>False) e s'->False) :
  PySem.W.WalkO q loose XP YP l.row.toRowW d [] (λf vs=>PySem.call f vs):=by
 refine Att.attach_call hn hdf λw s₀ s₁ mg mb fa o pm cd doc a vs ns G Y ho hd hcd hmg hobj hints hlen hg=>?_
 have KX:=hY w _ Y
 obtain ⟨fd,hb,hF⟩:=F w mg fa _ KX G.T.g hmg
 obtain ⟨C0,hP0⟩:=PySem.W.tab_of G.T KX hrec (htab w)
 have hbm:BmB mg s₁.heap:=by
  obtain ⟨bm,ob,b1,b2,b3,b4,b5,b6⟩:=G.T.bmain
  refine ⟨bm,ob,b1,b2,λq=>?_,b3,b4,b5,b6⟩
  obtain ⟨o,es,ep,e,hd,_⟩:=G.T.g
  rw [q,e] at b3; cases b3; rw [hd] at b6; cases b6
 exact law_callT KX G.T.g G.T.b G.T.builtins G.T.nolimit hg hobj hints (Nat.le_trans hlen hn2) hr C0 hP0 (hKP w) hbm hF hb (λH hO hS=>hsp w H a ns hlen hO hS) λH e s'=>hCX w H s₁ e s'
theorem lam_run {P:Program} {w:World} {K:Frag} {mg:Str->Option Value} {base:Heap} {k:Nat} {f c':Addr} {name qual:Str} {params:Arguments} {body:Expr} {scope:Scope} {pm ctv:Value} {N ps:List Str} {A:Around} {outer:List Env} {s:Shared} {H:Hp} {args:Args} {us:List Value} {vs:List V} {Q:VK} {E:XK}
  (ho:s.heap.get? f=some (kla_obj name qual params body scope [] pm c' ctv)) (hcd:s.heap.CodeRec (.ref c') qual) (S:mZ N ps scope) (hr:nC (k+1) A) (e0:Env0 P w K mg base A outer s H)
  (hb:BindsTo s (PySem.W.kla_fn name qual params body scope [] pm (.ref c') ctv) args (ps.zip us)) (r:ni vs us) (hl:vs.length=ps.length)
  (hbody:nC k (A.deeper (envOfC qual scope s.heap.objs.size f (.ref c')))->∃ t,PE (bR CX0 P w K mg base N qual scope f (.ref c') A outer s H E) body t/\t (bS N vs) H Q) :
  codeAny (model P w) A (.call (.ref f) args) (CR CX0 outer P w H s Q E) s:=by
 have lim:s.heap.NoLimit:=e0.mod.nolimit.keeps λb o e=>(e0.bs b o e).1
 have hkind:∀ y ∈ ps.zip us,scope.names.lookup y.1=some .local\/(scope.names.lookup y.1=some .cell/\((cellsFrom (s.heap.objs.size+1) scope.names []).lookup y.1).isSome=true):=λ⟨n,v⟩ hy=>by
  rcases S.par n (of_mem_zip hy).1 with q | q
  ·exact .inl q
  ·exact .inr ⟨q,PySem.W.cellsFrom_some _ _ _ (.inl q)⟩
 refine PySem.W.kla_callFunE hr.depth ho rfl S.co S.gen rfl hcd (hb _ _ _ _ ?_)
 refine wpAny_newFunctionEnv_cells S.kind hkind λenv he s1 x=>?_
 subst he
 refine ⟨lim.keeps x.toInCall.keep,PySem.W.kla_codeExpr ?_⟩
 obtain ⟨t,ht,hq⟩:=hbody (hr.deeper _)
 have I:Inv (bR CX0 P w K mg base N qual scope f (.ref c') A outer s H E) [] (bS N vs) H s1:=lh S hr.hd e0 hl r x
 refine wpAny_mono (ht [] s1 (bS N vs) H _ I hq) (λu s' hs=>?_) λe s' hs=>hs
 obtain ⟨v,H',J,rv,q⟩:=hs
 exact ⟨v,H',J.os,J.bare,J.base,J.hok,rv,q⟩
section
variable {X:Cx} {pins:List (Addr × Obj)} {σ:St} {H:Hp} {s:Shared} {h':Heap}
theorem Inv.grow {P0 c':Addr} {ps more:Array Value} {t':Nat} {o':HO} (I:Inv X pins σ H s) (hT:H P0=some (.tbl ps)) (hx:Heap.ExtBut P0 s.heap h') (hP':h'.get? P0=some (tabObj (ps++more))) (hge:s.heap.objs.size<=c') (new:∀ H',ny X.prog X.w H' h' c' o') :
  Inv X pins σ (upd (upd H P0 (.tbl (ps++more))) c' o') { s with heap:=h',toks:=t' }:=by
 have nc:H c'=none:=I.hok.fresh hge
 have nP:∀ {b:Addr},H b=none->b ≠ P0:=λn z=>by rw [z,hT] at n; cases n
 have cP:P0 ≠ c':=λz=>by rw [<- z,hT] at nc; cases nc
 have oth:∀ {b:Addr} {u:HO},H b=some u->(∀ ps,u ≠ .tbl ps)->upd (upd H P0 (.tbl (ps++more))) c' o' b=some u:=λ{b u} e n=>by
  rw [am (ah e nc),am (λz=>by rw [z,hT] at e; cases e; exact n _ rfl)]
  exact e
 have old:∀ {b:Addr} {o:Obj},s.heap.get? b=some o->b ≠ c':=λe=>Nat.ne_of_lt (Nat.lt_of_lt_of_le (lt_size e) hge)
 refine I.un ⟨λb o e n _ _=>hx b o (nP n) e,λb o e n _ _=>⟨o.slots,hx b o (nP n) e⟩,λb o e n _=>by rw [am (old e),am (nP n)]; exact n,λb o e _=>?_,λb xs e=>oth e (λ_ z=>by cases z),λb o u e=>oth e (λ_ z=>by cases z),λb qs e=>?_⟩ λb u e=>?_
 ·by_cases z:b=P0
  ·rw [z]; exact ⟨_,hP'⟩
  ·exact ⟨o,hx b o z e⟩
 ·by_cases z:b=P0
  ·subst z
   rw [hT] at e
   cases e
   exact ⟨more,by rw [am cP]; exact ac⟩
  ·exact ⟨#[],by rw [am (ah e nc),am z,e]; simp⟩
 ·by_cases zc:b=c'
  ·subst zc
   rw [ac] at e
   cases e
   exact new _
  rw [am zc] at e
  by_cases z:b=P0
  ·subst z
   rw [ac] at e
   cases e
   exact hP'
  ·rw [am z] at e
   refine (I.hok b u e).stay (λc v hc q=>hx c v ?_ q) (λc q=>oth q (λ_ z=>by cases z)) λc xs q=>oth q (λ_ z=>by cases z)
   rcases hc with rfl | hc
   ·exact z
   ·rintro rfl
    rw [hT] at hc
    cases hc
end
def cU (c:Addr) (qual:Str):HO:=.ext λh=>h.CodeRec (.ref c) qual
theorem codeO_ok {P:Program} {w:World} {H:Hp} {h:Heap} {c:Addr} {qual:Str} (x:h.CodeRec (.ref c) qual):ny P w H h c (cU c qual):=by
 refine ⟨x,?_,λh1 h2 q k=>?_⟩
 ·obtain ⟨c',oc,vs,t,e,h1,_⟩:=x
  cases e
  exact ⟨_,h1⟩
 ·obtain ⟨c',oc,vs,t,e,h1,r⟩:=q
  cases e
  exact ⟨c,oc,vs,t,rfl,k _ h1,r⟩
def objO (a:Addr) (o:Obj):HO:=.ext λh=>h.get? a=some o
theorem objO_ok {P:Program} {w:World} {H:Hp} {h:Heap} {a:Addr} {o:Obj} (x:h.get? a=some o):ny P w H h a (objO a o):=⟨x,⟨_,x⟩,λ_ _ q k=>k _ q⟩
def oN (H:Hp) (P0:Addr) (lpos:Pos) (qual:Str):Prop:=∃ ps,H P0=some (.tbl ps)/\PySem.TriplesOk ps.toList/\(codeAmong lpos ps.toList=none\/∃ c',codeAmong lpos ps.toList=some (.ref c')/\H c'=some (cU c' qual))
theorem iI {c:Value} {pos:Pos}:∀ {l:List Value},TriplesOk l->codeAmong pos l=none->TriplesOk (l++[rawInt pos.line,rawInt pos.col,c])/\codeAmong pos (l++[rawInt pos.line,rawInt pos.col,c])=some c
 | [],_,_=>by
  refine ⟨by simp [TriplesOk,rawInt],?_⟩
  simp [codeAmong,rawInt]
 | .int i t :: .int j u::x::r,h,e=>by
  have h':TriplesOk r:=h
  have e2:(if i == pos.line && j == pos.col then some x else codeAmong pos r)=none:=e
  have e':codeAmong pos r=none/\(i == pos.line && j == pos.col)=false:=by
   split at e2
   ·cases e2
   ·rename_i z
    exact ⟨e2,by simpa using z⟩
  obtain ⟨a,b⟩:=iI (c:=c) h' e'.1
  refine ⟨a,?_⟩
  show (if i == pos.line && j == pos.col then some x else codeAmong pos (r++[rawInt pos.line,rawInt pos.col,c]))=some c
  rw [e'.2]
  exact b
section
variable {X:Cx} {pins:List (Addr × Obj)} {σ:St} {H:Hp} {s:Shared}
theorem lam_make {P0 c0:Addr} {params:Arguments} {body:Expr} {scope:Scope} {lpos:Pos} {A:Around} {E:Value->Shared->Prop} {Q:Value->Shared->Prop} (I:Inv X pins σ H s) (hcode:X.env.code=.ref c0) (hC:CodeHd X.base c0 P0) (hB:BmB X.mg X.base)
  (hdef:defaultsOf params X.env=([],[])) (hcl:closureFor scope X.env=pure []) (hT:oN H P0 lpos (X.env.qual ++ "<lambda>"))
  (h:∀ (c' f:Addr) (pm ctv:Value) (H':Hp) (s':Shared),Inv X pins σ H' s'->oN H' P0 lpos (X.env.qual ++ "<lambda>")->H c'=none\/H' c'=H c'->H f=none->H' c'=some (cU c' (X.env.qual ++ "<lambda>"))->H' f=some (objO f (kla_obj "<lambda>" (X.env.qual ++ "<lambda>") params body scope [] pm c' ctv))->(∀ c o,H c=some o->c ≠ P0->H' c=some o)->Q (.ref f) s') :
  wpAny (model X.prog X.w) A (eval (.Lambda params body scope lpos) X.env) Q E s:=by
 obtain ⟨ps,hP,ht,hc⟩:=hT
 have hP1:s.heap.get? P0=some (tabObj ps):=I.hok P0 _ hP
 have hg:s.heap.Ns mainGlobals X.mg:=by
  obtain ⟨o,es,ep,e,d,r⟩:=I.ok.mod.glob
  exact ⟨o,es,ep,I.bk _ _ e,d,r⟩
 have nP:∀ {b:Addr} {o:Obj},X.base.get? b=some o->b ≠ P0:=λe z=>by
  have n:=(I.bs _ _ e).2
  rw [z,hP] at n
  cases n
 have hgP:mainGlobals ≠ P0:=by
  obtain ⟨o,es,ep,e,_⟩:=I.ok.mod.glob
  exact nP e
 have hb:s.heap.BuiltinsAt X.mg P0:=by
  obtain ⟨bm,o,b1,b2,b3,b4,b5,b6,b7⟩:=hB
  exact ⟨bm,o,b1,b2,b3,nP b4,I.bk _ _ b4,b5,b6,b7⟩
 refine PySem.W.kla_eval hdef ?_
 rcases hc with hc | ⟨c',hc,hc'⟩
 ·refine PySem.W.kla_makeFunction (mg:=X.mg) hcl I.ok.glob hg hcode (hC.keeps I.bk) hP1 ht hc hgP hb λc' ctv h' tk hx hge hlt hrec htb=>?_
  have nc:H c'=none:=I.hok.fresh hge
  have cP:c' ≠ P0:=λz=>by rw [z,hP] at nc; cases nc
  have I1:Inv X pins σ (upd (upd H P0 (.tbl (ps ++ #[rawInt lpos.line,rawInt lpos.col,.ref c']))) c' (cU c' (X.env.qual ++ "<lambda>"))) { s with heap:=h',toks:=tk }:=I.grow hP hx htb hge λ_=>codeO_ok hrec
  have hP1':(upd (upd H P0 (.tbl (ps ++ #[rawInt lpos.line,rawInt lpos.col,.ref c']))) c' (cU c' (X.env.qual ++ "<lambda>"))) P0=some (.tbl (ps ++ #[rawInt lpos.line,rawInt lpos.col,.ref c'])):=by rw [am cP.symm]; exact ac
  have hc1:(upd (upd H P0 (.tbl (ps ++ #[rawInt lpos.line,rawInt lpos.col,.ref c']))) c' (cU c' (X.env.qual ++ "<lambda>"))) c'=some (cU c' (X.env.qual ++ "<lambda>")):=ac
  have k1:∀ c o,H c=some o->c ≠ P0->(upd (upd H P0 (.tbl (ps ++ #[rawInt lpos.line,rawInt lpos.col,.ref c']))) c' (cU c' (X.env.qual ++ "<lambda>"))) c=some o:=λc o e n=>by rw [am (ah e nc),am n]; exact e
  have n1:(upd (upd H P0 (.tbl (ps ++ #[rawInt lpos.line,rawInt lpos.col,.ref c']))) c' (cU c' (X.env.qual ++ "<lambda>"))) h'.objs.size=none:=I1.hok.fresh (Nat.le_refl _)
  generalize upd (upd H P0 (.tbl (ps ++ #[rawInt lpos.line,rawInt lpos.col,.ref c']))) c' (cU c' (X.env.qual ++ "<lambda>"))=H1 at *
  have nf:H h'.objs.size=none:=by
   cases e:H h'.objs.size with
   | none=>rfl
   | some o=>
    by_cases z:h'.objs.size=P0
    ·rw [z,hP1'] at n1; cases n1
    ·rw [k1 _ _ e z] at n1; cases n1
  have keep:∀ c o,H1 c=some o->upd H1 h'.objs.size (objO h'.objs.size (kla_obj "<lambda>" (X.env.qual ++ "<lambda>") params body scope [] ((X.mg "__name__").getD .none) c' ctv)) c=some o:=λc o e=>by rw [am (ah e n1)]; exact e
  obtain ⟨t2,a2⟩:=iI (c:=.ref c') (pos:=lpos) ht hc
  refine h c' h'.objs.size _ ctv (upd H1 h'.objs.size (objO h'.objs.size (kla_obj "<lambda>" (X.env.qual ++ "<lambda>") params body scope [] ((X.mg "__name__").getD .none) c' ctv))) _ ?_ ⟨_,keep _ _ hP1',by simpa using t2,.inr ⟨c',by simpa using a2,keep _ _ hc1⟩⟩ (.inl nc) nf (keep _ _ hc1) ac λc o e n=>keep c o (k1 c o e n)
  exact I1.laid (t':=tk) (λb u e=>get?_push_of_some _ e) (Nat.le_refl _) (objO_ok (get?_push_size _ rfl))
 ·refine PySem.W.kla_makeFunctionHit (mg:=X.mg) hcl I.ok.glob hg hcode (hC.keeps I.bk) hP1 ht hc hb λctv h' tk hk hsz=>?_
  have nf:H h'.objs.size=none:=I.hok.fresh hsz
  have fP:h'.objs.size ≠ P0:=λz=>by rw [z,hP] at nf; cases nf
  have keep:∀ c o,H c=some o->upd H h'.objs.size (objO h'.objs.size (kla_obj "<lambda>" (X.env.qual ++ "<lambda>") params body scope [] ((X.mg "__name__").getD .none) c' ctv)) c=some o:=λc o e=>by rw [am (ah e nf)]; exact e
  refine h c' h'.objs.size _ ctv (upd H h'.objs.size (objO h'.objs.size (kla_obj "<lambda>" (X.env.qual ++ "<lambda>") params body scope [] ((X.mg "__name__").getD .none) c' ctv))) _ ?_ ⟨ps,keep _ _ hP,ht,.inr ⟨c',hc,keep _ _ hc'⟩⟩ ?_ nf (keep _ _ hc') ac λc o e _=>keep c o e
  ·exact I.laid (t':=tk) (λb u e=>get?_push_of_some _ (hk b u e)) hsz (objO_ok (get?_push_size _ rfl))
  ·exact .inr ((keep _ _ hc').trans hc'.symm)
end
end L2
namespace L2
open PySem PySem.Spec PyProof.Rows PySem.W
def tgt (k j:List Int × Int):Bool:=if k.1=j.1 then gtI k.2 j.2 else kD k.1 j.1
def KeyT (K:Frag) (H:Hp) (z:V) (k:List Int × Int):Prop:=∃ t a,z=.ref t/\SqT K H t [.ref a,.int k.2]/\SqT K H a (k.1.map V.int)
theorem KeyT.same {K:Frag} {H H':Hp} {z:V} {k:List Int × Int} (s:mY H H') (h:KeyT K H z k):KeyT K H' z k:=by
 obtain ⟨t,a,e,h1,h2⟩:=h
 exact ⟨t,a,e,s.sqT h1,s.sqT h2⟩
section
variable {X:Cx} {pins:List (Addr × Obj)} {σ:St} {H:Hp} {s:Shared}
theorem rc_keys {A:Around} {z1 z2:V} {u1 u2:Value} {k j:List Int × Int} (I:Inv X pins σ H s) (hu:A.units+80<cLine) (h1:KeyT X.K H z1 k) (h2:KeyT X.K H z2 j) (r1:m8 z1 u1) (r2:m8 z2 u2):RcO .Gt A s u1 u2 (tgt k j):=by
 obtain ⟨a,ta,rfl,ha,hta⟩:=h1
 obtain ⟨b,tb,rfl,hb,htb⟩:=h2
 obtain ⟨ns,m⟩:=k
 obtain ⟨ms,n⟩:=j
 cases r1
 cases r2
 obtain ⟨its,r1,p1,_⟩:=I.tuple ha
 obtain ⟨its2,r2,p2,_⟩:=I.tuple hb
 obtain ⟨jts,r3,p3,_⟩:=I.tuple hta
 obtain ⟨jts2,r4,p4,_⟩:=I.tuple htb
 have e3:=r3.length
 have e4:=r4.length
 rw [length_map] at e3 e4
 obtain ⟨u1,u2,rfl,q1,q2⟩:=kT r1
 obtain ⟨w1,w2,rfl,q3,q4⟩:=kT r2
 obtain ⟨t1,rfl⟩:=(show ∃ t,u2=Value.int m t from q2)
 obtain ⟨t3,rfl⟩:=(show ∃ t,w2=Value.int n t from q4)
 cases (show u1=Value.ref ta from q1)
 cases (show w1=Value.ref tb from q3)
 have hu0:A.units<cLine:=by omega
 have hu1:A.in1.units<cLine:=by show A.units+1<cLine; omega
 have hu2:A.in1.units+64<cLine:=by show A.units+1+64<cLine; omega
 have eqr:SeqAt.EqAt A.in1 s (.ref ta) (.ref tb) (decide (ns=ms)):=by
  by_cases hab:ta=tb
  ·subst hab
   have e:=I.tuple_inj hta htb
   have e':ns=ms:=jQ e
   rw [decide_eq_true e']
   exact SeqAt.EqAt.same _
  ·refine SeqAt.EqAt.of_refs hab λprog w E Q' hq=>?_
   obtain ⟨as,ra⟩:=(dM hta).reads I rfl
   obtain ⟨bs,rb⟩:=(dM htb).reads I rfl
   exact eq_dataH ra rb (bL _) (bL _) hu2 (by rw [jS]; exact hq)
 have gt2:RcO .Gt A.in1 s (.ref ta) (.ref tb) (kD ns ms):=by
  have z:=rc_gt (show s.heap.IsTuple ta jts.toArray from p3) (show s.heap.IsTuple tb jts2.toArray from p4) hu1 (kZ (ns:=ns) (ms:=ms) (λ_ _ _ _=>rcGt_int _ _ _ _ _ _) (by simpa using r3) (by simpa using r4))
  rw [size_toArray,size_toArray,<- e3,<- e4] at z
  exact z
 have ck:lT .Gt A.in1 s [.ref ta,.int m t1] [.ref tb,.int n t3] [(decide (ns=ms),kD ns ms),(m == n,gtI m n)]:=
  .cons eqr (λ_=>gt2) (.cons (SeqAt.EqAt.int_int m t1 n t3) (λ_=>rcGt_int _ _ _ _ _ _) (.nil _))
 have z:=rc_gt (show s.heap.IsTuple a _ from p1) (show s.heap.IsTuple b _ from p2) hu0 ck
 have e:mw [(decide (ns=ms),kD ns ms),(m == n,gtI m n)] (decide (#[Value.ref ta,.int m t1].size > #[Value.ref tb,.int n t3].size))=tgt (ns,m) (ms,n):=by
  unfold tgt
  by_cases h2:ns=ms
  ·rw [if_pos h2,decide_eq_true h2]
   by_cases h1:m=n
   ·rw [show (m == n)=true by simpa using h1]
    subst h1
    unfold gtI
    rw [decide_eq_false (Int.lt_irrefl m)]
    rfl
   ·rw [show (m == n)=false by simpa using h1]
    rfl
  ·rw [if_neg h2,decide_eq_false h2]
   rfl
 rw [<- e]
 exact z
end
def KeyL (X:Cx) (σ:St) (A:Around) (f:Value) (H0:Hp) (xs:List V) (key:V->List Int × Int):Prop:=
 ∀ (pins:List (Addr × Obj)) (x:V),x ∈ xs->∀ (u:Value) (H1:Hp) (s1:Shared),m8 x u->Inv X pins σ H1 s1->mY H0 H1->
  wpAny (model X.prog X.w) A (call f [u]) (λv s2=>∃ z H2,Inv X pins σ H2 s2/\m8 z v/\mY H1 H2/\KeyT X.K H2 z (key x)) (λ_ _=>False) s1
def btK (xs:List V) (key:V->List Int × Int) (i j:Nat):Bool:=tgt (key (xs.getD i .non)) (key (xs.getD j .non))
theorem Inv.pin1 {X:Cx} {pins:List (Addr × Obj)} {σ:St} {H:Hp} {s:Shared} {a:Addr} {o:Obj} (I:Inv X pins σ H s) (f:nI X pins H a) (e:s.heap.get? a=some o) (n:∀ v,o.data ≠ .cell v):Inv X ((a,o)::pins) σ H s:=
 I.pins_of λp hp=>by
  rcases List.mem_cons.mp hp with rfl | hp
  ·exact ⟨e,f.1,f.2.1,f.2.2.1,n⟩
  ·exact I.pin p (mem_append_right _ hp)
theorem Inv.unpin {X:Cx} {pins:List (Addr × Obj)} {σ:St} {H:Hp} {s:Shared} {q:Addr × Obj} (I:Inv X (q::pins) σ H s):Inv X pins σ H s:=
 I.pins_of λp hp=>I.pin p (mem_append_right _ (mem_cons_of_mem _ hp))
theorem nI.at {X:Cx} {pins:List (Addr × Obj)} {H H':Hp} {b:Addr} (f:nI X pins H b) (n:H' b=none):nI X pins H' b:=⟨n,f.2⟩
theorem nI.cons {X:Cx} {pins:List (Addr × Obj)} {H:Hp} {b:Addr} {q:Addr × Obj} (f:nI X pins H b) (n:q.1 ≠ b):nI X (q::pins) H b:=⟨f.1,f.2.1,f.2.2.1,f.2.2.2.1,f.2.2.2.2.1,λp hp=>by
 rcases List.mem_append.mp hp with z | z
 ·exact f.2.2.2.2.2 p (mem_append_left _ z)
 ·rcases List.mem_cons.mp z with rfl | z
  ·exact n
  ·exact f.2.2.2.2.2 p (mem_append_right _ z)⟩
section
variable {X:Cx} {pins:List (Addr × Obj)} {σ:St} {A:Around} {H0:Hp} {l q It S:Addr} {xs:List V} {key:V->List Int × Int} {R:Result->Shared->Prop}
theorem maxk_loop (hc:X.calm=true) (hh:A.in1.handled=none) (hu:A.in1.units+80<cLine) (hl:SqL X.K H0 l xs) (KF:KeyL X σ A.in1 (.ref q) H0 xs key) (hIS:S ≠ It)
  (hR:∀ x u H' s',xs[argBest (btK xs key) (xs.length-1)]? = some x->m8 x u->Inv X pins σ H' s'->mY H0 H'->R (.ok (.ret u)) s') :
  ∀ (r j:Nat) (H:Hp) (s:Shared) (x zk:V) (ub kb:Value) (c:Nat),xs.length-(j+1)=r->j+1<=xs.length->Inv X pins σ H s->mY H0 H->nI X pins H It->nI X pins H S->s.heap.IsListIter It l (j+1)->s.heap.get? S=some (seqObj "list" #[ub,kb] c)->
   xs[argBest (btK xs key) j]? = some x->m8 x ub->KeyT X.K H zk (key x)->m8 zk kb->
   codeAny (model X.prog X.w) A (.builtin "max.loop" ⟨[.ref It,.ref q,.ref S],[]⟩) R s:=by
 have hname:(toString "max" ++ toString ".loop" : String) = "max.loop":=by decide
 intro r
 induction r with
 | zero=>
  intro j H s x zk ub kb c hr hj I sm fI fS hit hS hb rb hk rk
  have hin:j+1=xs.length:=by omega
  obtain ⟨its,rv,p,hz⟩:=I.list (sm.seq hl)
  have lits:its.length=xs.length:=rv.length.symm
  refine codeAny_builtin PySem.F.entry_max_loop ?_
  rw [Around.under_plainId PySem.F.plain_max_loop _]
  show wpAny _ A.in1 (seqItems? (.ref S) >>= _) _ _ _
  refine wpAny_bind (wpAny_seqItems hS rfl ?_)
  show wpAny _ A.in1 (tryCatch (pyNext (.ref It)) _ >>= _) _ _ _
  refine wpAny_bind (wpAny_tryCatch (wpAny_pyNext_list_end hh hit p.isList (by simp; omega) λh' eb=>?_))
  have I1:Inv X pins σ H { s with heap:=h' }:=I.turned (t':=s.toks) (λb o hb e=>eb b o hb e) fI.1 fI.2.1 fI.2.2.2.1 fI.2.2.2.2.1 fI.2.2.2.2.2
  have hS':=eb S _ hIS hS
  show wpAny _ A.in1 (updateSeq S (λ_=>#[]) >>= _) _ _ _
  refine wpAny_bind ?_
  refine wpAny_updateSeq hS' rfl (wpAny_bind (wpAny_letGo (wpAny_pure ?_)))
  exact hR x ub H _ (by rw [show xs.length-1=j by omega]; exact hb) rb (I1.turnedN (t':=s.toks) (fp:=[S]) (λb o hb e=>(get?_update_other _ _ (λz=>hb (by rw [z]; exact mem_singleton_self _))).trans e) λb hb=>by rw [List.mem_singleton.mp hb]; exact fS) sm
 | succ r ih=>
  intro j H s x zk ub kb c hr hj I sm fI fS hit hS hb rb hk rk
  have hlt:j+1<xs.length:=by omega
  obtain ⟨its,rv,p,hz⟩:=I.list (sm.seq hl)
  obtain ⟨x',hx'⟩:∃ x',xs[j+1]? = some x':=⟨_,getElem?_eq_getElem hlt⟩
  obtain ⟨u,hu',ru⟩:=rv.get hx'
  refine codeAny_builtin PySem.F.entry_max_loop ?_
  rw [Around.under_plainId PySem.F.plain_max_loop _]
  show wpAny _ A.in1 (seqItems? (.ref S) >>= _) _ _ _
  refine wpAny_bind (wpAny_seqItems hS rfl ?_)
  show wpAny _ A.in1 (tryCatch (pyNext (.ref It)) _ >>= _) _ _ _
  refine wpAny_bind (wpAny_tryCatch (wpAny_pyNext_list_item hit p.isList (x:=u) (by simpa using hu') λh' st' sb=>?_))
  have I1:Inv X pins σ H { s with heap:=h' }:=I.turned (t':=s.toks) (λb o hb e=>(sb.2 b hb).trans e) fI.1 fI.2.1 fI.2.2.2.1 fI.2.2.2.2.1 fI.2.2.2.2.2
  have hS1:h'.get? S=some (seqObj "list" #[ub,kb] c):=(sb.2 S hIS).trans hS
  obtain ⟨oI,hoI,hoc,hod⟩:=id st'
  have I2:Inv X ((It,oI)::(S,seqObj "list" #[ub,kb] c)::pins) σ H { s with heap:=h' }:=(I1.pin1 fS hS1 (λv z=>by cases z)).pin1 (fI.cons hIS) hoI (λv z=>by rw [hod] at z; cases z)
  show wpAny _ A.in1 (tryCatch (holding [u] (call (.ref q) [u])) _ >>= _) _ _ _
  refine wpAny_bind (wpAny_tryCatch (wpAny_holding (wpAny_mono (KF _ x' (mem_of_getElem? hx') u H _ ru I2 sm) (λv s2 he=>?_) λ_ _ hF=>hF.elim)))
  obtain ⟨z,H2,J,rz,s12,kz⟩:=he
  have pI:=J.pin (It,oI) (mem_append_right _ (.head _))
  have pS:=J.pin (S,seqObj "list" #[ub,kb] c) (mem_append_right _ (.tail _ (.head _)))
  have J:=J.unpin.unpin
  have sm2:=sm.trans s12
  have fI2:nI X pins H2 It:=fI.at pI.2.1
  have fS2:nI X pins H2 S:=fS.at pS.2.1
  have it2:s2.heap.IsListIter It l (j+1+1):=⟨oI,pI.1,hoc,hod⟩
  show wpAny _ A.in1 (tryCatch (holding [u,v] (richCompare .Gt v kb >>= _)) _ >>= _) _ _ _
  refine wpAny_bind (wpAny_tryCatch (wpAny_holding (wpAny_bind (rc_keys J hu kz (hk.same s12) rz rk _ _ _ _ ?_))))
  refine wpAny_bind (wpAny_holding (wpAny_truthy_bool ?_))
  refine wpAny_bind (wpAny_letGo (wpAny_pure ?_))
  have ebt:btK xs key (j+1) (argBest (btK xs key) j)=tgt (key x') (key x):=by
   show tgt (key (xs.getD (j+1) .non)) (key (xs.getD (argBest (btK xs key) j) .non))=_
   rw [getD_eq_getElem?_getD,getD_eq_getElem?_getD,hx',hb]
   rfl
  have eb:argBest (btK xs key) (j+1)=if tgt (key x') (key x)=true then j+1 else argBest (btK xs key) j:=by
   show (if btK xs key (j+1) (argBest (btK xs key) j)=true then _ else _)=_
   rw [ebt]
  cases hg:tgt (key x') (key x) with
  | true=>
   rw [hg] at eb
   simp only [if_true]
   refine wpAny_bind ?_
   refine wpAny_updateSeq pS.1 rfl (wpAny_bind (wpAny_letGo ?_))
   rw [hname]
   refine wpAny_pure ⟨plainId_quiet PySem.F.plain_max_loop _,?_⟩
   refine ih (j+1) H2 _ x' z u v _ (by omega) hlt (J.turnedN (t':=s2.toks) (fp:=[S]) (λb o hb e=>(get?_update_other _ _ (λz=>hb (by rw [z]; exact mem_singleton_self _))).trans e) λb hb=>by rw [List.mem_singleton.mp hb]; exact fS2) sm2 fI2 fS2 ⟨oI,(get?_update_other _ _ hIS).trans pI.1,hoc,hod⟩ (get?_update_seq pS.1 λ_=>#[u,v]) (by rw [eb]; exact hx') ru kz rz
  | false=>
   rw [hg] at eb
   simp only [Bool.false_eq_true,if_false]
   refine wpAny_bind (wpAny_letGo ?_)
   rw [hname]
   exact wpAny_pure ⟨plainId_quiet PySem.F.plain_max_loop _,ih (j+1) H2 s2 x zk ub kb c (by omega) hlt J sm2 fI2 fS2 it2 pS.1 (by rw [eb]; exact hb) rb (hk.same s12) rk⟩
theorem mV (a v:Value):argsOk "max" ⟨[a],[(Str.ofString "key",v)]⟩:=by unfold argsOk; kernel_rfl
theorem call_maxk {H:Hp} {s:Shared} {E:Value->Shared->Prop} {Q:Value->Shared->Prop} (hc:X.calm=true) (hh:A.in1.handled=none) (hu:A.in1.units+80<cLine) (I:Inv X pins σ H s) (hl:SqL X.K H l xs) (hne:0<xs.length) (KF:KeyL X σ A.in1 (.ref q) H xs key)
  (hQ:∀ x u H' s',xs[argBest (btK xs key) (xs.length-1)]? = some x->m8 x u->Inv X pins σ H' s'->mY H H'->Q u s') :
  wpAny (model X.prog X.w) A (call (.builtin "max") [.ref l] [(Str.ofString "key",.ref q)]) Q E s:=by
 have hname:(toString "max" ++ toString ".loop" : String) = "max.loop":=by decide
 obtain ⟨its,rv,p,hz⟩:=I.list hl
 obtain ⟨x0,hx0⟩:∃ x',xs[0]? = some x':=⟨_,getElem?_eq_getElem hne⟩
 obtain ⟨u0,hu0,ru0⟩:=rv.get hx0
 refine kmk_tree PySem.F.kind_max PySem.F.plain_max PySem.F.entry_max (mV _ _) ?_
 show wpAny _ A.in1 (Builtin.Builtins.bindParams "max" ["key", "default"] 0 ⟨[],[(Str.ofString "key",.ref q)]⟩ >>= _) _ _ s
 refine wpAny_bind (wpAny_of_eq (show Builtin.Builtins.bindParams "max" ["key", "default"] 0 ⟨[],[(Str.ofString "key",.ref q)]⟩=pure [some (.ref q),none] from rfl) ?_)
 refine wpAny_bind (wpAny_pure ?_)
 refine wpAny_bind (wpAny_pyIter_list p.isList ?_)
 refine wpAny_bind (wpAny_newList ?_ (Nat.zero_le _))
 rw [hname]
 refine wpAny_pure ⟨plainId_quiet PySem.F.plain_max_loop _,?_⟩
 have k1:∀ b o,s.heap.get? b=some o->((s.heap.push { cls:=.type "list_iterator",data:=.fields #[.ref l,.int 0 0] }).push (seqObj "list" #[] 0)).get? b=some o:=λb o e=>get?_push_of_some _ (get?_push_of_some _ e)
 have sz1:s.heap.objs.size<=(s.heap.push { cls:=.type "list_iterator",data:=.fields #[.ref l,.int 0 0] }).objs.size:=by rw [size_push]; omega
 have fI:nI X pins H s.heap.objs.size:=I.fpOk (Nat.le_refl _) (I.hok.fresh (Nat.le_refl _))
 have fS:nI X pins H (s.heap.push { cls:=.type "list_iterator",data:=.fields #[.ref l,.int 0 0] }).objs.size:=I.fpOk sz1 (I.hok.fresh sz1)
 have hIS:(s.heap.push { cls:=.type "list_iterator",data:=.fields #[.ref l,.int 0 0] }).objs.size ≠ s.heap.objs.size:=by rw [size_push]; omega
 have gI:((s.heap.push { cls:=.type "list_iterator",data:=.fields #[.ref l,.int 0 0] }).push (seqObj "list" #[] 0)).get? s.heap.objs.size=some { cls:=.type "list_iterator",data:=.fields #[.ref l,.int 0 0] }:=get?_push_of_some _ (get?_push_size _ rfl)
 have gS:((s.heap.push { cls:=.type "list_iterator",data:=.fields #[.ref l,.int 0 0] }).push (seqObj "list" #[] 0)).get? (s.heap.push { cls:=.type "list_iterator",data:=.fields #[.ref l,.int 0 0] }).objs.size=some (seqObj "list" #[] 0):=get?_push_size _ rfl
 have I0:Inv X pins σ H { s with heap:=(s.heap.push { cls:=.type "list_iterator",data:=.fields #[.ref l,.int 0 0] }).push (seqObj "list" #[] 0) }:=I.kept (t':=s.toks) k1
 generalize (s.heap.push { cls:=.type "list_iterator",data:=.fields #[.ref l,.int 0 0] }).push (seqObj "list" #[] 0)=h1 at *
 generalize (s.heap.push { cls:=.type "list_iterator",data:=.fields #[.ref l,.int 0 0] }).objs.size=S at *
 generalize s.heap.objs.size=It at *
 obtain ⟨its1,rv1,p1,_⟩:=I0.list hl
 obtain ⟨u1,hu1,ru1⟩:=rv1.get hx0
 refine codeAny_builtin PySem.F.entry_max_loop ?_
 rw [Around.under_plainId PySem.F.plain_max_loop _]
 show wpAny _ A.in1 (seqItems? (.ref S) >>= _) _ _ _
 refine wpAny_bind (wpAny_seqItems gS rfl ?_)
 show wpAny _ A.in1 (tryCatch (pyNext (.ref It)) _ >>= _) _ _ _
 refine wpAny_bind (wpAny_tryCatch (wpAny_pyNext_list_item (i:=0) ⟨_,gI,rfl,rfl⟩ p1.isList (x:=u1) (by simpa using hu1) λh' st' sb=>?_))
 have I1:Inv X pins σ H { s with heap:=h' }:=I0.turned (t':=s.toks) (λb o hb e=>(sb.2 b hb).trans e) fI.1 fI.2.1 fI.2.2.2.1 fI.2.2.2.2.1 fI.2.2.2.2.2
 have hS1:h'.get? S=some (seqObj "list" #[] 0):=(sb.2 S hIS).trans gS
 obtain ⟨oI,hoI,hoc,hod⟩:=id st'
 have I2:Inv X ((It,oI)::(S,seqObj "list" #[] 0)::pins) σ H { s with heap:=h' }:=(I1.pin1 fS hS1 (λv z=>by cases z)).pin1 (fI.cons hIS) hoI (λv z=>by rw [hod] at z; cases z)
 show wpAny _ A.in1 (tryCatch (holding [u1] (call (.ref q) [u1])) _ >>= _) _ _ _
 refine wpAny_bind (wpAny_tryCatch (wpAny_holding (wpAny_mono (KF _ x0 (mem_of_getElem? hx0) u1 H _ ru1 I2 (mY.refl H)) (λv s2 he=>?_) λ_ _ hF=>hF.elim)))
 obtain ⟨z,H2,J,rz,s12,kz⟩:=he
 have pI:=J.pin (It,oI) (mem_append_right _ (.head _))
 have pS:=J.pin (S,seqObj "list" #[] 0) (mem_append_right _ (.tail _ (.head _)))
 have J:=J.unpin.unpin
 show wpAny _ A.in1 (updateSeq S (λ_=>#[u1,v]) >>= _) _ _ _
 refine wpAny_bind ?_
 refine wpAny_updateSeq pS.1 rfl ?_
 rw [hname]
 refine wpAny_pure ⟨plainId_quiet PySem.F.plain_max_loop _,?_⟩
 exact maxk_loop hc hh hu hl KF hIS (λx u H' s' e1 e2 e3 e4=>hQ x u H' s' e1 e2 e3 e4) _ 0 H2 _ x0 z u1 v _ rfl hne (J.turnedN (t':=s2.toks) (fp:=[S]) (λb o hb e=>(get?_update_other _ _ (λz=>hb (by rw [z]; exact mem_singleton_self _))).trans e) λb hb=>by rw [List.mem_singleton.mp hb]; exact fS.at pS.2.1) s12 (fI.at pI.2.1) (fS.at pS.2.1) ⟨oI,(get?_update_other _ _ hIS).trans pI.1,hoc,hod⟩ (get?_update_seq pS.1 λ_=>#[u1,v]) hx0 ru1 kz rz
end
def lamO (qual:Str) (params:Arguments) (body:Expr) (scope:Scope) (f c':Addr) (pm ctv:Value):HO:=objO f (kla_obj "<lambda>" qual params body scope [] pm c' ctv)
def tLam (P0:Addr) (lpos:Pos) (qual:Str) (params:Arguments) (body:Expr) (scope:Scope):TE:=λ_ H Q=>oN H P0 lpos qual/\
 ∀ (c' f:Addr) (pm ctv:Value) (H':Hp),oN H' P0 lpos qual->H f=none->H' c'=some (cU c' qual)->H' f=some (lamO qual params body scope f c' pm ctv)->(∀ c o,H c=some o->c ≠ P0->H' c=some o)->Q (.ref f) H'
section
variable {X:Cx} {p pos lpos kp:Pos} {e:Expr} {te:TE}
theorem pe_lam {P0 c0:Addr} {params:Arguments} {body:Expr} {scope:Scope} (hcode:X.env.code=.ref c0) (hC:CodeHd X.base c0 P0) (hB:BmB X.mg X.base) (hdef:defaultsOf params X.env=([],[]):=by rfl) (hcl:closureFor scope X.env=pure []:=by rfl) :
  PE X (.Lambda params body scope lpos) (tLam P0 lpos (X.env.qual ++ "<lambda>") params body scope):=by
 intro pins s σ H Q I h
 obtain ⟨hT,q⟩:=h
 exact lam_make I hcode hC hB hdef hcl hT λc' f pm ctv H' s' I' hT' _ nf hc' hf' k=>⟨.ref f,H',I',rfl,q c' f pm ctv H' hT' nf hc' hf' k⟩
theorem key_lam {pins0:List (Addr × Obj)} {σ:St} {H0:Hp} {k:Nat} {N:List Str} {x:Str} {qual:Str} {params:Arguments} {body:Expr} {scope:Scope} {f c':Addr} {pm ctv:Value} {tb:TE} {xs:List V} {key:V->List Int × Int}
  (S:mZ N [x] scope) (hr:nC (k+1) X.A.in1) (hbind:∀ (u:Value),bindArgs (kla_fn "<lambda>" qual params body scope [] pm (.ref c') ctv) ⟨[u],[]⟩=pure [(x,u)])
  (hbody:∀ (A:Around) (outer:List Env) (s:Shared) (H:Hp),nC k (A.deeper (envOfC qual scope s.heap.objs.size f (.ref c')))->PE (bR CX0 X.prog X.w X.K X.mg X.base N qual scope f (.ref c') A outer s H E0) body tb)
  (hc:H0 c'=some (cU c' qual)) (hf:H0 f=some (lamO qual params body scope f c' pm ctv))
  (hk:∀ y ∈ xs,∀ H1,mY H0 H1->tb (bS N [y]) H1 λz H2=>mY H1 H2/\KeyT X.K H2 z (key y)):KeyL X σ X.A.in1 (.ref f) H0 xs key:=by
 intro pins y hy u H1 s1 ry I sm
 have ho:s1.heap.get? f=some (kla_obj "<lambda>" qual params body scope [] pm c' ctv):=(show ny X.prog X.w H1 s1.heap f (lamO qual params body scope f c' pm ctv) from I.hok f _ (sm _ _ hf)).1
 have hcd:s1.heap.CodeRec (.ref c') qual:=(show ny X.prog X.w H1 s1.heap c' (cU c' qual) from I.hok c' _ (sm _ _ hc)).1
 refine wpAny_call (codeAny_mono (lam_run (us:=[u]) (vs:=[y]) (E:=E0) (Q:=λz H2=>mY H1 H2/\KeyT X.K H2 z (key y)) ho hcd S hr I.env0.in1 (.of_eq (hbind u)) (.cons ry .nil) rfl λhr'=>⟨tb,hbody _ _ _ _ hr',hk y hy H1 sm⟩) λr s' hq=>?_)
 cases r with
 | error e=>exact hq
 | ok fl=>
  cases fl with
  | ret v=>
   obtain ⟨y2,H2,I2,ry2,q1,q2⟩:=I.after hq
   exact ⟨y2,H2,I2,ry2,q1,q2⟩
  | next=>exact False.elim hq
  | brk=>exact False.elim hq
  | cont=>exact False.elim hq
theorem oN.same {H H':Hp} {P0:Addr} {qual:Str} (sm:mY H H') (h:oN H P0 lpos qual):oN H' P0 lpos qual:=by
 obtain ⟨ps,h1,h2,h3⟩:=h
 refine ⟨ps,sm _ _ h1,h2,?_⟩
 rcases h3 with z | ⟨c',z1,z2⟩
 ·exact .inl z
 ·exact .inr ⟨c',z1,sm _ _ z2⟩
def nU (P0:Addr) (H H':Hp):Prop:=∀ c o,H c=some o->c ≠ P0->H' c=some o
theorem sql_keepP {K:Frag} {H H':Hp} {P0 l:Addr} {xs:List V} {ps:Array Value} (hP:H P0=some (.tbl ps)) (k:nU P0 H H') (h:SqL K H l xs):SqL K H' l xs:=by
 rcases h with (h | ⟨o,h⟩) | h
 ·exact .inl (.inl (k _ _ h (bq h hP (by intro z; cases z))))
 ·exact .inl (.inr ⟨o,k _ _ h (bq h hP (by intro z; cases z))⟩)
 ·exact .inr h
def tMaxL (K:Frag) (P0:Addr) (lpos:Pos) (qual:Str) (N:List Str) (tb te:TE):TE:=λσ H Q=>te σ H λv H1=>∃ (l:Addr) (xs:List V) (key:V->List Int × Int),v=.ref l/\SqL K H1 l xs/\0<xs.length/\oN H1 P0 lpos qual/\
 (∀ H2,nU P0 H1 H2->∀ y ∈ xs,tb (bS N [y]) H2 λz H3=>mY H2 H3/\KeyT K H3 z (key y))/\∀ y H',xs[argBest (btK xs key) (xs.length-1)]? = some y->oN H' P0 lpos qual->nU P0 H1 H'->Q y H'
theorem pe_maxL (T:Blt X.mg) {P0 c0:Addr} {k:Nat} {N:List Str} {x:Str} {params:Arguments} {body:Expr} {scope:Scope} {tb:TE} (he:PE X e te) (hcode:X.env.code=.ref c0) (hC:CodeHd X.base c0 P0) (hB:BmB X.mg X.base) (S:mZ N [x] scope) (hr:nC (k+8) X.A) (hcalm:X.calm=true)
  (hbody:∀ (f c':Addr) (A:Around) (outer:List Env) (s:Shared) (H:Hp),nC k (A.deeper (envOfC (X.env.qual ++ "<lambda>") scope s.heap.objs.size f (.ref c')))->PE (bR CX0 X.prog X.w X.K X.mg X.base N (X.env.qual ++ "<lambda>") scope f (.ref c') A outer s H E0) body tb)
  (hbind:∀ (c':Addr) (pm ctv u:Value),bindArgs (kla_fn "<lambda>" (X.env.qual ++ "<lambda>") params body scope [] pm (.ref c') ctv) ⟨[u],[]⟩=pure [(x,u)]:=by intros; rfl)
  (hdef:defaultsOf params X.env=([],[]):=by rfl) (hcl:closureFor scope X.env=pure []:=by rfl) (hg:Gl X "max":=by rfl) (hs:starEach [e] X.env=[(false,eval e X.env)]:=by rfl) :
  PE X (.Call (.Name "max" p) [e] [⟨some "key",.Lambda params body scope lpos,kp⟩] pos) (tMaxL X.K P0 lpos (X.env.qual ++ "<lambda>") N tb te):=by
 intro pins s σ H Q I h
 refine wpAny_Call_Name_kw (dO I hg T.max io ?_)
 refine callWith_kw ?_ (by rw [hs]; rfl) (by rw [hs]; rfl)
 refine thn ((aa he af hs) pos pins s σ H (λvs H1=>match vs with | [v]=>∃ (l:Addr) (xs:List V) (key:V->List Int × Int),v=.ref l/\SqL X.K H1 l xs/\0<xs.length/\oN H1 P0 lpos (X.env.qual ++ "<lambda>")/\
   (∀ H2,nU P0 H1 H2->∀ y ∈ xs,tb (bS N [y]) H2 λz H3=>mY H2 H3/\KeyT X.K H3 z (key y))/\∀ y H',xs[argBest (btK xs key) (xs.length-1)]? = some y->oN H' P0 lpos (X.env.qual ++ "<lambda>")->nU P0 H1 H'->Q y H' | _=>False) I h) λus s1 ⟨vs,H1,I1,r1,q1⟩=>?_
 match vs,r1,q1 with
 | [v],r1,q1=>
  obtain ⟨u,rfl,ru⟩:=r1.one
  obtain ⟨l,xs,key,rfl,hl,hne,hT,hk,q⟩:=q1
  cases ru
  obtain ⟨ps,hP,_⟩:=id hT
  refine thn ((lI (pe_lam hcode hC hB hdef hcl) pk_nil) pos pins s1 σ H1 (λzs H2=>∃ (c' f:Addr) (pm ctv:Value),zs=[V.ref f]/\oN H2 P0 lpos (X.env.qual ++ "<lambda>")/\H2 c'=some (cU c' (X.env.qual ++ "<lambda>"))/\H2 f=some (lamO (X.env.qual ++ "<lambda>") params body scope f c' pm ctv)/\nU P0 H1 H2) I1 ⟨hT,λc' f pm ctv H' hT' _ hc' hf' kk=>⟨c',f,pm,ctv,rfl,hT',hc',hf',kk⟩⟩) λws s2 ⟨zs,H2,I2,r2,c',f,pm,ctv,e1,hT2,hc2,hf2,k12⟩=>?_
  subst e1
  obtain ⟨w1,rfl,rw1⟩:=r2.one
  cases rw1
  have hu:X.A.in1.units+80<cLine:=by have:=hr.un; show X.A.units+1+80<cLine; omega
  refine call_maxk hcalm (I2.ok.hd hcalm) hu I2 (sql_keepP hP k12 hl) hne (key_lam (pins0:=pins) S ((hr.in1 (k:=k+7)).mono (by omega)) (hbind c' pm ctv) (hbody f c') hc2 hf2 λy hy H3 s3=>hk H3 (λc o e n=>s3 _ _ (k12 c o e n)) y hy) λy u H' s' e1 e2 e3 e4=>⟨y,H',e3,e2,q y H' e1 (hT2.same e4) λc o e n=>e4 _ _ (k12 c o e n)⟩
end
section
variable {P:Program} {w:World} {K:Frag} {mg:Str->Option Value} {base:Heap}
theorem Fun.okXC {c0:Addr} {x qual:Str} {st:Stmt} {f:Addr} {fd:FuncData} {N ps:List Str} {k:Nat} {sp:Sp} (F:Fun K x qual st f fd) (hc:∀ oc od fd' osl,K.lookup f=some ⟨oc,od,.func fd',osl⟩->fd'.code=.ref c0) (S:mZ N ps (al st)) (len:∀ vs H Q E,sp vs H Q E->vs.length=ps.length)
  (hbody:∀ (A:Around) (outer:List Env) (s:Shared) (H:Hp) (vs:List V) (Q:VK) (E:XK),nC k (A.deeper (envOfC qual (al st) s.heap.objs.size f (.ref c0)))->sp vs H Q E->
   ∃ t,PSs (bR (CXE P w) P w K mg base N qual (al st) f (.ref c0) A outer s H E) (aK st) t/\t { nx:=λ_ H'=>Q .non H',rt:=Q } (bS N vs) H):nk P w K mg base (CXE P w) (k+1) f fd ps sp:=by
 obtain ⟨oc,od,kV,doc,pm,an,cdv,ct,osl,rfl,lk,hcd⟩:=F.ex
 obtain rfl:cdv=.ref c0:=hc _ _ _ _ lk
 exact fn_of lk hcd S len λA outer s H vs Q E hr hsp=>hbody A outer s H vs Q E hr hsp
theorem code_of {y:Str} {c0 P0 f:Addr} (ht:tabIn K y=some (c0,P0)) (hn:nsIn K mainGlobals y=some (some (.ref f))):∀ oc od fd' osl,K.lookup f=some ⟨oc,od,.func fd',osl⟩->fd'.code=.ref c0:=by
 intro oc od fd' osl lk
 unfold tabIn at ht
 rw [hn] at ht
 simp only [lk] at ht
 split at ht
 ·rename_i c hc
  rw [hc]
  split at ht
  ·split at ht
   ·injection ht with ht
    injection ht with h1 h2
    rw [h1]
   ·cases ht
  ·cases ht
 ·cases ht
end
theorem lexGt_eq:∀ ns ms:List Int,kD ns ms=HT.lexLt ms ns
 | [],[]=>rfl
 | [],_::_=>rfl
 | _::_,[]=>rfl
 | x::xs,y::ys=>by
  have ih:=lexGt_eq xs ys
  unfold kD lexV at *
  rw [HT.lexLt_cons]
  by_cases h:x=y
  ·have hb:(x == y)=true:=by simpa using h
   rw [List.zipWith_cons_cons,hb,if_pos h.symm,<- ih]
   show mw (List.zipWith (λa b=>(a == b,gtI a b)) xs ys) (decide ((x::xs).length > (y::ys).length))=mw (List.zipWith (λa b=>(a == b,gtI a b)) xs ys) (decide (xs.length > ys.length))
   rw [show decide ((x::xs).length > (y::ys).length)=decide (xs.length > ys.length) by simp]
  ·have hb:(x == y)=false:=by simpa using h
   rw [List.zipWith_cons_cons,hb,if_neg λz=>h z.symm]
   rfl
theorem jJ (k j:List Int × Int):tgt k j=if k.1=j.1 then decide (j.2<k.2) else HT.lexLt j.1 k.1:=by
 unfold tgt gtI
 rw [lexGt_eq]
theorem i3 (k:List Int × Int):tgt k k=false:=by rw [jJ,if_pos rfl,decide_eq_false (Int.lt_irrefl _)]
theorem kK {a b c:List Int × Int} (h1:tgt a b=true) (h2:tgt b c=true):tgt a c=true:=by
 rw [jJ] at *
 by_cases e1:a.1=b.1
 ·rw [if_pos e1] at h1
  by_cases e2:b.1=c.1
  ·rw [if_pos e2] at h2
   rw [if_pos (e1.trans e2)]
   have:=of_decide_eq_true h1
   have:=of_decide_eq_true h2
   exact decide_eq_true (by omega)
  ·rw [if_neg e2] at h2
   rw [if_neg (by rw [e1]; exact e2),e1]
   exact h2
 ·rw [if_neg e1] at h1
  by_cases e2:b.1=c.1
  ·rw [if_pos e2] at h2
   rw [if_neg (by rw [<- e2]; exact e1),<- e2]
   exact h1
  ·rw [if_neg e2] at h2
   have t:=ij h2 h1
   rw [if_neg (λz=>by rw [z,gD] at t; cases t)]
   exact t
theorem tgt_total {a b:List Int × Int} (h:a ≠ b) (h1:tgt a b=false):tgt b a=true:=by
 rw [jJ] at *
 by_cases e:a.1=b.1
 ·rw [if_pos e] at h1
  rw [if_pos e.symm]
  have:=of_decide_eq_false h1
  exact decide_eq_true (by
   have n:a.2 ≠ b.2:=λz=>h (Prod.ext e z)
   omega)
 ·rw [if_neg e] at h1
  rw [if_neg λz=>e z.symm]
  exact ik (λz=>e z.symm) h1
theorem iG (key:Nat->List Int × Int):∀ n j,j<=n->tgt (key j) (key (argBest (λi j=>tgt (key i) (key j)) n))=false
 | 0,j,h=>by
  obtain rfl:j=0:=by omega
  exact i3 _
 | n+1,j,h=>by
  have ih:=iG key n
  have e:argBest (λi j=>tgt (key i) (key j)) (n+1)=if tgt (key (n+1)) (key (argBest (λi j=>tgt (key i) (key j)) n))=true then n+1 else argBest (λi j=>tgt (key i) (key j)) n:=rfl
  rw [e]
  generalize argBest (λi j=>tgt (key i) (key j)) n=b at *
  by_cases z:tgt (key (n+1)) (key b)=true
  ·rw [if_pos z]
   by_cases hj:j=n+1
   ·rw [hj]; exact i3 _
   ·cases q:tgt (key j) (key (n+1)) with
    | false=>rfl
    | true=>
     have:=kK q z
     rw [ih j (by omega)] at this
     cases this
  ·rw [if_neg z]
   by_cases hj:j=n+1
   ·rw [hj]; simpa using z
   ·exact ih j (by omega)
def rGtK (K:Frag):R2:=λx y H Q=>∃ k j,KeyT K H x k/\KeyT K H y j/\Q (.bl (tgt k j)) H
theorem kgtK {X:Cx} {K:Frag} {n:Nat} (hK:X.K=K) (hr:nC n X.A):OpR X (compareOp .Gt) (rGtK K):=by
 subst hK
 intro pins s σ H x y v u Q I rx ry h
 obtain ⟨k,j,hk,hj,q⟩:=h
 have hu:X.A.units+80<cLine:=by have:=hr.un; omega
 exact rc_keys I hu hk hj rx ry X.prog X.w _ _ ⟨.bl (tgt k j),H,I,rfl,q⟩
def toI:V->Int
 | .int i=>i
 | _=>0
def hJ (H:Hp) (v:V):List Int × Int:=
 match v with
 | .ref t=>match H t with
  | some (.tup [.int i,.ref k,_])=>match H k with
   | some (.tup zs)=>(zs.map toI,-i)
   | _=>([],0)
  | _=>([],0)
 | _=>([],0)
theorem toI_ints:∀ ns:List Int,(ns.map V.int).map toI=ns
 | []=>rfl
 | n::ns=>by rw [map_cons,map_cons,toI_ints ns]; rfl
theorem key3_is {H:Hp} {t k:Addr} {i:Int} {u:V} {ns:List Int} (h1:H t=some (.tup [.int i,.ref k,u])) (h2:H k=some (.tup (ns.map V.int))):hJ H (.ref t)=(ns,-i):=by
 unfold hJ
 simp only [h1,h2,toI_ints]
theorem nU.tup {P0:Addr} {H H':Hp} {ps:Array Value} (hP:H P0=some (.tbl ps)) (k:nU P0 H H') {t:Addr} {xs:List V} (e:H t=some (.tup xs)):H' t=some (.tup xs):=k _ _ e (bq e hP (by intro z; cases z))
theorem nU.lst {P0:Addr} {H H':Hp} {ps:Array Value} (hP:H P0=some (.tbl ps)) (k:nU P0 H H') {t:Addr} {xs:List V} (e:H t=some (.lst xs)):H' t=some (.lst xs):=k _ _ e (bq e hP (by intro z; cases z))
theorem nU.trans {P0:Addr} {H H1 H2:Hp} (a:nU P0 H H1) (b:nU P0 H1 H2):nU P0 H H2:=λc o e n=>b c o (a c o e n) n
theorem nU.of {P0:Addr} {H H':Hp} (s:mY H H'):nU P0 H H':=λc o e _=>s c o e
end L2
set_option exponentiation.threshold 9000
namespace K
open PySem L2 PyProof.Rows
variable {P:Program} {w:World} {K:Frag} {mg:Str->Option Value} {base:Heap}
def top (i:Nat):Stmt:=PySem.Challenge.pw_relationladder_k17_leads.main.body.getD i (.Pass ⟨0,0,0,0⟩)
abbrev dc:Stmt:=top 8
abbrev s_lead:Stmt:=top 9
abbrev aT:Stmt:=inClass (top 14) 0
abbrev aF:Stmt:=inClass (top 14) 2
abbrev aZ:Stmt:=inClass (top 14) 3
abbrev ba:Stmt:=inClass (top 15) 0
abbrev bt:Stmt:=inClass (top 15) 1
abbrev aV:Stmt:=inClass (top 15) 3
abbrev bF:Stmt:=inClass (top 15) 4
abbrev bV:Stmt:=top 16
abbrev cv:Stmt:=top 17
abbrev gb:Stmt:=top 18
abbrev bJ:Stmt:=top 19
abbrev gX:Stmt:=top 20
abbrev cr:Stmt:=top 22
abbrev jP:Stmt:=top 23
abbrev jN:Stmt:=top 24
abbrev bg:Stmt:=inClass (top 27) 0
abbrev bn:Stmt:=inClass (top 27) 1
abbrev jk:Stmt:=top 28
abbrev mQ:Stmt:=top 29
abbrev cx:Stmt:=top 30
abbrev fN:Stmt:=top 31
abbrev eX:Stmt:=top 33
abbrev eT:Stmt:=top 35
abbrev f9:Stmt:=top 36
abbrev eY:Stmt:=top 37
abbrev dI:Stmt:=top 38
abbrev cX:Stmt:=top 39
abbrev dU:Stmt:=top 40
abbrev fV:Stmt:=top 41
abbrev cy:Stmt:=top 42
abbrev dQ:Stmt:=top 43
abbrev cJ:Stmt:=top 44
abbrev eU:Stmt:=top 45
abbrev eR:Stmt:=top 46
abbrev eK:Stmt:=top 47
abbrev dY:Stmt:=top 48
abbrev cY:Stmt:=top 49
abbrev eA:Stmt:=top 50
abbrev cc:Stmt:=top 51
abbrev cI:Stmt:=top 52
abbrev fX:Stmt:=top 53
abbrev fM:Stmt:=top 54
abbrev bW:Stmt:=top 55
abbrev dC:Stmt:=top 56
abbrev eJ:Stmt:=top 57
abbrev bY:Stmt:=top 58
abbrev bT:Stmt:=top 59
abbrev cL:Stmt:=top 60
abbrev dB:Stmt:=top 61
abbrev cw:Stmt:=top 62
abbrev cZ:Stmt:=top 63
abbrev eP:Stmt:=top 64
abbrev eN:Stmt:=top 65
abbrev bP:Stmt:=top 66
abbrev cK:Stmt:=top 67
abbrev s_law:Stmt:=top 68
theorem nd_0:(["_law_part", "_law_number_here"]:List Str).Nodup:=by decide +kernel
theorem nd_1:(["_law_product_here", "_law_come", "_law_prime_here"]:List Str).Nodup:=by decide +kernel
theorem nd_2:(["product", "found", "nought"]:List Str).Nodup:=by decide +kernel
def CDivA (_ j:Int):Prop:=j ≠ 0/\j.natAbs<2 ^ 6000
theorem CDivA.ok {i j:Int} (h:CDivA i j):Builtin.divisionGoesByPylong i j=false:=by
 refine PyProof.noPylong_of_log2 ?_
 by_cases h0:j.natAbs=0
 ·rw [h0]; decide +kernel
 ·have h30:j.natAbs.log2<6000:=(Nat.log2_lt h0).mpr h.2
  omega
theorem bw {X:Cx}:OpR X (binaryOp .FloorDiv) (rI CDivA λi j=>.int (i.fdiv j)):=opI λ_ _ _ _ _ _ _ hc q=>floordiv_int hc.1 q (.inl hc.ok)
theorem mulOk {i j:Int} (hi:i.natAbs<2 ^ 6000) (hj:j.natAbs<2 ^ 6000):IntMulOk i j:=by
 have bits:∀ {k:Int},k.natAbs<2 ^ 6000->Builtin.Int.intBits k<=6000:=λ{k} h=>by
  unfold Builtin.Int.intBits
  split
  ·omega
  ·rename_i h0
   have h0':k.natAbs ≠ 0:=by intro z; apply h0; simp; omega
   have:=(Nat.log2_lt h0').mpr h
   omega
 have h1:=bits hi
 have h2:=bits hj
 unfold IntMulOk
 have h3:Builtin.Int.intTooBig ((Builtin.Int.intBits i:Int)+Builtin.Int.intBits j)=false:=by
  unfold Builtin.Int.intTooBig
  rw [decide_eq_false_iff_not]
  have:bitsLine=2 ^ 27:=rfl
  rw [this]
  omega
 rw [h3]
 simp
theorem sq3 {a b c z:TS} {D:eG} {σ:L2.St} {H:Hp} (o:∀ R,R=z->(cH a (cH b (cH c R))) D σ H):(cH a (cH b (cH c z))) D σ H:=o z rfl
theorem sq7 {a b c d e f g z:TS} {D:eG} {σ:L2.St} {H:Hp} (o:∀ R,R=z->(cH a (cH b (cH c (cH d (cH e (cH f (cH g R))))))) D σ H):(cH a (cH b (cH c (cH d (cH e (cH f (cH g z))))))) D σ H:=o z rfl
theorem bX {K:Frag} {a:Addr} {xs:List V} {g:TG} {tb:TS} {D:eG} {σ:L2.St} {H:Hp} (Pv:Nat->L2.St->Hp->Prop) (h0:Pv 0 σ H) (hl:∀ i σ H,i<=xs.length->Pv i σ H->SqL K H a xs)
  (hs:∀ i x σ H,xs[i]? = some x->Pv i σ H->∀ N B:L2.St->Hp->Prop,(∀ σ' H',Pv (i+1) σ' H'->N σ' H')->g x σ H λσ2 H2=>tb { nx:=N,ct:=N,bk:=B,rt:=D.rt } σ2 H2) (hd:∀ σ H,Pv xs.length σ H->D.nx σ H) :
  ∃ W:Nat->Nat->L2.St->Hp->Prop,(∃ m,W 0 m σ H)/\∀ i m σ H,W i m σ H->
   ((Itl K a).stop i H/\D.nx σ H)\/((Itl K a).go i H/\∃ N:L2.St->Hp->Prop,(∀ σ' H',N σ' H'->∃ m',m' < m/\W (i+1) m' σ' H')/\∀ x H',(Itl K a).yld i H x H'->g x σ H' λσ2 H2=>tb { D with nx:=N,ct:=N,bk:=D.nx } σ2 H2):=
 eZ Pv h0 hl (λi x σ H e p=>hs i x σ H e p _ _ λ_ _ z=>z) hd
theorem dG {lo:Int} {n:Nat} {g:TG} {tb:TS} {D:eG} {σ:L2.St} {H:Hp} (Pv:Nat->L2.St->Hp->Prop) (h0:Pv 0 σ H)
  (hs:∀ i σ H,i<n->Pv i σ H->∀ N B:L2.St->Hp->Prop,(∀ σ' H',Pv (i+1) σ' H'->N σ' H')->g (.int (lo+i)) σ H λσ2 H2=>tb { nx:=N,ct:=N,bk:=B,rt:=D.rt } σ2 H2) (hd:∀ σ H,Pv n σ H->D.nx σ H) :
  ∃ W:Nat->Nat->L2.St->Hp->Prop,(∃ m,W 0 m σ H)/\∀ i m σ H,W i m σ H->
   ((Itr lo n).stop i H/\D.nx σ H)\/((Itr lo n).go i H/\∃ N:L2.St->Hp->Prop,(∀ σ' H',N σ' H'->∃ m',m' < m/\W (i+1) m' σ' H')/\∀ x H',(Itr lo n).yld i H x H'->g x σ H' λσ2 H2=>tb { D with nx:=N,ct:=N,bk:=D.nx } σ2 H2):=
 ie Pv h0 (λi σ H e p=>hs i σ H e p _ _ λ_ _ z=>z) hd
theorem aC {j:Int} (h:0<=j) (h2:j<2 ^ 63):j.natAbs<2 ^ 6000:=by
 have h3:j.natAbs<2 ^ 63:=by omega
 exact Nat.lt_of_lt_of_le h3 (Nat.pow_le_pow_right (by decide) (by decide))
theorem ff {i j:Int} (h:0<j) (h2:j<2 ^ 63):CDivA i j:=⟨by omega,aC (by omega) h2⟩
theorem at_int (ns:List Int) {k:Int} (h0:0<=k) (h1:k<ns.length):∃ z,atI (ns.map V.int) k=some (V.int z):=by
 obtain ⟨n,rfl⟩:=Int.eq_ofNat_of_zero_le h0
 have hn:n<ns.length:=by omega
 exact ⟨ns[n],cC (by rw [getElem?_map,getElem?_eq_getElem hn]; rfl)⟩
def spCell (K:Frag):Sp:=λvs H Q _=>∃ (a:Addr) (ns:List Int) (k:Int),vs=[.ref a,.int k]/\SqL K H a (ns.map V.int)/\ns.length<=63/\0<=k/\k<=100/\∀ r:Int,Q (.int r) H
def fK (a b:Int):Int:=(a*48271+7919*b*b+17) % 2147483647
def nE (a b:Int) (k:Nat):Prop:=b=0\/(0<=a/\a<2147483647/\0<b/\b<=k)
def spBag (K:Frag):Sp:=λvs H Q _=>∃ (a:Addr) (ns:List Int) (k:Int),vs=[.ref a,.int k]/\SqL K H a (ns.map V.int)/\ns.length<=63/\0<=k/\k<=99/\
 ∀ (p:Addr) (a b:Int),H p=none->nE a b 100->Q (.ref p) (upd H p (.lst [.int a,.int b]))
def bQ:Sp:=λvs H Q _=>∃ (p:Addr) (a b m:Int) (k:Nat),vs=[.ref p,.int m]/\H p=some (.lst [.int a,.int b])/\nE a b k/\k<=1000000/\0<m/\m.natAbs<2 ^ 6000/\
 ∀ r a' b',0<=r->r<m->nE a' b' (k+1)->Q (.int r) (upd H p (.lst [.int a',.int b']))
theorem oW:mZ ["_law_script", "_law_k", "_law_seed", "_law_some"] ["_law_script", "_law_k"] (al eT):=.i
theorem ok_cell {f:Addr} {fd:FuncData} (F:Fun K "_law_cell" "_law_cell" eT f fd) (T:Blt mg):nk P w K mg base CX0 1 f fd ["_law_script", "_law_k"] (spCell K):=by
 refine F.o oW λ_ _ _ _ H _ Q _ hr h=>?_
 ·obtain ⟨a,ns,k,rfl,hS,hl,hk0,hk1,q⟩:=h
  have hln:((ns.map V.int).length:Int)=ns.length:=by rw [length_map]
  refine ⟨_,(ag (aJ (aw jB (pv 1) (ce K T (pv 0)) (az _))
(aj (ar (aA (aE K rfl) (pv 0) (pv 1) (λ_ _=>rfl))))
aB)
(ag (aq (i:=2) oW.nd rfl (Or.inl rfl) (ao bc (pv 1) ae))
(ag (aJ (aw eh (ce K T (pv 0)) ae (az _))
(aj (aq (i:=2) oW.nd rfl (Or.inl rfl) (ao aG (pv 2) (ao aY (aA (aE K rfl) (pv 0) (ao aY (pv 1) (ce K T (pv 0))) (λ_ _=>rfl)) ae))))
aB)
(ag (aq (i:=3) oW.nd rfl (Or.inl rfl) (ao aY (ao bc (pv 2) ae) ae))
(aj (ar (ao aY (ao bw (ao bc (pv 3) (ao aG (ao aG (pv 3) (ao bc ae (pv 1))) ae)) ae) ae))))))),?_⟩
  refine ⟨_,rfl,_,rfl,a,_,rfl,.inl hS,_,_,rfl,rfl,_,rfl,?_⟩
  refine bf (λh=>?_) (λh=>?_)
  ·have h':k<ns.length:=by have:=of_decide_eq_true h; omega
   obtain ⟨z,hz⟩:=at_int ns hk0 h'
   exact ⟨_,rfl,_,rfl,a,_,_,_,rfl,rfl,hS,hz,q _⟩
  ·refine ⟨_,rfl,_,_,rfl,rfl,.inl ⟨by omega,by omega⟩,?_⟩
   refine ⟨_,rfl,a,_,rfl,.inl hS,_,_,rfl,rfl,_,rfl,?_⟩
   have fin:∀ sd:Int,(0:Int)<=sd*48271 % 65537/\sd*48271 % 65537<65537:=λsd=>⟨Int.emod_nonneg _ (by decide),Int.emod_lt_of_pos _ (by decide)⟩
   refine bf (λh=>?_) (λh=>?_)
   ·have h':0<(ns.length:Int):=by have:=of_decide_eq_true h; omega
    obtain ⟨z,hz⟩:=at_int ns (k:=k % ((ns.map V.int).length:Int)) (Int.emod_nonneg _ (by omega)) (by have:=Int.emod_lt_of_pos k (b:=((ns.map V.int).length:Int)) (by omega); omega)
    refine ⟨_,rfl,_,rfl,_,rfl,_,rfl,a,_,rfl,.inl hS,_,_,rfl,rfl,(by show (0:Int)<_; omega),a,_,_,_,rfl,rfl,hS,hz,_,_,rfl,rfl,(by show (0:Int)<65537; decide),_,_,rfl,rfl,?_⟩
    have f1:=fin (k*7919+z % 65537)
    refine ⟨_,rfl,_,_,rfl,rfl,.inr ⟨by decide,by decide⟩,_,_,rfl,rfl,(by show (0:Int)<65537; decide),?_⟩
    exact ⟨_,rfl,_,rfl,_,rfl,_,_,rfl,rfl,.inl ⟨by decide,by decide⟩,_,_,rfl,rfl,_,_,rfl,rfl,_,_,rfl,rfl,.inl ⟨Int.lt_of_lt_of_le (by decide) f1.1,Int.lt_of_lt_of_le f1.2 (by decide)⟩,_,_,rfl,rfl,ff (by decide) (by decide),_,_,rfl,rfl,(by show (0:Int)<65521; decide),q _⟩
   ·have f1:=fin (k*7919)
    refine ⟨_,rfl,_,_,rfl,rfl,.inr ⟨by decide,by decide⟩,_,_,rfl,rfl,(by show (0:Int)<65537; decide),?_⟩
    exact ⟨_,rfl,_,rfl,_,rfl,_,_,rfl,rfl,.inl ⟨by decide,by decide⟩,_,_,rfl,rfl,_,_,rfl,rfl,_,_,rfl,rfl,.inl ⟨Int.lt_of_lt_of_le (by decide) f1.1,Int.lt_of_lt_of_le f1.2 (by decide)⟩,_,_,rfl,rfl,ff (by decide) (by decide),_,_,rfl,rfl,(by show (0:Int)<65521; decide),q _⟩
theorem sc__law_bag:mZ ["_law_script", "_law_at", "_law_cell_here"] ["_law_script", "_law_at"] (al f9):=.i
theorem ok_bag {f:Addr} {fd:FuncData} (F:Fun K "_law_bag" "_law_bag" f9 f fd) (tY:FnB P w K mg base 1 "_law_cell" (spCell K)):nk P w K mg base CX0 2 f fd ["_law_script", "_law_at"] (spBag K):=by
 refine F.o sc__law_bag λ_ _ _ _ H _ Q _ hr h=>?_
 ·obtain ⟨a,ns,k,rfl,hS,hl,hk0,hk1,q⟩:=h
  refine ⟨_,(ag (aq (i:=2) sc__law_bag.nd rfl (Or.inl rfl) (au tY hr.m (aa (pv 0) (aa (pv 1) af))))
(ag (aJ (PW.pt (gB (aw op_ge (pv 2) (ao dH ae ae) (az _)) (gd (aw jO (pv 2) (pe_un un_neg (ao dH ae ae)) (az _)))))
(aj (ar (aQ (aa (pv 2) (aa ae af)))))
aB)
(aj (ar (aQ (aa (ao aY (pv 2) ae) (aa (ao aG (pv 1) ae) af))))))),?_⟩
  refine ⟨_,rfl,_,rfl,a,ns,k,rfl,hS,hl,hk0,by omega,λr=>?_⟩
  refine ⟨_,rfl,_,_,rfl,rfl,⟨by decide,by decide,by decide⟩,_,_,rfl,rfl,_,rfl,?_⟩
  have f1:(0:Int)<=r % 2147483647/\r % 2147483647<2147483647:=⟨Int.emod_nonneg _ (by decide),Int.emod_lt_of_pos _ (by decide)⟩
  refine bf (λh=>?_) (λh=>?_)
  ·refine bH ?_
   exact ⟨_,rfl,by show 2<=sizeLine; decide,λp hp=>q p r 0 hp (.inl rfl)⟩
  ·refine ⟨_,rfl,_,_,rfl,rfl,⟨by decide,by decide,by decide⟩,_,rfl,_,_,rfl,rfl,_,rfl,?_⟩
   refine bf (λh=>?_) (λh=>?_)
   ·exact ⟨_,rfl,by show 2<=sizeLine; decide,λp hp=>q p r 0 hp (.inl rfl)⟩
   ·exact ⟨_,rfl,_,_,rfl,rfl,(by show (0:Int)<2147483647; decide),_,rfl,_,_,rfl,rfl,by show 2<=sizeLine; decide,λp hp=>q p _ _ hp (.inr ⟨f1.1,f1.2,by omega,by omega⟩)⟩
theorem sc__law_take:mZ ["_law_bag_here", "_law_many", "_law_some"] ["_law_bag_here", "_law_many"] (al eY):=.i
theorem ok_take {f:Addr} {fd:FuncData} (F:Fun K "_law_take" "_law_take" eY f fd):nk P w K mg base CX0 1 f fd ["_law_bag_here", "_law_many"] bQ:=by
 refine F.o sc__law_take λ_ _ _ _ H _ Q _ hr h=>?_
 ·obtain ⟨p,a,b,m,k,rfl,hp,hb,hk,hm,hm2,q⟩:=h
  refine ⟨_,(ag (aJ (aw br (aA (aE K rfl) (pv 0) ae (λ_ _=>rfl)) ae (az _))
(ag (aq (i:=2) sc__law_take.nd rfl (Or.inl rfl) (ao aY (aA (aE K rfl) (pv 0) ae (λ_ _=>rfl)) (pv 1)))
(ag (e7 (ao bw (aA (aE K rfl) (pv 0) ae (λ_ _=>rfl)) (pv 1)) (mR (pv 0) ae gE))
(aj (ar (pv 2)))))
aB)
(ag (e7 (ao aY (ao aG (ao aG (ao bc (aA (aE K rfl) (pv 0) ae (λ_ _=>rfl)) ae) (ao bc (ao bc ae (aA (aE K rfl) (pv 0) ae (λ_ _=>rfl))) (aA (aE K rfl) (pv 0) ae (λ_ _=>rfl)))) ae) ae) (mR (pv 0) ae gE))
(ag (e7 (ao aG (aA (aE K rfl) (pv 0) ae (λ_ _=>rfl)) ae) (mR (pv 0) ae gE))
(aj (ar (ao aY (ao aY (ao bc (aA (aE K rfl) (pv 0) ae (λ_ _=>rfl)) ae) ae) (pv 1))))))),?_⟩
  have e0:∀ (a b:Int) (H':Hp),H' p=some (.lst [.int a,.int b])->SqL K H' p [.int a,.int b]:=λa b H' h=>SqL.of h
  refine ⟨_,rfl,p,_,_,_,rfl,rfl,e0 a b H hp,rfl,rfl,_,rfl,?_⟩
  refine bf (λh=>?_) (λh=>?_)
  ·have hb0:b=0:=by simpa using h
   refine ⟨_,rfl,p,_,_,_,rfl,rfl,e0 a b H hp,rfl,_,rfl,_,_,rfl,rfl,hm,?_⟩
   refine ⟨_,rfl,p,_,_,_,rfl,rfl,e0 a b H hp,rfl,_,rfl,_,_,rfl,rfl,⟨by omega,hm2⟩,_,rfl,p,_,_,_,rfl,rfl,hp,rfl,?_⟩
   refine ⟨_,rfl,?_⟩
   exact q _ _ _ (Int.emod_nonneg _ (by omega)) (Int.emod_lt_of_pos _ hm) (.inl hb0)
  ·have hb0:b ≠ 0:=by simpa using h
   rcases hb with z | ⟨a0,a1,b0,b1⟩
   ·exact absurd z hb0
   refine ⟨_,rfl,p,_,_,_,rfl,rfl,e0 a b H hp,rfl,_,_,rfl,rfl,.inl ⟨by omega,by omega⟩,_,rfl,p,_,_,_,rfl,rfl,e0 a b H hp,rfl,_,_,rfl,rfl,.inl ⟨by decide,by decide⟩,_,rfl,p,_,_,_,rfl,rfl,e0 a b H hp,rfl,_,_,rfl,rfl,.inr ⟨by omega,by omega⟩,_,_,rfl,rfl,_,_,rfl,rfl,_,_,rfl,rfl,(by show (0:Int)<2147483647; decide),_,rfl,p,_,_,_,rfl,rfl,hp,rfl,?_⟩
   have a0':0<=fK a b:=Int.emod_nonneg _ (by decide)
   have a1':fK a b<2147483647:=Int.emod_lt_of_pos _ (by decide)
   refine ⟨_,rfl,p,_,_,_,rfl,rfl,e0 (fK a b) b _ ac,rfl,_,_,rfl,rfl,_,rfl,p,[.int (fK a b),.int b],_,_,rfl,rfl,ac,rfl,?_⟩
   refine ⟨_,rfl,p,_,_,_,rfl,rfl,e0 (fK a b) (b+1) _ ac,rfl,_,_,rfl,rfl,.inl ⟨by omega,by omega⟩,_,_,rfl,rfl,(by show (0:Int)<2147483629; decide),_,rfl,_,_,rfl,rfl,hm,?_⟩
   have e:upd (upd H p (.lst [.int (fK a b),.int b])) p (.lst [.int (fK a b),.int (b+1)])=upd H p (.lst [.int (fK a b),.int (b+1)]):=cg
   have z:=q (fK a b*69621 % 2147483629 % m) (fK a b) (b+1) (Int.emod_nonneg _ (by omega)) (Int.emod_lt_of_pos _ hm) (.inr ⟨a0',a1',by omega,by omega⟩)
   rw [<- e] at z
   exact z
def spWhole (K:Frag):Sp:=λvs H Q _=>∃ (v:V) (t:Value) (b c:Bool),vs=[v]/\TyOf K H v t/\kitOne K t (.type "int")=some b/\kitOne K t (.type "bool")=some c/\Q (.bl (b && !c)) H
theorem nE.mono {a b:Int} {j k:Nat} (h:nE a b j) (hk:j<=k):nE a b k:=by
 rcases h with h | ⟨h1,h2,h3,h4⟩
 ·exact .inl h
 ·exact .inr ⟨h1,h2,h3,by omega⟩
theorem j8:mZ ["_law_found"] ["_law_found"] (al dU):=.i
theorem ok_whole {f:Addr} {fd:FuncData} (F:Fun K "_law_whole" "_law_whole" dU f fd) (T:Blt mg):nk P w K mg base CX0 1 f fd ["_law_found"] (spWhole K):=by
 refine F.o j8 λ_ _ _ _ H _ Q _ hr h=>?_
 ·obtain ⟨v,t,b,c,rfl,ty,h1,h2,q⟩:=h
  refine ⟨_,(aj (ar (md (kpl_is K T (pv 0) T.int fz) (pe_one (pe_not (kpl_is K T (pv 0) T.bool boot_bool')))))),?_⟩
  refine ⟨_,rfl,t,b,ty,h1,_,rfl,?_⟩
  cases b with
  | false=>exact bx q
  | true=>exact bH ⟨_,rfl,t,c,ty,h2,_,rfl,q⟩
theorem iP {K:Frag} {H:Hp} {a:Addr} {xs:List V} (h:SqT K H a xs):SqV true K H a xs:=h
theorem sqvL {K:Frag} {H:Hp} {a:Addr} {xs:List V} (h:SqL K H a xs):SqV false K H a xs:=h
def v2 (f:Int->Int->V):V->V->V:=λx y=>match x,y with
 | .int i,.int j=>f i j
 | _,_=>.non
def v1 (f:Int->V):V->V:=λx=>match x with
 | .int i=>f i
 | _=>.non
theorem zip_v2 (f:Int->Int->V):∀ ns ms:List Int,List.zipWith (v2 f) (ns.map V.int) (ms.map V.int)=List.zipWith f ns ms
 | [],_=>rfl
 | _::_,[]=>rfl
 | n::ns,m::ms=>congrArg (f n m :: ·) (zip_v2 f ns ms)
theorem map_v1 (f:Int->V) (ns:List Int):(ns.map V.int).map (v1 f)=ns.map f:=by
 rw [map_map]; rfl
theorem zw_map {α:Type} (g:α->V) (f:Int->Int->α):∀ ns ms:List Int,List.zipWith (λi j=>g (f i j)) ns ms=(List.zipWith f ns ms).map g
 | [],_=>rfl
 | _::_,[]=>rfl
 | n::ns,m::ms=>congrArg (g (f n m) :: ·) (zw_map g f ns ms)
theorem cD {ns:List Int} {i:Nat} {x:V} (h:(ns.map V.int)[i]? = some x):∃ z,ns[i]? = some z/\x=.int z:=by
 rw [getElem?_map] at h
 cases e:ns[i]? with
 | none=>rw [e] at h; cases h
 | some z=>rw [e] at h; exact ⟨z,rfl,(Option.some.inj h).symm⟩
theorem cq:((10:Int) ^ (10:Int).toNat)=10000000000:=by decide +kernel
def iW:Sp:=λvs H Q _=>∃ (p:Addr) (a b:Int) (k:Nat),vs=[.ref p]/\H p=some (.lst [.int a,.int b])/\nE a b k/\k<=900000/\
 ∀ (r a' b':Int),0<=r->r<1000000000000000000000000000000->nE a' b' (k+3)->Q (.int r) (upd H p (.lst [.int a',.int b']))
def jn:Sp:=λvs H Q _=>∃ (p:Addr) (a b:Int) (k:Nat),vs=[.ref p]/\H p=some (.lst [.int a,.int b])/\nE a b k/\k<=800000/\
 ∀ (r a' b':Int),-1000000000000000000000000000000<r->r<1000000000000000000000000000000->nE a' b' (k+4)->Q (.int r) (upd H p (.lst [.int a',.int b']))
theorem sc__law_great:mZ ["_law_bag_here", "_law_high"] ["_law_bag_here"] (al dI):=.i
theorem ok_great {f:Addr} {fd:FuncData} (F:Fun K "_law_great" "_law_great" dI f fd) (pO:FnB P w K mg base 1 "_law_take" bQ):nk P w K mg base CX0 2 f fd ["_law_bag_here"] iW:=by
 refine F.o sc__law_great λ_ _ _ _ H _ Q _ hr h=>?_
 ·obtain ⟨p,a,b,k,rfl,hp,hb,hk,q⟩:=h
  refine ⟨_,(ag (aq (i:=1) sc__law_great.nd rfl (Or.inl rfl) (ao aG (ao bc (au pO hr.m (aa (pv 0) (aa (ao dH ae ae) af))) (ao dH ae ae)) (au pO hr.m (aa (pv 0) (aa (ao dH ae ae) af)))))
(aj (ar (ao aG (ao bc (pv 1) (ao dH ae ae)) (au pO hr.m (aa (pv 0) (aa (ao dH ae ae) af))))))),?_⟩
  refine ⟨_,rfl,_,_,rfl,rfl,⟨by decide,by decide,by decide⟩,p,a,b,_,k,rfl,hp,hb,by omega,by rw [cq]; decide,by rw [cq]; exact aC (by decide) (by decide),λr1 a1 b1 r10 r11 hb1=>?_⟩
  rw [cq] at r11
  refine ⟨_,_,rfl,rfl,⟨by decide,by decide,by decide⟩,_,_,rfl,rfl,.inl ⟨by omega,by omega⟩,?_⟩
  refine ⟨_,rfl,_,_,rfl,rfl,⟨by decide,by decide,by decide⟩,p,a1,b1,_,k+1,rfl,ac,hb1,by omega,by rw [cq]; decide,by rw [cq]; exact aC (by decide) (by decide),λr2 a2 b2 r20 r21 hb2=>?_⟩
  rw [cq] at r21
  refine ⟨_,_,rfl,rfl,?_⟩
  refine ⟨_,rfl,_,_,rfl,rfl,⟨by decide,by decide,by decide⟩,_,_,rfl,rfl,.inr (by rw [cq]; exact ⟨by decide,by decide⟩),?_⟩
  refine ⟨_,rfl,_,_,rfl,rfl,⟨by decide,by decide,by decide⟩,p,a2,b2,_,k+2,rfl,ac,hb2,by omega,by rw [cq]; decide,by rw [cq]; exact aC (by decide) (by decide),λr3 a3 b3 r30 r31 hb3=>?_⟩
  rw [cq] at r31
  refine ⟨_,_,rfl,rfl,?_⟩
  rw [cg,cg,cq]
  exact q _ a3 b3 (by omega) (by omega) hb3
theorem jo:mZ ["_law_bag_here"] ["_law_bag_here"] (al cX):=.i
theorem ok_signed {f:Addr} {fd:FuncData} (F:Fun K "_law_signed" "_law_signed" cX f fd) (pO:FnB P w K mg base 1 "_law_take" bQ) (qa:FnB P w K mg base 2 "_law_great" iW):nk P w K mg base CX0 3 f fd ["_law_bag_here"] jn:=by
 refine F.o jo λ_ _ _ _ H _ Q _ hr h=>?_
 ·obtain ⟨p,a,b,k,rfl,hp,hb,hk,q⟩:=h
  refine ⟨_,(aj (ar (ao bc (ao aS (ao bc ae (au pO hr.m (aa (pv 0) (aa ae af)))) ae) (au qa hr.m (aa (pv 0) af))))),?_⟩
  refine ⟨_,rfl,p,a,b,2,k,rfl,hp,hb,by omega,by decide,aC (by decide) (by decide),λr1 a1 b1 r10 r11 hb1=>?_⟩
  refine ⟨_,_,rfl,rfl,.inl ⟨by decide,by decide⟩,_,_,rfl,rfl,?_⟩
  refine ⟨_,rfl,p,a1,b1,k+1,rfl,ac,hb1,by omega,λr2 a2 b2 r20 r21 hb2=>?_⟩
  refine ⟨_,_,rfl,rfl,.inl ⟨by omega,by omega⟩,?_⟩
  rw [cg]
  have h01:r1=0\/r1=1:=by omega
  refine q _ a2 b2 ?_ ?_ hb2
  ·rcases h01 with z | z<;>rw [z]<;>omega
  ·rcases h01 with z | z<;>rw [z]<;>omega
def jV:Sp:=λvs H Q _=>∃ (a b:Int),vs=[.int a,.int b]/\b ≠ 0/\b.natAbs<2 ^ 6000/\∀ t,H t=none->Q (.ref t) (upd H t (.tup [.int (nrm a b).1,.int (nrm a b).2]))
theorem oP:mZ ["_law_top", "_law_bottom", "_law_one", "_law_other"] ["_law_top", "_law_bottom"] (al fV):=.i
theorem ok_low {f:Addr} {fd:FuncData} (F:Fun K "_law_low" "_law_low" fV f fd) (T:Blt mg):nk P w K mg base CX0 1 f fd ["_law_top", "_law_bottom"] jV:=by
 refine F.o oP λ_ _ _ _ H _ Q _ hr h=>?_
 ·obtain ⟨a,b,rfl,hb,hbs,q⟩:=h
  refine ⟨_,(ag (aq (i:=2) oP.nd rfl (Or.inl rfl) (mn T (pv 0)))
(ag (aq (i:=3) oP.nd rfl (Or.inl rfl) (mn T (pv 1)))
(ag (eM PassesOwn.never (aw eh (pv 3) ae (az _))
(aj (ps_par (i:=2) (j:=3) rfl oP.nd rfl rfl (by decide) rfl rfl (aa (pv 3) (aa (ao aY (pv 2) (pv 3)) af)) rfl)))
(ag (aJ (aw jB (pv 1) ae (az _))
(aj (aq (i:=2) oP.nd rfl (Or.inl rfl) (ao aS ae (pv 2))))
aB)
(aj (ar (aL (aa (ao bw (pv 0) (pv 2)) (aa (ao bw (pv 1) (pv 2)) af))))))))),?_⟩
  refine ⟨_,rfl,_,rfl,_,rfl,_,rfl,?_⟩
  refine eQ (λσ H'=>∃ x y:Nat,σ=[some (.int a),some (.int b),some (.int x),some (.int y)]/\H'=H/\Nat.gcd x y=Int.gcd a b) (λσ _=>match σ with | [_,_,_,some (.int y)]=>y.toNat | _=>0) ⟨a.natAbs,b.natAbs,?_,rfl,rfl⟩ ?_ ?_
  ·have e1:(if a<0 then -a else a)=(a.natAbs:Int):=by split<;>omega
   have e2:(if b<0 then -b else b)=(b.natAbs:Int):=by split<;>omega
   rw [e1,e2]
   rfl
  ·rintro σ H2 ⟨x,y,rfl,rfl,hg⟩
   refine ⟨_,rfl,_,_,rfl,rfl,_,rfl,bf (λh=>?_) (λh=>?_)⟩
   ·have hy:0<y:=by have:=of_decide_eq_true h; omega
    refine ⟨_,rfl,_,rfl,_,rfl,_,_,rfl,rfl,(by show (0:Int)<(y:Int); omega),_,_,rfl,⟨y,x % y,?_,rfl,?_⟩,?_⟩
    ·rfl
    ·rw [<- hg,Nat.gcd_comm x y,Nat.gcd_rec y x,Nat.gcd_comm]
    ·show ((x:Int) % (y:Int)).toNat<(y:Int).toNat
     have h1:=Int.emod_lt_of_pos (x:Int) (show (0:Int)<y by omega)
     have h2:=Int.emod_nonneg (x:Int) (show (y:Int) ≠ 0 by omega)
     omega
   ·have hy:y=0:=by
     have h1:¬ (0:Int)<(y:Int):=λz=>h (decide_eq_true z)
     omega
    subst hy
    rw [Nat.gcd_zero_right] at hg
    subst hg
    have hgp:0<Int.gcd a b:=Int.gcd_pos_of_ne_zero_right a hb
    have hgl:Int.gcd a b<=b.natAbs:=Nat.le_of_dvd (by omega) (Nat.gcd_dvd_right a.natAbs b.natAbs)
    have sm:(Int.gcd a b)<2 ^ 6000:=Nat.lt_of_le_of_lt hgl hbs
    refine ⟨_,rfl,_,_,rfl,rfl,_,rfl,bf (λh=>?_) (λh=>?_)⟩
    ·have hb0:b<0:=of_decide_eq_true h
     refine ⟨_,rfl,_,_,rfl,rfl,?_⟩
     have sm2:CDivA a (0-(Int.gcd a b:Int)):=⟨by omega,by rw [show (0-(Int.gcd a b:Int)).natAbs=Int.gcd a b by omega]; exact sm⟩
     refine ⟨_,rfl,_,rfl,_,_,rfl,rfl,sm2,_,rfl,_,rfl,_,_,rfl,rfl,sm2,(by show 2<=sizeLine; decide),λt ht=>?_⟩
     have z:=q t ht
     unfold nrm at z
     rw [if_pos hb0] at z
     rw [show 0-(Int.gcd a b:Int) = -(Int.gcd a b:Int) by omega]
     exact z
    ·have hb0:¬ b<0:=λz=>h (decide_eq_true z)
     have sm2:CDivA a (Int.gcd a b:Int):=⟨by omega,by rw [Int.natAbs_natCast]; exact sm⟩
     refine ⟨_,rfl,_,rfl,_,_,rfl,rfl,sm2,_,rfl,_,rfl,_,_,rfl,rfl,sm2,(by show 2<=sizeLine; decide),λt ht=>?_⟩
     have z:=q t ht
     unfold nrm at z
     rw [if_neg hb0] at z
     exact z
  ·rintro σ H Q Q' hq ⟨x,hx,i,j,e1,e2,b,hb,h⟩
   exact ⟨x,hx,i,j,e1,e2,b,hb,hq _ _ h⟩
def cm (n:Int) (i:Nat):List Int:=((List.range i).map λj:Nat=>(2:Int)+(j:Int)).filter λd=>decide (d*d<=n)
def fU (n:Int):Bool:=decide (1<n) && (cm n 98).all λd=>decide (0<n % d)
def nq (p:Int):Prop:=p=0\/(2<=p/\p<=9973/\fU p=true)
theorem gJ (n:Int) (i:Nat):cm n (i+1)=if (2+(i:Int))*(2+(i:Int))<=n then cm n i++[2+(i:Int)] else cm n i:=by
 unfold cm
 rw [range_succ,map_append,List.filter_append]
 by_cases h:(2+(i:Int))*(2+(i:Int))<=n
 ·rw [if_pos h]
  simp [h]
 ·rw [if_neg h]
  simp [h]
theorem mem_parts {n d:Int} {i:Nat}:d ∈ cm n i↔2<=d/\d<2+(i:Int)/\d*d<=n:=by
 unfold cm
 rw [List.mem_filter,List.mem_map]
 constructor
 ·rintro ⟨⟨j,hj,rfl⟩,h⟩
  have:=List.mem_range.mp hj
  exact ⟨by omega,by omega,of_decide_eq_true h⟩
 ·rintro ⟨h1,h2,h3⟩
  exact ⟨⟨(d-2).toNat,List.mem_range.mpr (by omega),by omega⟩,decide_eq_true h3⟩
theorem isPb_iff {n:Int}:fU n=true↔1<n/\∀ d,2<=d->d<100->d*d<=n->0<n % d:=by
 unfold fU
 rw [Bool.and_eq_true,all_eq_true]
 constructor
 ·rintro ⟨h1,h2⟩
  exact ⟨of_decide_eq_true h1,λd a b c=>of_decide_eq_true (h2 d (mem_parts.mpr ⟨a,by omega,c⟩))⟩
 ·rintro ⟨h1,h2⟩
  refine ⟨decide_eq_true h1,λd hd=>?_⟩
  obtain ⟨a,b,c⟩:=mem_parts.mp hd
  exact decide_eq_true (h2 d a (by omega) c)
theorem isPb_2:fU 2=true:=by decide +kernel
def jc:Sp:=λvs H Q _=>∃ n:Int,vs=[.int n]/\∀ H',mY H H'->Q (.bl (fU n)) H'
theorem o8:mZ ["_law_number_here", "_law_parts"] ["_law_number_here"] (al cy):=.i
theorem ok_lawprime {f:Addr} {fd:FuncData} (F:Fun K "_law_is_prime" "_law_is_prime" cy f fd) (T:Blt mg):nk P w K mg base CX0 1 f fd ["_law_number_here"] jc:=by
 refine F.o o8 λ_ _ _ _ H _ Q _ hr h=>?_
 ·obtain ⟨n,rfl,q⟩:=h
  refine ⟨_,(ag (mS (i:=1) o8.nd rfl (Or.inl rfl) (N:=["_law_part", "_law_number_here"]) (src:=[none,some 0]) rfl rfl rfl (by exact (lB rfl T.range (aa ae (aa ae af)))) (λ_ _ _=>by exact ⟨by exact (bM (i:=0) nd_0 rfl rfl),(cV (aw jO (ao bc (pv 0) (pv 0)) (pv 1) (az _))),by exact (pv 0)⟩))
(aj (ar (md (fw eh (pv 0) ae (az _)) (pe_one (kpl_all K T (by exact aX (N:=["_law_part", "_law_number_here"]) (src:=[none,some 0]) rfl rfl rfl (by exact (aM K rfl (pv 1))) (λ_ _ _=>by exact ⟨by exact (bM (i:=0) nd_0 rfl rfl),bj,by exact (fw eh (ao aY (pv 1) (pv 0)) ae (az _))⟩)) false)))))),?_⟩
  refine ⟨_,_,rfl,⟨by decide,by decide,by decide,by decide⟩,be (n:=98) (σ0:=[none,some (.int n)]) rfl (λacc i zs σ H'=>∃ u:Option V,σ=[u,some (.int n)]/\zs=(cm n i).map V.int/\mY H H') (by decide) (λacc hacc=>⟨none,rfl,rfl,mY.new hacc⟩) ?_ ?_ ?_ ?_⟩
  ·rintro acc i zs σ H' hacc hi hz _
   exact hi
  ·rintro acc zs σ H' hacc hz _
   exact Nat.le_refl 98
  ·rintro acc i zs σ H' x H'' hacc hi hz hzl ⟨u,rfl,rfl,sm⟩ ⟨rfl,rfl⟩
   refine ⟨_,rfl,_,rfl,_,_,rfl,rfl,.inl ⟨by omega,by omega⟩,_,rfl,_,_,rfl,rfl,_,rfl,bf (λh=>?_) (λh=>?_)⟩
   ·have h':(2+(i:Int))*(2+(i:Int))<=n:=of_decide_eq_true h
    refine ⟨_,rfl,_,hz,fu (by omega),_,ac,by rw [length_append,length_singleton]; omega,_,rfl,?_,sm.put hacc⟩
    rw [gJ,if_pos h',map_append]
    rfl
   ·have h':¬ (2+(i:Int))*(2+(i:Int))<=n:=λz=>h (decide_eq_true z)
    refine ⟨_,hz,by omega,_,rfl,?_,sm⟩
    rw [gJ,if_neg h']
  ·rintro acc zs σ H' hacc hz hzl ⟨u,rfl,rfl,sm⟩
   refine ⟨_,rfl,_,_,rfl,rfl,_,rfl,bf (λh=>?_) (λh=>?_)⟩
   ·have h1:(1:Int)<n:=of_decide_eq_true h
    refine ⟨_,rfl,acc,rfl,⟨_,SqL.of hz⟩,comp_lst (v1 λd=>.bl (decide (0<n % d))) rfl (SqL.of hz) (Nat.le_of_lt (fu (by omega))) (λi x H1 R hx sm1 hR=>?_) (λacc2 H1 hacc2 sm1 hl1=>?_)⟩
    ·obtain ⟨z,hz',rfl⟩:=cD hx
     obtain ⟨z2,_,_⟩:=mem_parts.mp (mem_of_getElem? hz')
     exact ⟨_,rfl,_,rfl,_,_,rfl,rfl,(by show (0:Int)<z; omega),_,_,rfl,rfl,hR⟩
    ·rw [map_v1] at hl1
     have e1:(cm n 98).map (λd=>V.bl (decide (0<n % d)))=((cm n 98).map λd=>decide (0<n % d)).map V.bl:=by rw [map_map]; rfl
     rw [e1] at hl1
     refine ⟨acc2,_,rfl,sqvL (SqL.of hl1),?_⟩
     have z:=q H1 (sm.trans sm1)
     unfold fU at z
     rw [decide_eq_true h1,Bool.true_and] at z
     rw [List.all_map]
     exact z
   ·have h1:¬ (1:Int)<n:=λz=>h (decide_eq_true z)
    have z:=q H' sm
    unfold fU at z
    rw [decide_eq_false h1,Bool.false_and] at z
    exact z
def spPrime:Sp:=λvs H Q _=>∃ (p:Addr) (a b:Int) (k:Nat),vs=[.ref p]/\H p=some (.lst [.int a,.int b])/\nE a b k/\k<=900000/\
 ∀ (r a' b':Int) (H':Hp),nq r->H' p=some (.lst [.int a',.int b'])->nE a' b' (k+2)->(∀ c o,H c=some o->c ≠ p->H' c=some o)->Q (.int r) H'
theorem oR:mZ ["_law_bag_here", "_law_way", "_law_number_here"] ["_law_bag_here"] (al dQ):=.i
theorem ok_prime {f:Addr} {fd:FuncData} (F:Fun K "_law_prime" "_law_prime" dQ f fd) (pO:FnB P w K mg base 1 "_law_take" bQ) (rP:FnB P w K mg base 1 "_law_is_prime" jc):nk P w K mg base CX0 2 f fd ["_law_bag_here"] spPrime:=by
 refine F.o oR λ_ _ _ _ H _ Q _ hr h=>?_
 ·obtain ⟨p,a,b,k,rfl,hp,hb,hk,q⟩:=h
  refine ⟨_,(ag (aq (i:=1) oR.nd rfl (Or.inl rfl) (au pO hr.m (aa (pv 0) (aa ae af))))
(ag (aJ (aw jB (pv 1) ae (az _))
(aj (ar ae))
aB)
(ag (aJ (aw jB (pv 1) ae (az _))
(aj (ar (aA (aE K rfl) (aQ (aa ae (aa ae (aa ae af)))) (ao aS (pv 1) ae) (λ_ _=>rfl))))
aB)
(ag (aq (i:=2) oR.nd rfl (Or.inl rfl) (ao aG ae (au pO hr.m (aa (pv 0) (aa ae af)))))
(ag (eM PassesOwn.never (lC (fT (au rP hr.m (aa (pv 2) af))))
(aj (aq (i:=2) oR.nd rfl (Or.inl rfl) (ao aS (pv 2) ae))))
(aj (ar (pv 2)))))))),?_⟩
  refine ⟨_,rfl,p,a,b,8,k,rfl,hp,hb,by omega,by decide,aC (by decide) (by decide),λr1 a1 b1 r10 r11 hb1=>?_⟩
  have k1:∀ o c o',H c=some o'->c ≠ p->(upd H p o) c=some o':=λo c o' e hc=>by rw [am hc]; exact e
  refine ⟨_,rfl,_,_,rfl,rfl,_,rfl,bf (λh=>?_) (λh=>?_)⟩
  ·exact q 0 a1 b1 _ (.inl rfl) ac (hb1.mono (by omega)) (k1 _)
  have h4:¬ r1<4:=λz=>h (decide_eq_true z)
  refine ⟨_,rfl,_,_,rfl,rfl,_,rfl,bf (λh=>?_) (λh=>?_)⟩
  ·have h7:r1<7:=of_decide_eq_true h
   refine ⟨(by show 3<=sizeLine; decide),λq1 n1=>?_⟩
   have pq:p ≠ q1:=ah (o:=.lst [.int a1,.int b1]) ac n1
   obtain ⟨v,hat,hv⟩:∃ v:Int,atI [V.int 2,V.int 3,V.int 7] (r1-4)=some (.int v)/\nq v:=by
    have h:r1=4\/r1=5\/r1=6:=by omega
    rcases h with rfl | rfl | rfl
    ·exact ⟨2,rfl,.inr ⟨by decide,by decide,by decide +kernel⟩⟩
    ·exact ⟨3,rfl,.inr ⟨by decide,by decide,by decide +kernel⟩⟩
    ·exact ⟨7,rfl,.inr ⟨by decide,by decide,by decide +kernel⟩⟩
   refine ⟨_,rfl,_,_,rfl,rfl,q1,_,_,_,rfl,rfl,SqL.of ac,hat,?_⟩
   exact q v a1 b1 _ hv (by rw [am pq,ac]) (hb1.mono (by omega)) λc o e hc=>by rw [am (ah (k1 _ c o e hc) n1)]; exact k1 _ c o e hc
  ·refine ⟨_,rfl,p,a1,b1,9972,k+1,rfl,ac,hb1,by omega,by decide,aC (by decide) (by decide),λr2 a2 b2 r20 r21 hb2=>?_⟩
   refine ⟨_,_,rfl,rfl,?_⟩
   rw [cg]
   refine eQ (λσ H'=>∃ n:Int,σ=[some (.ref p),some (.int r1),some (.int n)]/\2<=n/\n<=9973/\mY (upd H p (.lst [.int a2,.int b2])) H') (λσ _=>match σ with | [_,_,some (.int n)]=>n.toNat | _=>0) ⟨_,rfl,by omega,by omega,mY.refl _⟩ ?_ ?_
   ·rintro σ H2 ⟨n,rfl,n2,n9,sm⟩
    refine ⟨_,rfl,n,rfl,λH3 sm3=>⟨_,rfl,?_⟩⟩
    cases hn:fU n with
    | false=>
     refine bH ⟨_,rfl,_,_,rfl,rfl,⟨_,rfl,?_,by omega,sm.trans sm3⟩,?_⟩
     ·have:n ≠ 2:=λz=>by rw [z,isPb_2] at hn; cases hn
      omega
     ·show (n-1).toNat<n.toNat
      omega
    | true=>
     refine bx ⟨_,rfl,?_⟩
     have s:=sm.trans sm3
     exact q n a2 b2 H3 (.inr ⟨n2,n9,hn⟩) (s _ _ ac) hb2 λc o e hc=>s _ _ (k1 _ c o e hc)
   ·rintro σ H Q Q' hq ⟨x,hx,n,e,h⟩
    refine ⟨x,hx,n,e,λH' s=>?_⟩
    obtain ⟨b,hb,z⟩:=h H' s
    exact ⟨b,hb,hq _ _ z⟩
def ls:Sp:=λvs H Q _=>∃ n:Int,vs=[.int n]/\Q (.bl (decide (2<=n/\n<=9973) && fU n)) H
theorem sc_is_prime:mZ ["whole", "divisor"] ["whole"] (al gb):=.i
theorem ok_isprime {f:Addr} {fd:FuncData} {tk tk2:Tok} (F:Fun K "is_prime" "is_prime" gb f fd) (cLeast:mg "LEAST_PRIME"=some (.int 2 tk)) (cGreatest:mg "GREATEST_PRIME"=some (.int 9973 tk2)):nk P w K mg base CX0 1 f fd ["whole"] ls:=by
 refine F.o sc_is_prime λ_ _ _ _ H _ Q _ hr h=>?_
 ·obtain ⟨n,rfl,q⟩:=h
  refine ⟨_,(ag (aJ (PW.pt (gB (aw jB (pv 0) (cS (v:=.int 2) rfl cLeast ⟨_,rfl⟩) (az _)) (gd (aw eh (pv 0) (cS (v:=.int 9973) rfl cGreatest ⟨_,rfl⟩) (az _)))))
(aj (ar fH))
aB)
(ag (aq (i:=1) sc_is_prime.nd rfl (Or.inl rfl) ae)
(ag (eM PassesOwn.never (aw jO (ao bc (pv 1) (pv 1)) (pv 0) (az _))
(ag (aJ (aw br (ao aY (pv 0) (pv 1)) ae (az _))
(aj (ar fH))
aB)
(aj (aq (i:=1) sc_is_prime.nd rfl (Or.inl rfl) (ao aG (pv 1) ae)))))
(aj (ar fH))))),?_⟩
  have no:¬ (2<=n/\n<=9973)->Q (.bl false) H:=λh=>by
   rw [decide_eq_false h,Bool.false_and] at q
   exact q
  refine ⟨_,rfl,_,_,rfl,rfl,_,rfl,bf (λh=>?_) (λh=>?_)⟩
  ·have h1:n<2:=of_decide_eq_true h
   exact bH (no (by omega))
  have h1:¬ n<2:=λz=>h (decide_eq_true z)
  refine ⟨_,rfl,_,_,rfl,rfl,_,rfl,bf (λh=>?_) (λh=>?_)⟩
  ·have h2:9973<n:=of_decide_eq_true h
   exact no (by omega)
  have h2:¬ 9973<n:=λz=>h (decide_eq_true z)
  rw [decide_eq_true (show 2<=n/\n<=9973 by omega),Bool.true_and] at q
  refine eQ (λσ H'=>∃ d:Int,σ=[some (.int n),some (.int d)]/\H'=H/\2<=d/\d<=101/\∀ e,2<=e->e<d->0<n % e) (λσ _=>match σ with | [_,some (.int d)]=>(200-d).toNat | _=>0) ⟨2,rfl,rfl,by omega,by omega,λe h1 h2=>by omega⟩ ?_ ?_
  ·rintro σ H2 ⟨d,rfl,rfl,hd2,hd1,hall⟩
   refine ⟨_,rfl,_,rfl,_,_,rfl,rfl,.inl ⟨by omega,by omega⟩,_,rfl,_,_,rfl,rfl,_,rfl,bf (λh=>?_) (λh=>?_)⟩
   ·have hdd:d*d<=n:=of_decide_eq_true h
    have hd100:d<100:=Int.not_le.mp λz=>by
     have:=Int.mul_le_mul z z (by omega) (by omega)
     omega
    refine ⟨_,rfl,_,rfl,_,_,rfl,rfl,(by show (0:Int)<d; omega),rfl,_,rfl,bf (λh=>?_) (λh=>?_)⟩
    ·have h0:n % d=0:=by
      have:=of_decide_eq_true h
      injection this
     have e:fU n=false:=by
      cases hp:fU n with
      | false=>rfl
      | true=>
       have:=(isPb_iff.mp hp).2 d hd2 hd100 hdd
       omega
     rw [e] at q
     exact q
    ·have h0:n % d ≠ 0:=λz=>h (decide_eq_true (congrArg V.int z))
     have h00:=Int.emod_nonneg n (show d ≠ 0 by omega)
     refine ⟨_,rfl,_,_,rfl,rfl,⟨d+1,rfl,rfl,by omega,by omega,λe e1 e2=>?_⟩,?_⟩
     ·by_cases ee:e=d
      ·rw [ee]; omega
      ·exact hall e e1 (by omega)
     ·show (200-(d+1)).toNat<(200-d).toNat
      omega
   ·have hdd:¬ d*d<=n:=λz=>h (decide_eq_true z)
    have e:fU n=true:=isPb_iff.mpr ⟨by omega,λe e1 e2 e3=>hall e e1 (Int.not_le.mp λz=>by
     have:=Int.mul_le_mul z z (by omega) (by omega)
     omega)⟩
    rw [e] at q
    exact q
  ·rintro σ H Q Q' hq ⟨x,hx,x2,hx2,i,j,e1,e2,c,y,hy,i2,j2,e3,e4,b,hb,h⟩
   exact ⟨x,hx,x2,hx2,i,j,e1,e2,c,y,hy,i2,j2,e3,e4,b,hb,hq _ _ h⟩
def spGcd:Sp:=λvs H Q _=>∃ a b:Int,vs=[.int a,.int b]/\Q (.int (Int.gcd a b)) H
theorem nQ:mZ ["one", "other", "first", "second", "rest"] ["one", "other"] (al bJ):=.i
theorem ok_gcd {f:Addr} {fd:FuncData} (F:Fun K "greatest_divisor" "greatest_divisor" bJ f fd) (T:Blt mg):nk P w K mg base CX0 1 f fd ["one", "other"] spGcd:=by
 refine F.o nQ λ_ _ _ _ H _ Q _ hr h=>?_
 ·obtain ⟨a,b,rfl,q⟩:=h
  refine ⟨_,(ag (aq (i:=2) nQ.nd rfl (Or.inl rfl) (mn T (pv 0)))
(ag (aq (i:=3) nQ.nd rfl (Or.inl rfl) (mn T (pv 1)))
(ag (eM PassesOwn.never (aw op_ne (pv 3) ae (az _))
(ag (aq (i:=4) nQ.nd rfl (Or.inl rfl) (ao aY (pv 2) (pv 3)))
(ag (aq (i:=2) nQ.nd rfl (Or.inl rfl) (pv 3))
(aj (aq (i:=3) nQ.nd rfl (Or.inl rfl) (pv 4))))))
(aj (ar (pv 2)))))),?_⟩
  refine ⟨_,rfl,_,rfl,_,rfl,_,rfl,?_⟩
  refine eQ (λσ H'=>∃ (x y:Nat) (u:Option V),σ=[some (.int a),some (.int b),some (.int x),some (.int y),u]/\H'=H/\Nat.gcd x y=Int.gcd a b) (λσ _=>match σ with | [_,_,_,some (.int y),_]=>y.toNat | _=>0) ⟨a.natAbs,b.natAbs,none,?_,rfl,rfl⟩ ?_ ?_
  ·have e1:(if a<0 then -a else a)=(a.natAbs:Int):=by split<;>omega
   have e2:(if b<0 then -b else b)=(b.natAbs:Int):=by split<;>omega
   rw [e1,e2]
   rfl
  ·rintro σ H2 ⟨x,y,u,rfl,rfl,hg⟩
   refine ⟨_,rfl,rfl,_,rfl,?_⟩
   by_cases hy:y=0
   ·subst hy
    refine iteNS rfl ?_
    rw [Nat.gcd_zero_right] at hg
    subst hg
    exact ⟨_,rfl,q⟩
   ·rw [decide_eq_false (show ¬ V.int (y:Int)=V.int 0 from λz=>by injection z; omega)]
    refine bH ⟨_,rfl,_,rfl,_,_,rfl,rfl,(by show (0:Int)<(y:Int); omega),_,rfl,_,rfl,⟨y,x % y,some (.int ((x:Int) % (y:Int))),?_,rfl,?_⟩,?_⟩
    ·rfl
    ·rw [<- hg,Nat.gcd_comm x y,Nat.gcd_rec y x,Nat.gcd_comm]
    ·show ((x:Int) % (y:Int)).toNat<(y:Int).toNat
     have h1:=Int.emod_lt_of_pos (x:Int) (show (0:Int)<y by omega)
     have h2:=Int.emod_nonneg (x:Int) (show (y:Int) ≠ 0 by omega)
     omega
  ·rintro σ H Q Q' hq ⟨x,hx,e1,b,hb,h⟩
   exact ⟨x,hx,e1,b,hb,hq _ _ h⟩
def nZ (CF CR:Addr) (H:Hp) (x:Addr) (p:Int):Prop:=(p=0/\∃ dx,H x=some (.ins CF dx []))\/(p ≠ 0/\∃ dx,H x=some (.ins CR dx [("modulus",.int p)]))
def mi (CR:Addr):Sp:=λvs H Q _=>∃ (x dx:Addr) (p:Int),vs=[.ref x,.int p]/\H x=some (.ins CR dx [])/\nq p/\p ≠ 0/\Q .non (upd H x (.ins CR dx [("modulus",.int p)]))
def spNums (CF CR:Addr):Sp:=λvs H Q _=>∃ p:Int,vs=[.int p]/\nq p/\∀ (x:Addr) (H':Hp),mY H H'->nZ CF CR H' x p->Q (.ref x) H'
theorem gC:mZ ["self", "prime"] ["self", "prime"] (al ba):=.i
theorem ok_rinit {f CR:Addr} {fd:FuncData} (F:Fun K "__init__" "Rests.__init__" ba f fd) (cl:Cls K CR) (nM:oC K CR "modulus") (ur:FnB P w K mg base 1 "is_prime" ls):nk P w K mg base CX0 2 f fd ["self", "prime"] (mi CR):=by
 refine F.o gC λ_ _ _ _ H _ Q _ hr h=>?_
 ·obtain ⟨x,dx,p,rfl,hx,hp,p0,q⟩:=h
  refine ⟨_,(ag (aJ (lC (fT (au ur hr.m (aa (pv 1) af))))
(aj ps_never)
aB)
(aj (ps_fld (pv 0) (pv 1) rfl))),?_⟩
  rcases hp with z | ⟨h1,h2,h3⟩
  ·exact absurd z p0
  refine ⟨_,rfl,p,rfl,_,rfl,?_⟩
  rw [decide_eq_true ⟨h1,h2⟩,h3]
  refine bx ⟨_,rfl,_,rfl,x,CR,dx,[],rfl,hx,cl,nM,(by show 0<1000; decide),?_⟩
  exact q
theorem iS:mZ ["_law_prime_here"] ["_law_prime_here"] (al cJ):=.i
theorem ok_nums {f CF CR:Addr} {fd:FuncData} (F:Fun K "_law_numbers" "_law_numbers" cJ f fd) (MFractions:Mk0 K CF) (AFractions:mg "Fractions"=some (.ref CF)) (wX:MkB P w K mg base 2 CR "Rests" (mi CR)):nk P w K mg base CX0 4 f fd ["_law_prime_here"] (spNums CF CR):=by
 refine F.o iS λ_ _ _ _ H _ Q _ hr h=>?_
 ·obtain ⟨p,rfl,hp,q⟩:=h
  refine ⟨_,(ag (aJ (aw br (pv 0) ae (az _))
(aj (ar (pe_mk0 MFractions AFractions)))
aB)
(aj (ar (pe_mkB wX hr.m (aa (pv 0) af))))),?_⟩
  refine ⟨_,rfl,rfl,_,rfl,bf (λh=>?_) (λh=>?_)⟩
  ·have h0:p=0:=by
    have:=of_decide_eq_true h
    injection this
   intro x dx nx ndx ne
   exact q x _ ((mY.new ndx).put nx) (.inl ⟨h0,dx,ac⟩)
  ·have h0:p ≠ 0:=λz=>h (decide_eq_true (congrArg V.int z))
   refine ⟨_,rfl,λx dx nx ndx ne=>?_⟩
   refine ⟨x,dx,p,rfl,ac,hp,h0,rfl,?_⟩
   exact q x _ (((mY.new ndx).put nx).put nx) (.inr ⟨h0,dx,ac⟩)
def NumIs (P:Int) (H:Hp) (v:V):Prop:=(P ≠ 0/\∃ r,v=.int r/\0<=r/\r<P)\/(P=0/\∃ (t:Addr) (n d:Int),v=.ref t/\H t=some (.tup [.int n,.int d])/\0<d/\Int.gcd n d=1/\n.natAbs<10 ^ 31/\d.natAbs<10 ^ 31)
theorem pow31:(10:Nat) ^ 31<2 ^ 3000:=by decide +kernel
theorem pow2000:(2:Nat) ^ 3000<2 ^ 6000:=Nat.pow_lt_pow_right (by decide) (by decide)
def pairV:List V->Bool
 | [.int n,.int d]=>decide (1<=d) && decide (Int.gcd n d=1)
 | _=>false
def fracV (H:Hp):V->Bool
 | .ref a=>match H a with
  | some (.tup xs)=>pairV xs
  | _=>false
 | _=>false
def spNumber:Sp:=λvs H Q _=>∃ (p:Addr) (P a b:Int) (g:Bool) (k:Nat),vs=[.int P,.ref p,.bl g]/\nq P/\H p=some (.lst [.int a,.int b])/\nE a b k/\k<=700000/\
 ∀ (v:V) (a' b':Int) (H':Hp),NumIs P H' v->H' p=some (.lst [.int a',.int b'])->nE a' b' (k+8)->(∀ c o,H c=some o->c ≠ p->H' c=some o)->Q v H'
theorem eV:mZ ["_law_prime_here", "_law_bag_here", "_law_great_here"] ["_law_prime_here", "_law_bag_here", "_law_great_here"] (al cc):=.i
theorem ok_number {f:Addr} {fd:FuncData} (F:Fun K "_law_number" "_law_number" cc f fd) (T:Blt mg) (pO:FnB P w K mg base 1 "_law_take" bQ) (qa:FnB P w K mg base 2 "_law_great" iW) (qI:FnB P w K mg base 3 "_law_signed" jn) (pV:FnB P w K mg base 1 "_law_low" jV) :
  nk P w K mg base CX0 4 f fd ["_law_prime_here", "_law_bag_here", "_law_great_here"] spNumber:=by
 refine F.o eV λ_ _ _ _ H _ Q _ hr h=>?_
 ·obtain ⟨p,P,a,b,g,k,rfl,hP,hp,hb,hk,q⟩:=h
  refine ⟨_,(ag (aJ (aw eh (pv 0) ae (az _))
(aj (ar (au pO hr.m (aa (pv 1) (aa (pv 0) af)))))
aB)
(ag (aJ (fT (pv 2))
(aj (ar (au pV hr.m (aa (au qI hr.m (aa (pv 1) af)) (aa (pl_max T (aa ae (aa (au qa hr.m (aa (pv 1) af)) af))) af)))))
aB)
(aj (ar (au pV hr.m (aa (ao aS (au pO hr.m (aa (pv 1) (aa ae af))) ae) (aa (ao aG ae (ao bw (au pO hr.m (aa (pv 1) (aa ae af))) ae)) af))))))),?_⟩
  have k1:∀ o c o',H c=some o'->c ≠ p->(upd H p o) c=some o':=λo c o' e hc=>by rw [am hc]; exact e
  refine ⟨_,rfl,_,_,rfl,rfl,_,rfl,bf (λh=>?_) (λh=>?_)⟩
  ·have h0:0<P:=of_decide_eq_true h
   have h9:P<=9973:=by rcases hP with z | ⟨_,z,_⟩<;>omega
   refine ⟨_,rfl,_,rfl,p,a,b,P,k,rfl,hp,hb,by omega,h0,aC (by omega) (by omega),λr a1 b1 r0 r1 hb1=>?_⟩
   exact q _ a1 b1 _ (.inl ⟨by omega,r,rfl,r0,r1⟩) ac (hb1.mono (by omega)) (k1 _)
  have h0:P=0:=by
   have h1:¬ 0<P:=λz=>h (decide_eq_true z)
   rcases hP with z | ⟨z,_⟩<;>omega
  have low:∀ (n d a' b':Int) (t:Addr),0<d->n.natAbs<10 ^ 31->d.natAbs<10 ^ 31->nE a' b' (k+8)->(upd H p (.lst [.int a',.int b'])) t=none->
    Q (.ref t) (upd (upd H p (.lst [.int a',.int b'])) t (.tup [.int (nrm n d).1,.int (nrm n d).2])):=λn d a' b' t hd hn hd2 hb' ht=>by
   have pt:p ≠ t:=ah (o:=.lst [.int a',.int b']) ac ht
   have hl:=i9 n d (by omega)
   refine q _ a' b' _ (.inr ⟨h0,t,_,_,rfl,ac,cR n d (by omega),dE n d (by omega),Nat.lt_of_le_of_lt hl.1 hn,Nat.lt_of_le_of_lt hl.2 hd2⟩) (by rw [am pt,ac]) hb' λc o e hc=>?_
   rw [am (ah (k1 _ c o e hc) ht)]
   exact k1 _ c o e hc
  have big:∀ d:Int,d.natAbs<10 ^ 31->d.natAbs<2 ^ 6000:=λd h=>Nat.lt_trans h (Nat.lt_trans pow31 pow2000)
  refine ⟨_,rfl,_,rfl,?_⟩
  cases g with
  | true=>
   refine bH ⟨_,rfl,p,a,b,k,rfl,hp,hb,by omega,λr1 a1 b1 r10 r11 hb1=>?_⟩
   refine ⟨_,rfl,p,a1,b1,k+4,rfl,ac,hb1,by omega,λr2 a2 b2 r20 r21 hb2=>?_⟩
   refine ⟨_,_,rfl,?_⟩
   rw [cg]
   have hm:(1:Int)<=(if r2 > 1 then r2 else 1)/\(if r2 > 1 then r2 else 1)<1000000000000000000000000000000:=by split<;>omega
   generalize (if r2 > 1 then r2 else 1)=m at hm
   refine ⟨r1,m,rfl,by omega,big _ (by omega),λt ht=>?_⟩
   exact low r1 m a2 b2 t (by omega) (by omega) (by omega) (hb2.mono (by omega)) ht
  | false=>
   refine bx ⟨_,rfl,p,a,b,7,k,rfl,hp,hb,by omega,by decide,aC (by decide) (by decide),λr1 a1 b1 r10 r11 hb1=>?_⟩
   refine ⟨_,_,rfl,rfl,?_⟩
   refine ⟨_,rfl,p,a1,b1,8,k+1,rfl,ac,hb1,by omega,by decide,aC (by decide) (by decide),λr2 a2 b2 r20 r21 hb2=>?_⟩
   refine ⟨_,_,rfl,rfl,ff (by decide) (by decide),_,_,rfl,rfl,?_⟩
   rw [cg]
   have hm:(1:Int)<=1+r2.fdiv 7/\1+r2.fdiv 7<100:=by
    rw [Int.fdiv_eq_ediv_of_nonneg _ (by decide)]
    omega
   refine ⟨r1-3,1+r2.fdiv 7,rfl,by omega,big _ (by omega),λt ht=>?_⟩
   exact low (r1-3) (1+r2.fdiv 7) a2 b2 t (by omega) (by omega) (by omega) (hb2.mono (by omega)) ht
def At (P:Int) (H:Hp) (v:V) (x:Int × Int):Prop:=(P=0/\∃ t,v=.ref t/\H t=some (.tup [.int x.1,.int x.2]))\/(P ≠ 0/\v=.int x.1/\x.2=1)
theorem At.mono {P:Int} {H H':Hp} {v:V} {x:Int × Int} (h:At P H v x) (k:∀ t xs,H t=some (.tup xs)->H' t=some (.tup xs)):At P H' v x:=by
 rcases h with ⟨h0,t,rfl,e⟩ | h
 ·exact .inl ⟨h0,t,rfl,k _ _ e⟩
 ·exact .inr h
theorem At.same {P:Int} {H H':Hp} {v:V} {x:Int × Int} (h:At P H v x) (s:mY H H'):At P H' v x:=h.mono λt xs e=>s _ _ e
theorem gP:(2:Nat) ^ 2900<2 ^ 6000:=Nat.pow_lt_pow_right (by decide) (by decide)
theorem du {a b:Int} (h1:a.natAbs<2 ^ 2900) (h2:b.natAbs<2 ^ 2900):IntMulOk a b:=mulOk (Nat.lt_trans h1 gP) (Nat.lt_trans h2 gP)
theorem mulSz2 {a b:Int} (h1:a.natAbs<2 ^ 2900) (h2:b.natAbs<2 ^ 2900):(a*b).natAbs<2 ^ 6000:=Nat.lt_of_lt_of_le (db h1 h2) (cN (by decide))
def fh (CN:Addr):Sp:=λvs H Q E=>∃ (x:V) (a b:Int),vs=[x,.int a,.int b]/\(b=0->E (.ref CN) none H)/\(b ≠ 0->b.natAbs<2 ^ 6000/\∀ t,H t=none->Q (.ref t) (upd H t (.tup [.int (nrm a b).1,.int (nrm a b).2])))
theorem oV:mZ ["self", "top", "bottom", "common"] ["self", "top", "bottom"] (al aF):=.i
theorem ok_fofx {f pP:Addr} {fd:FuncData} (F:FunD K "of" "Fractions.of" aF f fd) (pX:FnB P w K mg base 1 "greatest_divisor" spGcd) (ANoNumber:mg "NoNumber"=some (.ref pP)) (xc:XCl K pP) :
  nk P w K mg base (CXE P w) 2 f fd ["self", "top", "bottom"] (fh pP):=by
 refine F.okX oV (λvs H Q E h=>?_) (λcdv A outer s H vs Q E hr h=>?_)
 ·obtain ⟨x,a,b,rfl,_⟩:=h
  rfl
 ·obtain ⟨x,a,b,rfl,hz,hq⟩:=h
  refine ⟨_,(ag (aJ (aw br (pv 2) ae (az _))
(aj (gO xc.ek ANoNumber (aa lF af)))
aB)
(ag (aJ (aw br (pv 2) ae (az _))
(aj (ar (aL (aa (pv 1) (aa ae af)))))
aB)
(ag (aq (i:=3) oV.nd rfl (Or.inl rfl) (au pX hr.m (aa (pv 1) (aa (pv 2) af))))
(ag (aJ (aw jB (pv 2) ae (az _))
(aj (aq (i:=3) oV.nd rfl (Or.inl rfl) (pe_un un_neg (pv 3))))
aB)
(aj (ar (aL (aa (ao bw (pv 1) (pv 3)) (aa (ao bw (pv 2) (pv 3)) af))))))))),?_⟩
  refine ⟨_,rfl,rfl,_,rfl,?_⟩
  by_cases hb:b=0
  ·subst hb
   rw [decide_eq_true rfl]
   exact bH ⟨(by show 1<=sizeLine; decide),hz rfl⟩
  obtain ⟨hbs,q⟩:=hq hb
  rw [decide_eq_false (show ¬ V.int b=V.int 0 from λz=>hb (by injection z))]
  refine bx ⟨_,rfl,rfl,_,rfl,bf (λh=>?_) (λh=>?_)⟩
  ·have h1:b=1:=by
    have:=of_decide_eq_true h
    injection this
   subst h1
   refine ⟨_,rfl,(by show 2<=sizeLine; decide),λt ht=>?_⟩
   have z:=q t ht
   rw [(gj a 1 (by decide)).mpr (Int.gcd_one_right ..)] at z
   exact z
  ·refine ⟨_,rfl,_,rfl,a,b,rfl,?_⟩
   have hgp:0<Int.gcd a b:=Int.gcd_pos_of_ne_zero_right a hb
   have hgl:Int.gcd a b<=b.natAbs:=Nat.le_of_dvd (by omega) (Nat.gcd_dvd_right a.natAbs b.natAbs)
   have sm:(Int.gcd a b)<2 ^ 6000:=Nat.lt_of_le_of_lt hgl hbs
   refine ⟨_,rfl,_,_,rfl,rfl,_,rfl,bf (λh=>?_) (λh=>?_)⟩
   ·have hb0:b<0:=of_decide_eq_true h
    refine ⟨_,rfl,_,rfl,?_⟩
    have sm2:CDivA a (-(Int.gcd a b:Int)):=⟨by omega,by rw [Int.natAbs_neg,Int.natAbs_natCast]; exact sm⟩
    refine ⟨_,rfl,_,rfl,_,_,rfl,rfl,sm2,_,rfl,_,rfl,_,_,rfl,rfl,sm2,(by show 2<=sizeLine; decide),λt ht=>?_⟩
    have z:=q t ht
    unfold nrm at z
    rw [if_pos hb0] at z
    exact z
   ·have hb0:¬ b<0:=λz=>h (decide_eq_true z)
    have sm2:CDivA a (Int.gcd a b:Int):=⟨by omega,by rw [Int.natAbs_natCast]; exact sm⟩
    refine ⟨_,rfl,_,rfl,_,_,rfl,rfl,sm2,_,rfl,_,rfl,_,_,rfl,rfl,sm2,(by show 2<=sizeLine; decide),λt ht=>?_⟩
    have z:=q t ht
    unfold nrm at z
    rw [if_neg hb0] at z
    exact z
def spFOp (CF:Addr) (g:Int × Int->Int × Int->Int × Int):Sp:=λvs H Q _=>∃ (x dx s t:Addr) (a b:Int × Int),vs=[.ref x,.ref s,.ref t]/\H x=some (.ins CF dx [])/\H s=some (.tup [.int a.1,.int a.2])/\H t=some (.tup [.int b.1,.int b.2])/\0<a.2/\0<b.2/\Sz 2900 a/\Sz 2900 b/\
 ∀ r,H r=none->Q (.ref r) (upd H r (.tup [.int (nrm (g a b).1 (g a b).2).1,.int (nrm (g a b).1 (g a b).2).2]))
def spROp (CR:Addr) (g:Int->Int->Int):Sp:=λvs H Q _=>∃ (x dx:Addr) (p a b:Int),vs=[.ref x,.int a,.int b]/\H x=some (.ins CR dx [("modulus",.int p)])/\0<p/\p<=9973/\0<=a/\a<p/\0<=b/\b<p/\Q (.int (g a b % p)) H
theorem gw:mZ ["self", "one", "other"] ["self", "one", "other"] (al aZ):=.i
theorem ok_fplus {f CF pP:Addr} {fd:FuncData} (F:Fun K "plus" "Fractions.plus" aZ f fd) (wf:kg P w K mg base 2 CF "of" [] (fh pP)):nk P w K mg base CX0 3 f fd ["self", "one", "other"] (spFOp CF λa b=>(a.1*b.2+b.1*a.2,a.2*b.2)):=by
 refine F.o gw λ_ _ _ _ H _ Q _ hr h=>?_
 ·obtain ⟨x,dx,s,t,a,b,rfl,hx,hs,ht,ha,hb,sa,sb,q⟩:=h
  refine ⟨_,(aj (ar (js wf hr.m fc (pv 0) (aa (ao aG (ao bD (aA (ay K rfl) (pv 1) ae (λ_ _=>rfl)) (aA (ay K rfl) (pv 2) ae (λ_ _=>rfl))) (ao bD (aA (ay K rfl) (pv 2) ae (λ_ _=>rfl)) (aA (ay K rfl) (pv 1) ae (λ_ _=>rfl)))) (aa (ao bD (aA (ay K rfl) (pv 1) ae (λ_ _=>rfl)) (aA (ay K rfl) (pv 2) ae (λ_ _=>rfl))) af))))),?_⟩
  refine ⟨_,rfl,x,dx,[],rfl,hx,rfl,_,rfl,s,_,_,_,rfl,rfl,SqT.of hs,rfl,_,rfl,t,_,_,_,rfl,rfl,SqT.of ht,rfl,_,_,rfl,rfl,du sa.1 sb.2,_,rfl,t,_,_,_,rfl,rfl,SqT.of ht,rfl,_,rfl,s,_,_,_,rfl,rfl,SqT.of hs,rfl,_,_,rfl,rfl,du sb.1 sa.2,_,_,rfl,rfl,?_⟩
  refine ⟨_,rfl,s,_,_,_,rfl,rfl,SqT.of hs,rfl,_,rfl,t,_,_,_,rfl,rfl,SqT.of ht,rfl,_,_,rfl,rfl,du sa.2 sb.2,_,_,_,rfl,λz=>absurd z (dF ha hb),λ_=>⟨mulSz2 sa.2 sb.2,q⟩⟩
theorem j7:mZ ["self", "one", "other"] ["self", "one", "other"] (al bF):=.i
theorem ok_rplus {f CR:Addr} {fd:FuncData} (F:Fun K "plus" "Rests.plus" bF f fd) (cl:Cls K CR) (nM:oC K CR "modulus"):nk P w K mg base CX0 1 f fd ["self", "one", "other"] (spROp CR (· + ·)):=by
 refine F.o j7 λ_ _ _ _ H _ Q _ hr h=>?_
 ·obtain ⟨x,dx,p,a,b,rfl,hx,hp,hp9,a0,a1,b0,b1,q⟩:=h
  refine ⟨_,(aj (ar (ao aY (ao aG (pv 1) (pv 2)) (gY (pv 0) rfl)))),?_⟩
  exact ⟨_,rfl,_,rfl,_,_,rfl,rfl,_,rfl,x,CR,dx,_,_,rfl,hx,cl,nM,rfl,_,_,rfl,rfl,hp,q⟩
theorem nq.b {P:Int} (h:nq P):0<=P/\P<=9973/\P ≠ 1:=by
 rcases h with h | ⟨h1,h2,_⟩<;>omega
def spLOp (g:Int->Int × Int->Int × Int->Int × Int):Sp:=λvs H Q _=>∃ (P:Int) (u v:V) (x y:Int × Int),vs=[.int P,u,v]/\nq P/\At P H u x/\At P H v y/\OkN P x/\OkN P y/\Sz 2900 x/\Sz 2900 y/\∀ r H',mY H H'->At P H' r (g P x y)->Q r H'
theorem lS:mZ ["_law_prime_here", "_law_one", "_law_other"] ["_law_prime_here", "_law_one", "_law_other"] (al eK):=.i
theorem ok_lplus {f:Addr} {fd:FuncData} (F:Fun K "_law_plus" "_law_plus" eK f fd) (pV:FnB P w K mg base 1 "_law_low" jV):nk P w K mg base CX0 2 f fd ["_law_prime_here", "_law_one", "_law_other"] (spLOp cG):=by
 refine F.o lS λ_ _ _ _ H _ Q _ hr h=>?_
 ·obtain ⟨P,u,v,x,y,rfl,hP,hu,hv,ox,oy,sx,sy,q⟩:=h
  refine ⟨_,(ag (aJ (aw br (pv 0) ae (az _))
(aj (ar (au pV hr.m (aa (ao aG (ao bD (aA (ay K rfl) (pv 1) ae (λ_ _=>rfl)) (aA (ay K rfl) (pv 2) ae (λ_ _=>rfl))) (ao bD (aA (ay K rfl) (pv 2) ae (λ_ _=>rfl)) (aA (ay K rfl) (pv 1) ae (λ_ _=>rfl)))) (aa (ao bD (aA (ay K rfl) (pv 1) ae (λ_ _=>rfl)) (aA (ay K rfl) (pv 2) ae (λ_ _=>rfl))) af)))))
aB)
(aj (ar (ao aY (ao aG (pv 1) (pv 2)) (pv 0))))),?_⟩
  unfold cG at q
  refine ⟨_,rfl,rfl,_,rfl,bf (λh=>?_) (λh=>?_)⟩
  ·have h0:P=0:=by have:=of_decide_eq_true h; injection this
   rcases hu with ⟨_,s,rfl,hs⟩ | ⟨z,_⟩
   ·rcases hv with ⟨_,t,rfl,ht⟩ | ⟨z,_⟩
    ·rw [if_pos h0] at q
     refine ⟨_,rfl,s,_,_,_,rfl,rfl,SqT.of hs,rfl,_,rfl,t,_,_,_,rfl,rfl,SqT.of ht,rfl,_,_,rfl,rfl,du sx.1 sy.2,_,rfl,t,_,_,_,rfl,rfl,SqT.of ht,rfl,_,rfl,s,_,_,_,rfl,rfl,SqT.of hs,rfl,_,_,rfl,rfl,du sy.1 sx.2,_,_,rfl,rfl,?_⟩
     refine ⟨_,rfl,s,_,_,_,rfl,rfl,SqT.of hs,rfl,_,rfl,t,_,_,_,rfl,rfl,SqT.of ht,rfl,_,_,rfl,rfl,du sx.2 sy.2,_,_,rfl,dF ox.den oy.den,mulSz2 sx.2 sy.2,λr nr=>?_⟩
     exact q _ _ (mY.new nr) (.inl ⟨h0,r,rfl,ac⟩)
    ·exact absurd h0 z
   ·exact absurd h0 z
  ·have h0:P ≠ 0:=λz=>h (decide_eq_true (congrArg V.int z))
   have hPp:0<P:=by have:=hP.b; omega
   rcases hu with ⟨z,_⟩ | ⟨_,rfl,_⟩
   ·exact absurd z h0
   ·rcases hv with ⟨z,_⟩ | ⟨_,rfl,_⟩
    ·exact absurd z h0
    ·rw [if_neg h0] at q
     exact ⟨_,rfl,_,rfl,_,_,rfl,rfl,_,rfl,_,_,rfl,rfl,hPp,q _ H (mY.refl H) (.inr ⟨h0,rfl,rfl⟩)⟩
theorem j3:mZ ["_law_prime_here", "_law_one", "_law_other"] ["_law_prime_here", "_law_one", "_law_other"] (al dY):=.i
theorem ok_ltimes {f:Addr} {fd:FuncData} (F:Fun K "_law_times" "_law_times" dY f fd) (pV:FnB P w K mg base 1 "_law_low" jV):nk P w K mg base CX0 2 f fd ["_law_prime_here", "_law_one", "_law_other"] (spLOp fC):=by
 refine F.o j3 λ_ _ _ _ H _ Q _ hr h=>?_
 ·obtain ⟨P,u,v,x,y,rfl,hP,hu,hv,ox,oy,sx,sy,q⟩:=h
  refine ⟨_,(ag (aJ (aw br (pv 0) ae (az _))
(aj (ar (au pV hr.m (aa (ao bD (aA (ay K rfl) (pv 1) ae (λ_ _=>rfl)) (aA (ay K rfl) (pv 2) ae (λ_ _=>rfl))) (aa (ao bD (aA (ay K rfl) (pv 1) ae (λ_ _=>rfl)) (aA (ay K rfl) (pv 2) ae (λ_ _=>rfl))) af)))))
aB)
(aj (ar (ao aY (ao bc (pv 1) (pv 2)) (pv 0))))),?_⟩
  unfold fC at q
  refine ⟨_,rfl,rfl,_,rfl,bf (λh=>?_) (λh=>?_)⟩
  ·have h0:P=0:=by have:=of_decide_eq_true h; injection this
   rcases hu with ⟨_,s,rfl,hs⟩ | ⟨z,_⟩
   ·rcases hv with ⟨_,t,rfl,ht⟩ | ⟨z,_⟩
    ·rw [if_pos h0] at q
     refine ⟨_,rfl,s,_,_,_,rfl,rfl,SqT.of hs,rfl,_,rfl,t,_,_,_,rfl,rfl,SqT.of ht,rfl,_,_,rfl,rfl,du sx.1 sy.1,?_⟩
     refine ⟨_,rfl,s,_,_,_,rfl,rfl,SqT.of hs,rfl,_,rfl,t,_,_,_,rfl,rfl,SqT.of ht,rfl,_,_,rfl,rfl,du sx.2 sy.2,_,_,rfl,dF ox.den oy.den,mulSz2 sx.2 sy.2,λr nr=>?_⟩
     exact q _ _ (mY.new nr) (.inl ⟨h0,r,rfl,ac⟩)
    ·exact absurd h0 z
   ·exact absurd h0 z
  ·have h0:P ≠ 0:=λz=>h (decide_eq_true (congrArg V.int z))
   have hb:=hP.b
   have hPp:0<P:=by omega
   rcases hu with ⟨z,_⟩ | ⟨_,rfl,_⟩
   ·exact absurd z h0
   ·rcases hv with ⟨z,_⟩ | ⟨_,rfl,_⟩
    ·exact absurd z h0
    ·rw [if_neg h0] at q
     rcases ox with ⟨z,_⟩ | ⟨_,x0,x1,_⟩
     ·exact absurd z h0
     exact ⟨_,rfl,_,rfl,_,_,rfl,rfl,.inl ⟨by omega,by omega⟩,_,rfl,_,_,rfl,rfl,hPp,q _ H (mY.refl H) (.inr ⟨h0,rfl,rfl⟩)⟩
def gz:Sp:=λvs H Q _=>∃ P:Int,vs=[.int P]/\nq P/\∀ r H',mY H H'->At P H' r (0,1)->Q r H'
theorem jf:mZ ["_law_prime_here"] ["_law_prime_here"] (al cY):=.i
theorem ok_nought {f:Addr} {fd:FuncData} (F:Fun K "_law_nought" "_law_nought" cY f fd) (T:Blt mg):nk P w K mg base CX0 1 f fd ["_law_prime_here"] gz:=by
 refine F.o jf λ_ _ _ _ H _ Q _ hr h=>?_
 ·obtain ⟨P,rfl,hP,q⟩:=h
  refine ⟨_,(aj (ar (aA (aE K rfl) (aQ (aa (aL (aa ae (aa ae af))) (aa ae af))) (dj hW (by rfl) T.int fz (aa (fw eh (pv 0) ae (az _)) af)) (λ_ _=>rfl)))),?_⟩
  refine ⟨(by show 2<=sizeLine; decide),λt nt=>?_⟩
  refine ⟨(by show 2<=sizeLine; decide),λl nl=>?_⟩
  have s1:=mY.new (o:=.tup [.int 0,.int 1]) nt
  have s2:=mY.new (o:=.lst [.ref t,.int 0]) nl
  have hb:=hP.b
  by_cases h0:P=0
  ·refine ⟨_,rfl,_,_,rfl,rfl,.inr ⟨_,rfl,l,_,_,_,rfl,rfl,SqL.of ac,(by rw [decide_eq_false (by omega)]; rfl),?_⟩⟩
   exact q _ _ (s1.trans s2) (.inl ⟨h0,t,rfl,s2 _ _ ac⟩)
  ·refine ⟨_,rfl,_,_,rfl,rfl,.inr ⟨_,rfl,l,_,_,_,rfl,rfl,SqL.of ac,(by rw [decide_eq_true (by omega)]; rfl),?_⟩⟩
   exact q _ _ (s1.trans s2) (.inr ⟨h0,rfl,rfl⟩)
def spUnit:Sp:=λvs H Q _=>∃ P:Int,vs=[.int P]/\nq P/\∀ r H',mY H H'->At P H' r (1,1)->Q r H'
theorem mj:mZ ["_law_prime_here"] ["_law_prime_here"] (al eA):=.i
theorem ok_unit {f:Addr} {fd:FuncData} (F:Fun K "_law_unit" "_law_unit" eA f fd) (T:Blt mg):nk P w K mg base CX0 1 f fd ["_law_prime_here"] spUnit:=by
 refine F.o mj λ_ _ _ _ H _ Q _ hr h=>?_
 ·obtain ⟨P,rfl,hP,q⟩:=h
  refine ⟨_,(aj (ar (aA (aE K rfl) (aQ (aa (aL (aa ae (aa ae af))) (aa ae af))) (dj hW (by rfl) T.int fz (aa (fw eh (pv 0) ae (az _)) af)) (λ_ _=>rfl)))),?_⟩
  refine ⟨(by show 2<=sizeLine; decide),λt nt=>?_⟩
  refine ⟨(by show 2<=sizeLine; decide),λl nl=>?_⟩
  have s1:=mY.new (o:=.tup [.int 1,.int 1]) nt
  have s2:=mY.new (o:=.lst [.ref t,.int 1]) nl
  have hb:=hP.b
  by_cases h0:P=0
  ·refine ⟨_,rfl,_,_,rfl,rfl,.inr ⟨_,rfl,l,_,_,_,rfl,rfl,SqL.of ac,(by rw [decide_eq_false (by omega)]; rfl),?_⟩⟩
   exact q _ _ (s1.trans s2) (.inl ⟨h0,t,rfl,s2 _ _ ac⟩)
  ·refine ⟨_,rfl,_,_,rfl,rfl,.inr ⟨_,rfl,l,_,_,_,rfl,rfl,SqL.of ac,(by rw [decide_eq_true (by omega)]; rfl),?_⟩⟩
   exact q _ _ (s1.trans s2) (.inr ⟨h0,rfl,rfl⟩)
def dN (P:Int) (x:Int × Int):PyData:=if P=0 then ef [x.1,x.2] else .int x.1
theorem fF {K:Frag} {P:Int} {H:Hp} {v:V} {x:Int × Int} (h:At P H v x):DR K H (dN P x) v:=by
 unfold dN
 rcases h with ⟨h0,t,rfl,e⟩ | ⟨h0,rfl,_⟩
 ·rw [if_pos h0]
  exact dM (ns:=[x.1,x.2]) (SqT.of e)
 ·rw [if_neg h0]
  exact .int _
theorem bC (P:Int) (x:Int × Int):SeqAt.shaped (dN P x)=true:=by
 unfold dN
 split
 ·exact bL _
 ·rfl
def spDeg (K:Frag):Sp:=λvs H Q _=>∃ (a:Addr) (ns:List Int),vs=[.ref a]/\SqT K H a (ns.map V.int)/\Q (.int ns.sum) H
theorem sc_degree:mZ ["one"] ["one"] (al jP):=.i
theorem ok_degree {f:Addr} {fd:FuncData} (F:Fun K "degree" "degree" jP f fd) (T:Blt mg):nk P w K mg base CX0 1 f fd ["one"] (spDeg K):=by
 refine F.o sc_degree λ_ _ _ _ H _ Q _ hr h=>?_
 ·obtain ⟨a,ns,rfl,ha,q⟩:=h
  refine ⟨_,(aj (ar (i5 K T (pv 0) true))),?_⟩
  exact ⟨_,rfl,a,ns,rfl,iP ha,q⟩
abbrev ak:=List Int × (Int × Int)
def PartR (P:Int) (H:Hp) (v:V) (p:ak):Prop:=∃ (t k:Addr) (u:V),v=.ref t/\H t=some (.tup [.ref k,u])/\H k=some (.tup (p.1.map V.int))/\At P H u p.2
abbrev nj (P:Int) (H:Hp):List V->List ak->Prop:=Paired (PartR P H)
theorem PartR.mono {P:Int} {H H':Hp} {v:V} {p:ak} (k:∀ t xs,H t=some (.tup xs)->H' t=some (.tup xs)) (h:PartR P H v p):PartR P H' v p:=by
 obtain ⟨t,c,u,rfl,h1,h2,h3⟩:=h
 exact ⟨t,c,u,rfl,k _ _ h1,k _ _ h2,h3.mono k⟩
theorem nj.mono {P:Int} {H H':Hp} (k:∀ t xs,H t=some (.tup xs)->H' t=some (.tup xs)):∀ {vs:List V} {ps:List ak},nj P H vs ps->nj P H' vs ps
 | _,_,.nil=>.nil
 | _,_,.cons q r=>.cons (q.mono k) (nj.mono k r)
theorem nj.at_ {P:Int} {H:Hp}:∀ {vs:List V} {ps:List ak} {i:Nat} {v:V},nj P H vs ps->vs[i]? = some v->∃ p,ps[i]? = some p/\PartR P H v p
 | _,_,0,v,.cons q r,e=>by cases e; exact ⟨_,rfl,q⟩
 | _::_,_::_,i+1,v,.cons q r,e=>nj.at_ (i:=i) r e
theorem dh {α β:Type} {R:α->β->Prop}:∀ {xs:List α} {ys:List β} {i:Nat} {x:α} {y:β},Paired R xs ys->xs[i]? = some x->ys[i]? = some y->R x y
 | _,_,0,x,y,.cons q r,e1,e2=>by cases e1; cases e2; exact q
 | _::_,_::_,i+1,x,y,.cons q r,e1,e2=>dh (i:=i) r e1 e2
def cQ (P:Int) (m:List ak) (p:ak):List ak:=cW m p.1 (cG P ((bo m p.1).getD (0,1)) p.2)
def acc (P:Int) (ps:List ak):List ak:=ps.foldl (cQ P) []
theorem acc_snoc (P:Int) (ps:List ak) (p:ak):acc P (ps++[p])=cQ P (acc P ps) p:=by
 unfold acc
 rw [List.foldl_append]
 rfl
theorem eE {P:Int} {ps:List ak} {i:Nat} {p:ak} (h:ps[i]? = some p):acc P (ps.take (i+1))=cQ P (acc P (ps.take i)) p:=by
 rw [take_add_one,h]
 exact acc_snoc P _ p
def iz (P:Int) (ps:List ak):Prop:=(∀ p ∈ ps,OkN P p.2/\Sz 2900 p.2)/\∀ i,∀ p ∈ acc P (ps.take i),Sz 2900 p.2
theorem fj (P:Int) (ps:List ak):((acc P ps).map (·.1)).Nodup:=by
 unfold acc
 have go:∀ (ps m:List ak),(m.map (·.1)).Nodup->((ps.foldl (cQ P) m).map (·.1)).Nodup:=by
  intro ps
  induction ps with
  | nil=>intro m h; exact h
  | cons p ps ih=>intro m h; exact ih _ (aput_nodup h)
 exact go ps [] (by simp)
theorem gU (P:Int) (ps:List ak):(acc P ps).length<=ps.length:=by
 unfold acc
 have go:∀ (ps m:List ak),(ps.foldl (cQ P) m).length<=m.length+ps.length:=by
  intro ps
  induction ps with
  | nil=>intro m; simp
  | cons p ps ih=>
   intro m
   have h1:=ih (cQ P m p)
   have h2:(cQ P m p).length<=m.length+1:=aput_len _ _ _
   show (ps.foldl (cQ P) (cQ P m p)).length<=_
   rw [length_cons]
   omega
 simpa using go ps []
theorem gi {P:Int} (hP:0<=P) (h1:P ≠ 1) {ps:List ak} (h:∀ p ∈ ps,OkN P p.2):∀ p ∈ acc P ps,OkN P p.2:=by
 unfold acc
 have go:∀ (ps m:List ak),(∀ p ∈ ps,OkN P p.2)->(∀ p ∈ m,OkN P p.2)->∀ p ∈ ps.foldl (cQ P) m,OkN P p.2:=by
  intro ps
  induction ps with
  | nil=>intro m _ h; exact h
  | cons p ps ih=>
   intro m hp hm
   refine ih _ (λq hq=>hp q (by simp [hq])) λq hq=>?_
   rcases dn hq with z | z
   ·rw [z]
    refine okN_add hP ?_ (hp p (by simp))
    cases e:bo m p.1 with
    | none=>exact dA hP h1
    | some y=>exact hm _ (bh e)
   ·exact hm q z
 exact go ps [] h (λp hp=>nomatch hp)
def nz (p:ak):Bool:=decide (p.2 ≠ (0,1))
def hk (p:ak):Int × List Int:=(p.1.sum,p.1)
def nO (P:Int) (ps out:List ak):Prop:=out.Perm ((acc P ps).filter nz)/\out.Pairwise λa b=>klt (hk b) (hk a)=true
theorem mK {P:Int} {x y:Int × Int} (hx:OkN P x) (hy:OkN P y):PyData.eqv (dN P x) (dN P y)=decide (x=y):=by
 unfold dN
 by_cases h0:P=0
 ·rw [if_pos h0,if_pos h0,jS]
  apply decide_eq_decide.mpr
  constructor
  ·intro z
   injection z with z1 z2
   injection z2 with z2
   exact Prod.ext z1 z2
  ·intro z; rw [z]
 ·rw [if_neg h0,if_neg h0]
  rcases hx with ⟨z,_⟩ | ⟨_,_,_,x2⟩
  ·exact absurd z h0
  rcases hy with ⟨z,_⟩ | ⟨_,_,_,y2⟩
  ·exact absurd z h0
  have e:PyData.eqv (.int x.1) (.int y.1)=decide (x.1=y.1):=by simp only [PyData.eqv]; rfl
  rw [e]
  apply decide_eq_decide.mpr
  exact ⟨λz=>Prod.ext z (x2.trans y2.symm),λz=>by rw [z]⟩
theorem sz_01:Sz 2900 (0,1):=⟨Nat.pow_pos (by decide),Nat.one_lt_two_pow (by decide)⟩
def vI:V->Int
 | .int i=>i
 | _=>0
def tupI (H:Hp):V->List Int
 | .ref k=>match H k with
  | some (.tup xs)=>xs.map vI
  | _=>[]
 | _=>[]
def jZ (H:Hp) (v:V):Int × List Int:=((tupI H v).sum,tupI H v)
def keyP (H:Hp):V->Int × List Int
 | .ref t=>match H t with
  | some (.tup (k::_))=>jZ H k
  | _=>(0,[])
 | _=>(0,[])
theorem iX {H:Hp} {k:Addr} {ns:List Int} (h:H k=some (.tup (ns.map V.int))):tupI H (.ref k)=ns:=by
 show (match H k with | some (.tup xs)=>xs.map vI | _=>[])=ns
 rw [h]
 show (ns.map V.int).map vI=ns
 rw [map_map]
 exact List.map_id'' (λ_=>rfl) ns
theorem PartR.key {P:Int} {H:Hp} {v:V} {p:ak} (h:PartR P H v p):keyP H v=hk p:=by
 obtain ⟨t,k,u,rfl,h1,h2,_⟩:=h
 show (match H t with | some (.tup (k::_))=>jZ H k | _=>(0,[]))=hk p
 rw [h1]
 show jZ H (.ref k)=hk p
 unfold jZ hk
 rw [iX h2]
theorem nj.keys {P:Int} {H:Hp}:∀ {vs:List V} {ps:List ak},nj P H vs ps->vs.map (keyP H)=ps.map hk
 | _,_,.nil=>rfl
 | _,_,.cons q r=>by rw [map_cons,map_cons,q.key,nj.keys r]
theorem hk_nodup {ps:List ak} (h:(ps.map (·.1)).Nodup):(ps.map hk).Nodup:=by
 have e:ps.map hk=(ps.map (·.1)).map (λk:List Int=>(k.sum,k)):=by rw [map_map]; rfl
 rw [e]
 exact List.Pairwise.map _ (λa b hab z=>hab (congrArg Prod.snd z)) h
theorem nj.perm {P:Int} {H:Hp} {vs ws:List V} {ps:List ak} (h:nj P H vs ps) (p:ws.Perm vs):∃ qs:List ak,qs.Perm ps/\nj P H ws qs:=by
 have go:∀ {ws vs:List V},ws.Perm vs->∀ ps:List ak,nj P H vs ps->∃ qs:List ak,qs.Perm ps/\nj P H ws qs:=by
  intro ws vs p
  induction p with
  | nil=>intro ps h; exact ⟨ps,.refl _,h⟩
  | cons x p ih=>
   intro ps h
   cases h with
   | cons q r=>
    obtain ⟨qs,e,h'⟩:=ih _ r
    exact ⟨_::qs,e.cons _,.cons q h'⟩
  | swap x y l=>
   intro ps h
   cases h with
   | cons q r=>cases r with
    | cons q2 r=>exact ⟨_::_::_,.swap _ _ _,.cons q2 (.cons q r)⟩
  | trans p1 p2 ih1 ih2=>
   intro ps h
   obtain ⟨qs,e,h'⟩:=ih2 _ h
   obtain ⟨rs,e2,h2⟩:=ih1 _ h'
   exact ⟨rs,e2.trans e,h2⟩
 exact go p ps h
theorem nj.fall {P:Int} {H:Hp} {lt:Int × List Int->Int × List Int->Bool}:∀ {vs:List V} {ps:List ak},nj P H vs ps->vs.Pairwise (λx y=>lt (keyP H y) (keyP H x)=true)->ps.Pairwise (λa b=>lt (hk b) (hk a)=true):=by
 intro vs ps h hp
 have z:(vs.map (keyP H)).Pairwise (λa b=>lt b a=true):=List.pairwise_map.mpr hp
 rw [h.keys] at z
 exact List.pairwise_map.mp z
theorem nj.snoc {P:Int} {H:Hp} {v:V} {p:ak} (q:PartR P H v p):∀ {vs:List V} {ps:List ak},nj P H vs ps->nj P H (vs++[v]) (ps++[p])
 | _,_,.nil=>.cons q .nil
 | _,_,.cons a r=>.cons a (nj.snoc q r)
theorem nj.mem {P:Int} {H:Hp}:∀ {vs:List V} {ps:List ak} {v:V},nj P H vs ps->v ∈ vs->∃ p ∈ ps,PartR P H v p
 | _,_,v,.cons q r,hv=>by
  rcases List.mem_cons.mp hv with rfl | hv
  ·exact ⟨_,by simp,q⟩
  ·obtain ⟨p,hp,h⟩:=nj.mem r hv
   exact ⟨p,by simp [hp],h⟩
theorem cO {ps:List ak} {i:Nat} {p:ak} (h:ps[i]? = some p):(ps.take (i+1)).filter nz=(ps.take i).filter nz++(if nz p=true then [p] else []):=by
 rw [take_add_one,h,List.filter_append]
 congr 1
 show List.filter nz [p]=_
 by_cases e:nz p=true
 ·rw [if_pos e]; simp [e]
 ·rw [if_neg e]; simp [e]
theorem paired_perm {α β:Type} {R:α->β->Prop} {ws vs:List α} (p:ws.Perm vs):∀ ps:List β,Paired R vs ps->∃ qs:List β,qs.Perm ps/\Paired R ws qs:=by
 induction p with
 | nil=>intro ps h; exact ⟨ps,.refl _,h⟩
 | cons x p ih=>
  intro ps h
  cases h with
  | cons q r=>
   obtain ⟨qs,e,h'⟩:=ih _ r
   exact ⟨_::qs,e.cons _,.cons q h'⟩
 | swap x y l=>
  intro ps h
  cases h with
  | cons q r=>cases r with
   | cons q2 r=>exact ⟨_::_::_,.swap _ _ _,.cons q2 (.cons q r)⟩
 | trans p1 p2 ih1 ih2=>
  intro ps h
  obtain ⟨qs,e,h'⟩:=ih2 _ h
  obtain ⟨rs,e2,h2⟩:=ih1 _ h'
  exact ⟨rs,e2.trans e,h2⟩
def ProdR (H:Hp) (v:V) (p:ak):Prop:=∃ a,v=.ref a/\H a=some (.tup (p.1.map V.int))
theorem prod_of {H:Hp}:∀ {as:List Addr} {m:List ak},Paired (λ(a:Addr) (q:ak)=>H a=some (.tup (q.1.map V.int))) as m->Paired (ProdR H) (as.map V.ref) m
 | _,_,.nil=>.nil
 | _,_,.cons q r=>.cons ⟨_,rfl,q⟩ (prod_of r)
theorem g0 {H:Hp}:∀ {vs:List V} {m:List ak},Paired (ProdR H) vs m->vs.map (jZ H)=m.map hk
 | _,_,.nil=>rfl
 | _,_,.cons ⟨a,e,q⟩ r=>by
  rw [map_cons,map_cons,g0 r,e]
  unfold jZ hk
  rw [iX q]
theorem prod_mem {H:Hp}:∀ {vs:List V} {ps:List ak} {v:V},Paired (ProdR H) vs ps->v ∈ vs->∃ p ∈ ps,ProdR H v p
 | _,_,v,.cons q r,hv=>by
  rcases List.mem_cons.mp hv with rfl | hv
  ·exact ⟨_,by simp,q⟩
  ·obtain ⟨p,hp,h⟩:=prod_mem r hv
   exact ⟨p,by simp [hp],h⟩
theorem zero_if (P:Int):(if P=0 then ((0:Int),(1:Int)) else (0 % P,1))=(0,1):=by
 split
 ·rfl
 ·rw [Int.zero_emod]
def spKey (K:Frag):Sp:=λvs H Q _=>∃ (t k:Addr) (u:V) (ns:List Int),vs=[.ref t]/\H t=some (.tup [.ref k,u])/\SqT K H k (ns.map V.int)/\∀ r,H r=none->Q (.ref r) (upd H r (.tup [.int ns.sum,.ref k]))
def mv:Sp:=λvs H Q _=>∃ (l:Addr) (P:Int) (ts:List V) (ps:List ak),vs=[.int P,.ref l]/\nq P/\H l=some (.lst ts)/\nj P H ts ps/\ps.length<=60/\iz P ps/\
 ∀ (d:Addr) (rs:List V) (out:List ak) (H':Hp),H d=none->mY H H'->H' d=some (.lst rs)->nj P H' rs out->nO P ps out->Q (.ref d) H'
theorem sc__law_key:mZ ["_law_part"] ["_law_part"] (al fX):=.i
theorem ok_lkey {f:Addr} {fd:FuncData} (F:Fun K "_law_key" "_law_key" fX f fd) (T:Blt mg):nk P w K mg base CX0 1 f fd ["_law_part"] (spKey K):=by
 refine F.o sc__law_key λ_ _ _ _ H _ Q _ hr h=>?_
 ·obtain ⟨t,k,u,ns,rfl,ht,hk,q⟩:=h
  refine ⟨_,(aj (ar (aL (aa (i5 K T (aA (ay K rfl) (pv 0) ae (λ_ _=>rfl)) true) (aa (aA (ay K rfl) (pv 0) ae (λ_ _=>rfl)) af))))),?_⟩
  exact ⟨_,rfl,t,_,_,_,rfl,rfl,SqT.of ht,rfl,k,ns,rfl,iP hk,_,rfl,t,_,_,_,rfl,rfl,SqT.of ht,rfl,by show 2<=sizeLine; decide,q⟩
theorem oY:mZ ["_law_prime_here", "_law_parts", "_law_come", "_law_product_here", "_law_number_here", "_law_found"] ["_law_prime_here", "_law_parts"] (al fM):=.i
theorem ok_lsum {f:Addr} {fd:FuncData} (F:Fun K "_law_sum" "_law_sum" fM f fd) (T:Blt mg) (tZ:FnB P w K mg base 2 "_law_plus" (spLOp cG)) (pY:FnB P w K mg base 1 "_law_nought" gz) (ut:FnB P w K mg base 1 "_law_key" (spKey K)) :
  nk P w K mg base CX0 4 f fd ["_law_prime_here", "_law_parts"] mv:=by
 refine F.o oY λ_ _ _ _ H _ Q _ hr h=>?_
 ·obtain ⟨l,P,ts,ps,rfl,hP,hl,hps,hn,hok,q⟩:=h
  have hB:=hP.b
  refine ⟨_,(ag (aq (i:=2) oY.nd rfl (Or.inr rfl) jI)
(ag (bp PassesOwn.never rfl (aM K rfl (pv 1)) (bB K (i:=3) (j:=4) rfl rfl oY.nd rfl rfl rfl rfl)
(aj (mh (hu1 hr) (pv 2) (pv 3) (au tZ hr.m (aa (pv 0) (aa (pe_dget2 (hu1 hr) (pv 2) (pv 3) (au pY hr.m (aa (pv 0) af)) ⟨rfl,rfl,rfl,rfl⟩) (aa (pv 4) af)))) rfl)))
(ag (mS (i:=5) oY.nd rfl (Or.inl rfl) (N:=["_law_product_here", "_law_come", "_law_prime_here"]) (src:=[none,some 2,some 0]) rfl rfl rfl (by exact (kpi_dict K rfl (pv 2))) (λ_ _ _=>by exact ⟨by exact (bM (i:=0) nd_1 rfl rfl),(cV (aw (jY K rfl hr.units) (dL (hu1 hr) (pv 1) (pv 0) (λ_ _=>rfl)) (au pY hr.m (aa (pv 2) af)) (az _))),by exact (aL (aa (pv 0) (aa (dL (hu1 hr) (pv 1) (pv 0) (λ_ _=>rfl)) af)))⟩))
(aj (ar (pe_sortK T ut hr.m (pv 5))))))),?_⟩
  have lt:ts.length=ps.length:=Paired.length hps
  intro d hd
  have dl:d ≠ l:=λz=>by rw [z,hl] at hd; cases hd
  refine ⟨_,rfl,l,rfl,⟨_,SqL.of (by rw [am dl.symm]; exact hl)⟩,eZ (xs:=ts) (λi σ H'=>∃ (x3 x4:Option V) (kvs:List (List Key × V)),σ=[some (.int P),some (.ref l),some (.ref d),x3,x4,none]/\mY H H'/\H' d=some (.dT kvs)/\nG (At P H') kvs (acc P (ps.take i))) ?_ ?_ ?_ ?_⟩
  ·exact ⟨none,none,[],rfl,mY.new hd,ac,.nil⟩
  ·rintro i σ H' _ ⟨x3,x4,kvs,rfl,sm,_⟩
   exact SqL.of (sm _ _ hl)
  ·rintro i x σ H1 hx ⟨x3,x4,kvs,rfl,sm,hd1,dr⟩
   obtain ⟨p,ep,t,k,u,rfl,ht,hk,hu⟩:=hps.at_ hx
   have tk:∀ t xs,H t=some (.tup xs)->H1 t=some (.tup xs):=λt xs e=>sm _ _ e
   refine ⟨t,_,rfl,SqT.of (sm _ _ ht),rfl,_,_,rfl,_,_,rfl,rfl,?_⟩
   refine ⟨_,rfl,_,rfl,d,rfl,.inr ⟨kvs,.inl hd1⟩,_,rfl,_,rfl,P,rfl,hP,λr H2 s2 a0=>?_⟩
   have hk2:H2 k=some (.tup ((kI p.1).map kV)):=by rw [kl]; exact s2 _ _ (sm _ _ hk)
   refine ⟨_,DGet.t (s2 _ _ hd1) hk2,?_⟩
   have mp:p ∈ ps:=mem_of_getElem? ep
   obtain ⟨op,zp⟩:=hok.1 p mp
   have okm:∀ q ∈ acc P (ps.take i),OkN P q.2:=gi hB.1 hB.2.2 λq hq=>(hok.1 q (mem_of_mem_take hq)).1
   have hw:At P H2 ((fD kvs (kI p.1)).getD r) ((bo (acc P (ps.take i)) p.1).getD (0,1))/\OkN P ((bo (acc P (ps.take i)) p.1).getD (0,1))/\Sz 2900 ((bo (acc P (ps.take i)) p.1).getD (0,1)):=by
    rcases dr.val p.1 with ⟨e1,e2⟩ | ⟨v,y,e1,e2,ra⟩
    ·rw [e1,e2]
     exact ⟨a0,dA hB.1 hB.2.2,sz_01⟩
    ·rw [e1,e2]
     exact ⟨ra.same s2,okm _ (bh e2),hok.2 i _ (bh e2)⟩
   refine ⟨_,rfl,P,_,u,_,p.2,rfl,hP,hw.1,(hu.same (sm.trans s2)),hw.2.1,op,hw.2.2,zp,λr3 H3 s3 a3=>?_⟩
   refine ⟨_,rfl,_,rfl,d,_,rfl,DPut.t (k:=kI p.1) (s3 _ _ (s2 _ _ hd1)) (s3 _ _ hk2) ?_,?_⟩
   ·have h1:kvs.length=(acc P (ps.take i)).length:=Paired.length dr
    have h2:=gU P (ps.take i)
    rw [length_take] at h2
    rw [h1,sizeLine_eq]
    omega
   ·have d3:H3 d=some (.dT kvs):=s3 _ _ (s2 _ _ hd1)
    have keep:∀ c o,H3 c=some o->c ≠ d->upd H3 d (.dT (bU kvs (kI p.1) r3)) c=some o:=λc o e hc=>by rw [am hc]; exact e
    have tk3:∀ t xs,H3 t=some (.tup xs)->upd H3 d (.dT (bU kvs (kI p.1) r3)) t=some (.tup xs):=λt xs e=>keep t _ e (bq e d3 (by intro z; cases z))
    refine ⟨_,_,_,rfl,λc o e=>keep c o (s3 _ _ (s2 _ _ (sm c o e))) (ah e hd),ac,?_⟩
    rw [eE ep]
    exact nG.put (a3.mono tk3) (dr.mono λv x z=>((z.same s2).same s3).mono tk3)
  ·rintro σ H1 ⟨x3,x4,kvs,rfl,sm,hd1,dr⟩
   rw [lt,take_length] at dr
   have nd:=fj P ps
   have lm:=gU P ps
   have okm:∀ q ∈ acc P ps,OkN P q.2:=gi hB.1 hB.2.2 λq hq=>(hok.1 q hq).1
   unfold nO at q
   generalize acc P ps=m at *
   refine ⟨_,rfl,d,kvs,rfl,hd1,λo as pk=>?_⟩
   have tp:=dr.tups pk
   have la:as.length=m.length:=Paired.length tp
   have keep:∀ c u,H1 c=some u->c ≠ d->upd H1 d (.frz o (.dT kvs)) c=some u:=λc u e hc=>by rw [am hc]; exact e
   have tk:∀ t xs,H1 t=some (.tup xs)->upd H1 d (.frz o (.dT kvs)) t=some (.tup xs):=λt xs e=>keep t _ e (bq e hd1 (by intro z; cases z))
   have smF:mY H (upd H1 d (.frz o (.dT kvs))):=λc u e=>keep c u (sm c u e) (ah e hd)
   have hfz:upd H1 d (.frz o (.dT kvs)) d=some (.frz o (.dT kvs)):=ac
   have dr':nG (At P (upd H1 d (.frz o (.dT kvs)))) kvs m:=dr.mono λv x z=>z.mono tk
   have tpF:∀ (i:Nat) (a:Addr) (p:ak),as[i]? = some a->m[i]? = some p->upd H1 d (.frz o (.dT kvs)) a=some (.tup (p.1.map V.int)):=λi a p h1 h2=>tk _ _ (show H1 a=some (.tup (p.1.map V.int)) from dh (R:=λ(a:Addr) (q:ak)=>H1 a=some (.tup (q.1.map V.int))) tp h1 h2)
   generalize upd H1 d (.frz o (.dT kvs))=HF at *
   refine be (n:=m.length) (σ0:=[none,some (.ref d),some (.int P)]) rfl (λacc i zs σ H'=>∃ u:Option V,σ=[u,some (.ref d),some (.int P)]/\mY HF H'/\nj P H' zs ((m.take i).filter nz)) (by rw [sizeLine_eq]; omega) (λacc hacc=>⟨none,rfl,mY.new hacc,.nil⟩) ?_ ?_ ?_ ?_
   ·rintro acc i zs σ H' hacc hi hz ⟨u,rfl,sm',_⟩
    exact ⟨sm' _ _ hfz,by rw [length_map,la]; exact hi⟩
   ·rintro acc zs σ H' hacc hz ⟨u,rfl,sm',_⟩
    exact ⟨sm' _ _ hfz,by rw [length_map,la]; exact Nat.le_refl _⟩
   ·rintro acc i zs σ H9 x H' hacc hi hz hzl ⟨u,rfl,sm',pr⟩ ⟨rfl,hx⟩
    obtain ⟨a,ea,rfl⟩:∃ a,as[i]? = some a/\x=.ref a:=by
     rw [getElem?_map] at hx
     cases e:as[i]? with
     | none=>rw [e] at hx; cases hx
     | some a=>rw [e] at hx; exact ⟨a,rfl,(Option.some.inj hx).symm⟩
    obtain ⟨p,ep⟩:∃ p,m[i]? = some p:=⟨_,getElem?_eq_getElem hi⟩
    have mp:p ∈ m:=mem_of_getElem? ep
    have ha:=tpF i a p ea ep
    obtain ⟨v,e1,av⟩:∃ v,fD kvs (kI p.1)=some v/\At P HF v p.2:=by
     rcases dr'.val p.1 with ⟨_,e2⟩ | ⟨v,y,e1,e2,ra⟩
     ·rw [fA nd (show (p.1,p.2) ∈ m from mp)] at e2; cases e2
     ·rw [fA nd (show (p.1,p.2) ∈ m from mp)] at e2
      cases e2
      exact ⟨v,e1,ra⟩
    have dg:∀ H2,mY HF H2->DGet H2 d (.ref a) (some v):=λH2 s2=>.inr ⟨kvs,kI p.1,a,.inr ⟨o,s2 _ _ hfz⟩,rfl,by rw [kl]; exact s2 _ _ ha,e1.symm⟩
    refine ⟨_,rfl,_,rfl,d,v,rfl,dg H' sm',_,rfl,P,rfl,hP,λr H3 s3 a3=>?_⟩
    have s3':=sm'.trans s3
    refine ⟨dN P p.2,dN P (0,1),fF (av.same s3'),fF a3,bC _ _,bC _ _,?_⟩
    rw [mK (okm p mp) (dA hB.1 hB.2.2)]
    have en:(!decide (p.2=(0,1)))=nz p:=by unfold nz; rw [decide_not]
    rw [en]
    have pr3:=pr.mono λt xs e=>s3 _ _ e
    refine ⟨_,rfl,bf (λh=>?_) (λh=>?_)⟩
    ·refine ⟨_,rfl,_,rfl,_,rfl,d,v,rfl,dg H3 s3',by show 2<=sizeLine; decide,λt nt=>?_⟩
     have s4:=mY.new (o:=.tup [.ref a,v]) nt
     have s4':=s3'.trans s4
     have hz4:=s4 _ _ (s3 _ _ hz)
     have keep4:∀ c u,(upd H3 t (.tup [.ref a,v])) c=some u->c ≠ acc->upd (upd H3 t (.tup [.ref a,v])) acc (.lst (zs++[.ref t])) c=some u:=λc u e hc=>by rw [am hc]; exact e
     have tk4:∀ c xs,(upd H3 t (.tup [.ref a,v])) c=some (.tup xs)->upd (upd H3 t (.tup [.ref a,v])) acc (.lst (zs++[.ref t])) c=some (.tup xs):=λc xs e=>keep4 c _ e (bq e hz4 (by intro z; cases z))
     refine ⟨zs,hz4,by rw [sizeLine_eq]; omega,_,ac,by rw [length_append,length_singleton]; omega,_,rfl,λc u e=>keep4 c u (s4' c u e) (ah e hacc),?_⟩
     rw [cO ep,if_pos h]
     exact (nj.snoc (p:=p) ⟨t,a,v,rfl,ac,s4' _ _ ha,av.same s4'⟩ (pr3.mono λt xs e=>s4 _ _ e)).mono tk4
    ·refine ⟨zs,s3 _ _ hz,by omega,_,rfl,s3',?_⟩
     rw [cO ep,if_neg h,append_nil]
     exact pr3
   ·rintro acc zs σ H' hacc hz hzl ⟨u,rfl,sm',pr⟩
    rw [take_length] at pr
    have sub:((m.filter nz).map (·.1)).Nodup:=(List.Sublist.map _ List.filter_sublist).nodup nd
    refine ⟨_,rfl,.inl ⟨acc,zs,rfl,SqL.of hz,by omega,keyP H',?_,λy hy H2 s2=>?_,λD H2 ws nD s2 hD pm pw=>?_⟩⟩
    ·rw [pr.keys]
     exact hk_nodup sub
    ·obtain ⟨p,hp,h⟩:=pr.mem hy
     rw [h.key]
     obtain ⟨t,k,u,rfl,h1,h2,_⟩:=h
     exact ⟨t,k,u,p.1,rfl,s2 _ _ h1,SqT.of (s2 _ _ h2),λr nr=>⟨mY.new nr,r,k,rfl,ac,SqT.of (mY.new nr _ _ (s2 _ _ h2))⟩⟩
    ·obtain ⟨qs,e,h'⟩:=pr.perm pm
     refine q D ws qs H2 ?_ ((smF.trans sm').trans s2) hD (h'.mono λt xs e=>s2 _ _ e) ⟨e,h'.fall pw⟩
     exact (smF.trans sm').free nD
theorem cop_of {p f:Int} (h2:2<=p) (h9:p<=9973) (hp:fU p=true) (f0:0<f) (f1:f<p):Int.gcd p f=1:=by
 have hg0:0<Int.gcd p f:=Int.gcd_pos_of_ne_zero_left f (by omega)
 have hgp:((Int.gcd p f:Nat):Int) ∣ p:=Int.gcd_dvd_left ..
 have hgf:((Int.gcd p f:Nat):Int) ∣ f:=Int.gcd_dvd_right ..
 generalize Int.gcd p f=g at *
 have gle:(g:Int)<=f:=Int.le_of_dvd f0 hgf
 obtain ⟨h,e⟩:=hgp
 by_cases g1:g=1
 ·exact g1
 exfalso
 have g2:2<=(g:Int):=by omega
 have hh:2<=h:=by
  rcases Int.lt_or_le h 2 with z | z
  ·have:=Int.mul_le_mul_of_nonneg_left (show h<=1 by omega) (show 0<=(g:Int) by omega)
   omega
  ·exact z
 have key:∀ d k:Int,2<=d->d<=k->p=d*k->False:=λd k d2 dk ep=>by
  have hdd:d*d<=p:=by rw [ep]; exact Int.mul_le_mul_of_nonneg_left dk (by omega)
  have hd100:d<100:=Int.not_le.mp λz=>by
   have:=Int.mul_le_mul z z (by omega) (by omega)
   omega
  have h0:=(isPb_iff.mp hp).2 d d2 hd100 hdd
  have:p % d=0:=by rw [ep]; exact Int.mul_emod_right d k
  omega
 rcases Int.le_total (g:Int) h with z | z
 ·exact key g h g2 z e
 ·exact key h g hh z (by rw [e,Int.mul_comm])
theorem jG {a b p:Int} (h:p ∣ a-b):a % p=b % p:=Int.emod_eq_emod_iff_emod_sub_eq_zero.mpr (Int.emod_eq_zero_of_dvd h)
theorem iY (a p:Int):p ∣ a-a % p:=⟨a / p,by rw [Int.emod_def]; omega⟩
def spInv:Sp:=λvs H Q _=>∃ (w p:Int),vs=[.int w,.int p]/\2<=p/\p<=9973/\fU p=true/\w % p ≠ 0/\∀ r:Int,0<=r->r<p->(r*w) % p=1->Q (.int r) H
theorem nR:mZ ["whole", "prime", "rest", "share", "following", "following_share", "often", "further", "further_share"] ["whole", "prime"] (al gX):=.i
theorem ok_inverse {f:Addr} {fd:FuncData} (F:Fun K "inverse" "inverse" gX f fd):nk P w K mg base CX0 1 f fd ["whole", "prime"] spInv:=by
 refine F.o nR λ_ _ _ _ H _ Q _ hr h=>?_
 ·obtain ⟨a,p,rfl,h2,h9,hp,ha,q⟩:=h
  refine ⟨_,(ag (aq (i:=2) nR.nd rfl (Or.inl rfl) (pv 1))
(ag (aq (i:=3) nR.nd rfl (Or.inl rfl) ae)
(ag (aq (i:=4) nR.nd rfl (Or.inl rfl) (ao aY (pv 0) (pv 1)))
(ag (aq (i:=5) nR.nd rfl (Or.inl rfl) ae)
(ag (eM PassesOwn.never (aw op_ne (pv 4) ae (az _))
(ag (aq (i:=6) nR.nd rfl (Or.inl rfl) (ao bw (pv 2) (pv 4)))
(ag (aq (i:=7) nR.nd rfl (Or.inl rfl) (ao aS (pv 2) (ao bc (pv 6) (pv 4))))
(ag (aq (i:=8) nR.nd rfl (Or.inl rfl) (ao aS (pv 3) (ao bc (pv 6) (pv 5))))
(ag (aq (i:=2) nR.nd rfl (Or.inl rfl) (pv 4))
(ag (aq (i:=3) nR.nd rfl (Or.inl rfl) (pv 5))
(ag (aq (i:=4) nR.nd rfl (Or.inl rfl) (pv 7))
(aj (aq (i:=5) nR.nd rfl (Or.inl rfl) (pv 8))))))))))
(aj (ar (ao aY (pv 5) (pv 1))))))))),?_⟩
  refine ⟨_,rfl,_,rfl,_,rfl,_,_,rfl,rfl,(by show (0:Int)<p; omega),?_⟩
  have m0:=Int.emod_nonneg a (show p ≠ 0 by omega)
  have m1:=Int.emod_lt_of_pos a (show 0<p by omega)
  refine eQ (λσ H'=>∃ (R S F G:Int) (u6 u7 u8:Option V),σ=[some (.int a),some (.int p),some (.int R),some (.int S),some (.int F),some (.int G),u6,u7,u8]/\H'=H/\1<=F/\F<R/\R<=p/\Int.gcd R F=1/\p ∣ S*a-R/\p ∣ G*a-F)
   (λσ _=>match σ with | [_,_,_,_,some (.int F),_,_,_,_]=>F.toNat | _=>0) ⟨p,0,a % p,1,none,none,none,rfl,rfl,by omega,m1,Int.le_refl p,cop_of h2 h9 hp (by omega) m1,⟨-1,by omega⟩,by rw [Int.one_mul]; exact iY a p⟩ ?_ ?_
  ·rintro σ H2 ⟨R,S,F,G,u6,u7,u8,rfl,rfl,f1,fR,Rp,hg,d1,d2⟩
   refine ⟨_,rfl,rfl,_,rfl,?_⟩
   by_cases hF:F=1
   ·subst hF
    refine iteNS rfl ?_
    refine ⟨_,rfl,_,rfl,_,_,rfl,rfl,(by show (0:Int)<p; omega),?_⟩
    refine q _ (Int.emod_nonneg _ (by omega)) (Int.emod_lt_of_pos _ (by omega)) ?_
    have e1:(G % p*a) % p=1 % p:=by
     apply jG
     obtain ⟨k1,e1⟩:=d2
     obtain ⟨k2,e2⟩:=iY G p
     refine ⟨k1-k2*a,?_⟩
     have e3:G % p=G-p*k2:=by omega
     rw [e3,Int.sub_mul,Int.mul_sub,Int.mul_assoc]
     omega
    rw [e1]
    exact Int.emod_eq_of_lt (by decide) (by omega)
   ·rw [decide_eq_false (show ¬ V.int F=V.int 1 from λz=>hF (by injection z))]
    have eq:R.fdiv F=R / F:=Int.fdiv_eq_ediv_of_nonneg _ (by omega)
    have q0:0<=R / F:=Int.ediv_nonneg (by omega) (by omega)
    have q1:R / F<=R:=Int.ediv_le_self F (by omega)
    refine bH ⟨_,rfl,_,rfl,_,_,rfl,rfl,ff (by omega) (by omega),?_⟩
    refine ⟨_,rfl,_,rfl,_,rfl,_,_,rfl,rfl,.inr ⟨by omega,by omega⟩,_,_,rfl,rfl,?_⟩
    refine ⟨_,rfl,_,rfl,_,rfl,_,_,rfl,rfl,.inl ⟨by omega,by omega⟩,_,_,rfl,rfl,?_⟩
    rw [eq]
    have eF:R-R / F*F=R % F:=by rw [Int.emod_def,Int.mul_comm]
    have r0:=Int.emod_nonneg R (show F ≠ 0 by omega)
    have r1:=Int.emod_lt_of_pos R (show 0<F by omega)
    have rn:R % F ≠ 0:=λz=>by
     have hd:F ∣ R:=Int.dvd_of_emod_eq_zero z
     have:Nat.gcd R.natAbs F.natAbs=F.natAbs:=Nat.gcd_eq_right (Int.natAbs_dvd_natAbs.mpr hd)
     have hg':Nat.gcd R.natAbs F.natAbs=1:=hg
     omega
    refine ⟨_,rfl,_,rfl,_,rfl,_,rfl,⟨F,G,R-R / F*F,S-R / F*G,_,_,_,rfl,rfl,by omega,by omega,by omega,?_,d2,?_⟩,?_⟩
    ·rw [eF,Int.emod_def,Int.gcd_comm]
     rw [Int.gcd_sub_mul_left_left]
     exact hg
    ·obtain ⟨k1,e1⟩:=d1
     obtain ⟨k2,e2⟩:=d2
     refine ⟨k1-R / F*k2,?_⟩
     have e3:(S-R / F*G)*a-(R-R / F*F)=(S*a-R)-R / F*(G*a-F):=by
      rw [Int.sub_mul,Int.mul_sub,Int.mul_assoc]
      omega
     rw [e3,e1,e2,Int.mul_sub,Int.mul_left_comm]
    ·show (R-R / F*F).toNat<F.toNat
     omega
  ·rintro σ H Q Q' hq ⟨x,hx,e1,b,hb,h⟩
   exact ⟨x,hx,e1,b,hb,hq _ _ h⟩
def gh (CR CN:Addr):Sp:=λvs H Q E=>∃ (x dx:Addr) (p a b:Int),vs=[.ref x,.int a,.int b]/\H x=some (.ins CR dx [("modulus",.int p)])/\2<=p/\p<=9973/\fU p=true/\
 (b % p=0->E (.ref CN) none H)/\(b % p ≠ 0->∀ r:Int,0<=r->r<p->(r*b) % p=a % p->Q (.int r) H)
theorem sc_Rests_of:mZ ["self", "top", "bottom"] ["self", "top", "bottom"] (al aV):=.i
theorem ok_rofx {f CR pP:Addr} {fd:FuncData} (F:FunD K "of" "Rests.of" aV f fd) (cl:Cls K CR) (nM:oC K CR "modulus") (t9:FnB P w K mg base 1 "inverse" spInv) (ANoNumber:mg "NoNumber"=some (.ref pP)) (xc:XCl K pP) :
  nk P w K mg base (CXE P w) 2 f fd ["self", "top", "bottom"] (gh CR pP):=by
 refine F.okX sc_Rests_of (λvs H Q E h=>?_) (λcdv A outer s H vs Q E hr h=>?_)
 ·obtain ⟨x,dx,p,a,b,rfl,_⟩:=h
  rfl
 ·obtain ⟨x,dx,p,a,b,rfl,hx,h2,h9,hp,qn,qy⟩:=h
  refine ⟨_,(ag (aJ (aw br (ao aY (pv 2) (gY (pv 0) rfl)) ae (az _))
(aj (gO xc.ek ANoNumber (aa lF af)))
aB)
(aj (ar (ao aY (ao bc (pv 1) (au t9 hr.m (aa (pv 2) (aa (gY (pv 0) rfl) af)))) (gY (pv 0) rfl))))),?_⟩
  have p0:(0:Int)<p:=by omega
  refine ⟨_,rfl,_,rfl,x,CR,dx,_,_,rfl,hx,cl,nM,rfl,_,_,rfl,rfl,p0,rfl,_,rfl,?_⟩
  by_cases hb:b % p=0
  ·rw [decide_eq_true (congrArg V.int hb)]
   exact bH ⟨(by show 1<=sizeLine; decide),qn hb⟩
  ·rw [decide_eq_false (show ¬ V.int (b % p)=V.int 0 from λz=>hb (by injection z))]
   refine bx ⟨_,rfl,_,rfl,_,rfl,x,CR,dx,_,_,rfl,hx,cl,nM,rfl,b,p,rfl,h2,h9,hp,hb,λr r0 r1 hr'=>?_⟩
   refine ⟨_,_,rfl,rfl,.inr ⟨by omega,by omega⟩,_,rfl,x,CR,dx,_,_,rfl,hx,cl,nM,rfl,_,_,rfl,rfl,p0,?_⟩
   refine qy hb _ (Int.emod_nonneg _ (by omega)) (Int.emod_lt_of_pos _ p0) ?_
   apply jG
   obtain ⟨k1,e1⟩:=iY (a*r) p
   obtain ⟨k2,e2⟩:=iY (r*b) p
   rw [hr'] at e2
   refine ⟨a*k2-k1*b,?_⟩
   have e3:a*r % p=a*r-p*k1:=by omega
   have e4:r*b=1+p*k2:=by omega
   rw [e3,Int.sub_mul,Int.mul_assoc,e4,Int.mul_add,Int.mul_sub,Int.mul_one,Int.mul_left_comm,Int.mul_assoc]
   omega
theorem nZ.mono {CF CR x:Addr} {p:Int} {H H':Hp} (h:nZ CF CR H x p) (k:∀ o,H x=some o->H' x=some o):nZ CF CR H' x p:=by
 rcases h with ⟨h0,dx,e⟩ | ⟨h0,dx,e⟩
 ·exact .inl ⟨h0,dx,k _ e⟩
 ·exact .inr ⟨h0,dx,k _ e⟩
theorem mM {m:Str} (e:(m == ("modulus" : Str))=false) (v:V):List.lookup m [(("modulus" : Str),v)]=none:=by
 simp only [List.lookup,e]
theorem op_go {CF CR x:Addr} {P:Int} {u v:V} {a b:Int × Int} {H:Hp} {σ:L2.St} {R:VK} {ta:TE} {t:TA} {m:Str} (gF:Int × Int->Int × Int->Int × Int) (gR:Int->Int->Int) (res:Int × Int) (hres:res=if P=0 then nrm (gF a b).1 (gF a b).2 else (gR a.1 b.1 % P,1)) (hm:(m == ("modulus" : Str))=false)
  (hP:nq P) (hN:nZ CF CR H x P) (h1:At P H u a) (h2:At P H v b) (o1:OkN P a) (o2:OkN P b) (s1:Sz 2900 a) (s2:Sz 2900 b) (ha:∀ Z:VK,Z (.ref x) H->ta σ H Z) (ht:∀ Z:List V->Hp->Prop,Z [u,v] H->t σ H Z) (hR:∀ r H',mY H H'->At P H' r res->R r H') :
  tOrE (fg CF m (spFOp CF gF) [] E0 ta t) (fg CR m (spROp CR gR) [] E0 ta t) σ H R:=by
 subst hres
 rcases hN with ⟨h0,dx,e⟩ | ⟨h0,dx,e⟩
 ·rcases h1 with ⟨_,s,rfl,hs⟩ | ⟨z,_⟩
  ·rcases h2 with ⟨_,t',rfl,ht'⟩ | ⟨z,_⟩
   ·rw [if_pos h0] at hR
    exact .inl (ha _ ⟨x,dx,[],rfl,e,rfl,ht _ ⟨x,dx,s,t',a,b,rfl,e,hs,ht',o1.den,o2.den,s1,s2,λr nr=>hR _ _ (mY.new nr) (.inl ⟨h0,r,rfl,ac⟩)⟩⟩)
   ·exact absurd h0 z
  ·exact absurd h0 z
 ·rcases h1 with ⟨z,_⟩ | ⟨_,rfl,_⟩
  ·exact absurd z h0
  ·rcases h2 with ⟨z,_⟩ | ⟨_,rfl,_⟩
   ·exact absurd z h0
   ·rw [if_neg h0] at hR
    have hb:=hP.b
    rcases o1 with ⟨z,_⟩ | ⟨_,x0,x1,_⟩
    ·exact absurd z h0
    rcases o2 with ⟨z,_⟩ | ⟨_,y0,y1,_⟩
    ·exact absurd z h0
    exact .inr (ha _ ⟨x,dx,_,rfl,e,mM hm _,ht _ ⟨x,dx,P,_,_,rfl,e,by omega,hb.2.1,x0,x1,y0,y1,hR _ _ (mY.refl H) (.inr ⟨h0,rfl,rfl⟩)⟩⟩)
theorem of_go {CF CR pP x:Addr} {P a:Int} {vs dvs:List V} {H:Hp} {σ:L2.St} {R:VK} {ta:TE} {t:TA} (hP:nq P) (hN:nZ CF CR H x P) (hv:vs++dvs=[.int a,.int 1]) (ha:∀ Z:VK,Z (.ref x) H->ta σ H Z) (ht:∀ Z:List V->Hp->Prop,Z vs H->t σ H Z)
  (hR:∀ r H',mY H H'->At P H' r (if P=0 then (a,1) else (a % P,1))->R r H') :
  tOrE (fg CF "of" (fh pP) dvs E0 ta t) (fg CR "of" (gh CR pP) dvs E0 ta t) σ H R:=by
 rcases hN with ⟨h0,dx,e⟩ | ⟨h0,dx,e⟩
 ·rw [if_pos h0] at hR
  refine .inl (ha _ ⟨x,dx,[],rfl,e,rfl,ht _ ⟨.ref x,a,1,by rw [hv],λz=>absurd z (by decide),λ_=>⟨by decide +kernel,λr nr=>?_⟩⟩⟩)
  rw [(gj a 1 (by decide)).mpr (Int.gcd_one_right ..)]
  exact hR _ _ (mY.new nr) (.inl ⟨h0,r,rfl,ac⟩)
 ·rw [if_neg h0] at hR
  rcases hP with z | ⟨h2,h9,hp⟩
  ·exact absurd z h0
  have e1:(1:Int) % P=1:=Int.emod_eq_of_lt (by decide) (by omega)
  refine .inr (ha _ ⟨x,dx,_,rfl,e,mM (by decide +kernel) _,ht _ ⟨x,dx,P,a,1,by rw [hv],e,h2,h9,hp,(λz=>absurd (e1.symm.trans z) (by decide)),λ_ r r0 r1 hr=>?_⟩⟩)
  rw [Int.mul_one,Int.emod_eq_of_lt r0 r1] at hr
  rw [hr]
  exact hR _ _ (mY.refl H) (.inr ⟨h0,rfl,rfl⟩)
def spHeight (K:Frag):Sp:=λvs H Q _=>∃ (a:Addr) (ns:List Int),vs=[.ref a]/\SqT K H a (ns.map V.int)/\∀ t,H t=none->Q (.ref t) (upd H t (.tup [.int ns.sum,.ref a]))
theorem sc_height:mZ ["one"] ["one"] (al jN):=.i
theorem ok_height {f:Addr} {fd:FuncData} (F:Fun K "height" "height" jN f fd) (wg:FnB P w K mg base 1 "degree" (spDeg K)):nk P w K mg base CX0 2 f fd ["one"] (spHeight K):=by
 refine F.o sc_height λ_ _ _ _ H _ Q _ hr h=>?_
 ·obtain ⟨a,ns,rfl,ha,q⟩:=h
  refine ⟨_,(aj (ar (aL (aa (au wg hr.m (aa (pv 0) af)) (aa (pv 0) af))))),?_⟩
  exact ⟨_,rfl,a,ns,rfl,ha,_,rfl,by show 2<=sizeLine; decide,q⟩
def gf (CG:Addr) (H:Hp) (g x:Addr) (L:Int):Prop:=∃ dx,H g=some (.ins CG dx [("kind",.ref x),("width",.int L)])
def jH (CG:Addr):Sp:=λvs H Q _=>∃ (g x:Addr) (L:Int),vs=[.ref g]/\gf CG H g x L/\Q (.ref x) H
theorem iQ:mZ ["self"] ["self"] (al bn):=.i
theorem ok_rnum {f CG:Addr} {fd:FuncData} (F:Fun K "numbers" "Ring.numbers" bn f fd) (cl:Cls K CG) (nA:oC K CG "kind"):nk P w K mg base CX0 1 f fd ["self"] (jH CG):=by
 refine F.o iQ λ_ _ _ _ H _ Q _ hr h=>?_
 ·obtain ⟨g,x,L,rfl,⟨dx,hg⟩,q⟩:=h
  refine ⟨_,(aj (ar (gY (pv 0) rfl))),?_⟩
  exact ⟨_,rfl,g,CG,dx,_,_,rfl,hg,cl,nA,rfl,q⟩
def spSum (CF CR CG:Addr):Sp:=λvs H Q _=>∃ (g x l:Addr) (P L:Int) (ts:List V) (ps:List ak),vs=[.ref g,.ref l]/\nq P/\gf CG H g x L/\nZ CF CR H x P/\H l=some (.lst ts)/\nj P H ts ps/\ps.length<=60/\iz P ps/\
 ∀ (d:Addr) (rs:List V) (out:List ak) (H':Hp),H d=none->mY H H'->H' d=some (.lst rs)->nj P H' rs out->nO P ps out->Q (.ref d) H'
theorem dX {P:Int} {x:Int × Int} (h:OkN P x):cG P (0,1) x=x:=by
 unfold cG
 rcases h with ⟨h0,hd,hg⟩ | ⟨h0,a,b,c⟩
 ·rw [if_pos h0]
  show nrm (0*x.2+x.1*1) (1*x.2)=x
  rw [Int.zero_mul,Int.zero_add,Int.mul_one,Int.one_mul]
  exact (gj x.1 x.2 hd).mpr hg
 ·rw [if_neg h0]
  show ((0+x.1) % P,1)=x
  rw [Int.zero_add,Int.emod_eq_of_lt a b]
  exact Prod.ext rfl c.symm
theorem oU:mZ ["ring", "parts", "numbers", "found", "product", "number", "nought", "falling"] ["ring", "parts"] (al jk):=.i
theorem ok_sumof {f CF CR CG pP:Addr} {fd:FuncData} (F:Fun K "sum_of" "sum_of" jk f fd) (T:Blt mg) (wj:FnB P w K mg base 2 "height" (spHeight K)) (tu:MtB P w K mg base 1 CG "numbers" (jH CG))
  (xw:MtB P w K mg base 3 CF "plus" (spFOp CF λa b=>(a.1*b.2+b.1*a.2,a.2*b.2))) (xx:MtB P w K mg base 3 CR "plus" (spROp CR (· + ·)))
  (xq:kg P w K mg base 2 CF "of" [.int 1] (fh pP)) (xt:kg P w K mg base 2 CR "of" [.int 1] (gh CR pP)) :
  nk P w K mg base CX0 5 f fd ["ring", "parts"] (spSum CF CR CG):=by
 refine F.o oU λ_ _ _ _ H _ Q _ hr h=>?_
 ·obtain ⟨g,x,l,P,L,ts,ps,rfl,hP,hg,hN,hl,hps,hn,hok,q⟩:=h
  have hB:=hP.b
  refine ⟨_,(ag (aq (i:=2) oU.nd rfl (Or.inl rfl) (g7 tu hr.m (pv 0)))
(ag (aq (i:=3) oU.nd rfl (Or.inr rfl) jI)
(ag (bp PassesOwn.never rfl (aM K rfl (pv 1)) (bB K (i:=4) (j:=5) rfl rfl oU.nd rfl rfl rfl rfl)
(aj (mh (hu1 hr) (pv 3) (pv 4) (pe_ifExp (pt_cmp (pc_din (hu1 hr) (pv 4) (pv 3))) (lM (pe_mt xw hr.m (pv 2) (aa (dL (hu1 hr) (pv 3) (pv 4) (λ_ _=>rfl)) (aa (pv 5) af))) (pe_mt xx hr.m (pv 2) (aa (dL (hu1 hr) (pv 3) (pv 4) (λ_ _=>rfl)) (aa (pv 5) af)))) (pv 5)) rfl)))
(ag (aq (i:=6) oU.nd rfl (Or.inr rfl) (lM (js xq hr.m fc (pv 2) (aa ae af)) (js xt hr.m fc (pv 2) (aa ae af))))
(ag (aq (i:=7) oU.nd rfl (Or.inl rfl) (pe_sortK T wj hr.m (pv 3)))
(aj (ar (by exact aX (N:=["product", "found", "nought"]) (src:=[none,some 3,some 6]) rfl rfl rfl (by exact (aM K rfl (pv 7))) (λ_ _ _=>by exact ⟨by exact (bM (i:=0) nd_2 rfl rfl),(cV (aw (jY K rfl hr.units) (dL (hu1 hr) (pv 1) (pv 0) (λ_ _=>rfl)) (pv 2) (az _))),by exact (aL (aa (pv 0) (aa (dL (hu1 hr) (pv 1) (pv 0) (λ_ _=>rfl)) af)))⟩))))))))),?_⟩
  have lt:ts.length=ps.length:=Paired.length hps
  obtain ⟨dxg,hg'⟩:=id hg
  refine ⟨_,rfl,g,dxg,_,rfl,hg',rfl,g,x,L,rfl,hg,?_⟩
  intro d hd
  have dl:d ≠ l:=λz=>by rw [z,hl] at hd; cases hd
  refine ⟨_,rfl,l,rfl,⟨_,SqL.of (by rw [am dl.symm]; exact hl)⟩,eZ (xs:=ts) (λi σ H'=>∃ (x4 x5:Option V) (kvs:List (List Key × V)),σ=[some (.ref g),some (.ref l),some (.ref x),some (.ref d),x4,x5,none,none]/\mY H H'/\H' d=some (.dT kvs)/\nG (At P H') kvs (acc P (ps.take i))) ?_ ?_ ?_ ?_⟩
  ·exact ⟨none,none,[],rfl,mY.new hd,ac,.nil⟩
  ·rintro i σ H' _ ⟨x3,x4,kvs,rfl,sm,_⟩
   exact SqL.of (sm _ _ hl)
  ·rintro i v σ H1 hx ⟨x3,x4,kvs,rfl,sm,hd1,dr⟩
   obtain ⟨p,ep,t,k,u,rfl,ht,hk,hu⟩:=hps.at_ hx
   refine ⟨t,_,rfl,SqT.of (sm _ _ ht),rfl,_,_,rfl,_,_,rfl,rfl,?_⟩
   have hk1:H1 k=some (.tup ((kI p.1).map kV)):=by rw [kl]; exact sm _ _ hk
   have mp:p ∈ ps:=mem_of_getElem? ep
   obtain ⟨op,zp⟩:=hok.1 p mp
   have okm:∀ q ∈ acc P (ps.take i),OkN P q.2:=gi hB.1 hB.2.2 λq hq=>(hok.1 q (mem_of_mem_take hq)).1
   have hlen:kvs.length<sizeLine:=by
    have h1:kvs.length=(acc P (ps.take i)).length:=Paired.length dr
    have h2:=gU P (ps.take i)
    rw [length_take] at h2
    rw [h1,sizeLine_eq]
    omega
   have fin:∀ r3 H3,mY H1 H3->At P H3 r3 (cG P ((bo (acc P (ps.take i)) p.1).getD (0,1)) p.2)->∃ (x4 x5:Option V) (kvs':List (List Key × V)),[some (V.ref g),some (.ref l),some (.ref x),some (.ref d),some (.ref k),some u,none,none]=[some (.ref g),some (.ref l),some (.ref x),some (.ref d),x4,x5,none,none]/\mY H (upd H3 d (.dT (bU kvs (kI p.1) r3)))/\(upd H3 d (.dT (bU kvs (kI p.1) r3))) d=some (.dT kvs')/\nG (At P (upd H3 d (.dT (bU kvs (kI p.1) r3)))) kvs' (acc P (ps.take (i+1))):=λr3 H3 s3 a3=>by
    have d3:H3 d=some (.dT kvs):=s3 _ _ hd1
    have keep:∀ c o,H3 c=some o->c ≠ d->upd H3 d (.dT (bU kvs (kI p.1) r3)) c=some o:=λc o e hc=>by rw [am hc]; exact e
    have tk3:∀ t xs,H3 t=some (.tup xs)->upd H3 d (.dT (bU kvs (kI p.1) r3)) t=some (.tup xs):=λt xs e=>keep t _ e (bq e d3 (by intro z; cases z))
    refine ⟨_,_,_,rfl,λc o e=>keep c o (s3 _ _ (sm c o e)) (ah e hd),ac,?_⟩
    rw [eE ep]
    exact nG.put (a3.mono tk3) (dr.mono λv x z=>(z.same s3).mono tk3)
   have put:∀ r3 H3,mY H1 H3->DPut H3 d (.ref k) r3 (upd H3 d (.dT (bU kvs (kI p.1) r3))):=λr3 H3 s3=>DPut.t (k:=kI p.1) (s3 _ _ hd1) (s3 _ _ hk1) hlen
   refine ⟨_,rfl,_,rfl,d,_,rfl,DGet.t hd1 hk1,_,rfl,?_⟩
   rcases dr.val p.1 with ⟨e1,e2⟩ | ⟨v,y,e1,e2,ra⟩
   ·rw [e1]
    rw [e2] at fin
    refine bx ⟨_,rfl,_,rfl,_,rfl,d,_,rfl,put _ H1 (mY.refl _),fin _ H1 (mY.refl _) ?_⟩
    show At P H1 u (cG P (0,1) p.2)
    rw [dX op]
    exact hu.same sm
   ·rw [e1]
    rw [e2] at fin
    refine bH (op_go _ _ (cG P y p.2) (by unfold cG; rfl) (by decide +kernel) hP (hN.mono λo e=>sm _ _ e) ra (hu.same sm) (okm _ (bh e2)) op (hok.2 i _ (bh e2)) zp (λZ z=>⟨_,rfl,z⟩) (λZ z=>⟨_,rfl,_,rfl,d,v,rfl,(by rw [<- e1]; exact DGet.t hd1 hk1),_,rfl,z⟩) λr3 H3 s3 a3=>?_)
    exact ⟨_,rfl,_,rfl,d,_,rfl,put _ H3 s3,fin _ H3 s3 a3⟩
  ·rintro σ H1 ⟨x3,x4,kvs,rfl,sm,hd1,dr⟩
   rw [lt,take_length] at dr
   have nd:=fj P ps
   have lm:=gU P ps
   have okm:∀ q ∈ acc P ps,OkN P q.2:=gi hB.1 hB.2.2 λq hq=>(hok.1 q hq).1
   unfold nO at q
   generalize acc P ps=m at *
   refine of_go (a:=0) hP (hN.mono λo e=>sm _ _ e) rfl (λZ z=>⟨_,rfl,z⟩) (λZ z=>z) λr H2 s2 A2=>?_
   rw [zero_if] at A2
   have hd2:=s2 _ _ hd1
   have dr2:nG (At P H2) kvs m:=dr.mono λv x z=>z.same s2
   have sm2:=sm.trans s2
   refine ⟨_,rfl,.inr ⟨d,kvs,rfl,hd2,λas pk=>?_⟩⟩
   have tp:=prod_of (dr2.tups pk)
   have la:(as.map V.ref).length=m.length:=Paired.length tp
   generalize as.map V.ref=vs at *
   refine ⟨by omega,jZ H2,by rw [g0 tp]; exact hk_nodup nd,λy hy H3 s3=>?_,λD H3 zs nD s3 hD pm pw=>?_⟩
   ·obtain ⟨p,hp,a,rfl,ha⟩:=prod_mem tp hy
    refine ⟨a,p.1,rfl,SqT.of (s3 _ _ ha),λt nt=>⟨mY.new nt,t,a,rfl,?_,?_⟩⟩
    ·rw [ac]
     unfold jZ
     rw [iX ha]
    ·unfold jZ
     rw [iX ha]
     exact SqT.of (mY.new nt _ _ (s3 _ _ ha))
   ·obtain ⟨qs,pe,pq⟩:=paired_perm pm m tp
    have lq:zs.length=qs.length:=Paired.length pq
    have lz:qs.length=m.length:=pe.length_eq
    have fall:qs.Pairwise λa b=>klt (hk b) (hk a)=true:=by
     have z:(zs.map (jZ H2)).Pairwise (λa b=>klt b a=true):=List.pairwise_map.mpr pw
     rw [g0 pq] at z
     exact List.pairwise_map.mp z
    refine ⟨_,rfl,D,rfl,⟨_,SqL.of hD⟩,be (n:=zs.length) (σ0:=[none,some (.ref d),some r]) rfl (λacc i ws σ H'=>∃ u:Option V,σ=[u,some (.ref d),some r]/\mY H3 H'/\nj P H' ws ((qs.take i).filter nz)) (by rw [sizeLine_eq]; omega) (λacc hacc=>⟨none,rfl,mY.new hacc,.nil⟩) ?_ ?_ ?_ ?_⟩
    ·rintro acc i ws σ H' hacc hi hz ⟨u,rfl,sm',_⟩
     exact ⟨zs,_,SqL.of (sm' _ _ hD),getElem?_eq_getElem hi⟩
    ·rintro acc ws σ H' hacc hz ⟨u,rfl,sm',_⟩
     exact ⟨zs,SqL.of (sm' _ _ hD),Nat.le_refl _⟩
    ·rintro acc i ws σ H9 x' H' hacc hi hz hzl ⟨u,rfl,sm',pr⟩ ⟨rfl,hx⟩
     have hx:=hx zs (SqL.of (sm' _ _ hD))
     obtain ⟨p,ep⟩:∃ p,qs[i]? = some p:=⟨_,getElem?_eq_getElem (by omega)⟩
     obtain ⟨a,rfl,ha⟩:=(dh (R:=ProdR H2) pq hx ep)
     have mp:p ∈ m:=pe.mem_iff.mp (mem_of_getElem? ep)
     have s3':=s3.trans sm'
     obtain ⟨v,e1,av⟩:∃ v,fD kvs (kI p.1)=some v/\At P H2 v p.2:=by
      rcases dr2.val p.1 with ⟨_,e2⟩ | ⟨v,y,e1,e2,ra⟩
      ·rw [fA nd (show (p.1,p.2) ∈ m from mp)] at e2; cases e2
      ·rw [fA nd (show (p.1,p.2) ∈ m from mp)] at e2
       cases e2
       exact ⟨v,e1,ra⟩
     have dg:DGet H' d (.ref a) (some v):=.inr ⟨kvs,kI p.1,a,.inl (s3' _ _ hd2),rfl,by rw [kl]; exact s3' _ _ ha,e1.symm⟩
     refine ⟨_,rfl,_,rfl,d,v,rfl,dg,_,rfl,dN P p.2,dN P (0,1),fF (av.same s3'),fF (A2.same s3'),bC _ _,bC _ _,?_⟩
     rw [mK (okm p mp) (dA hB.1 hB.2.2)]
     have en:(!decide (p.2=(0,1)))=nz p:=by unfold nz; rw [decide_not]
     rw [en]
     refine ⟨_,rfl,bf (λh=>?_) (λh=>?_)⟩
     ·refine ⟨_,rfl,_,rfl,_,rfl,d,v,rfl,dg,by show 2<=sizeLine; decide,λt nt=>?_⟩
      have s4:=mY.new (o:=.tup [.ref a,v]) nt
      have hz4:=s4 _ _ hz
      have keep4:∀ c u,(upd H' t (.tup [.ref a,v])) c=some u->c ≠ acc->upd (upd H' t (.tup [.ref a,v])) acc (.lst (ws++[.ref t])) c=some u:=λc u e hc=>by rw [am hc]; exact e
      have tk4:∀ c xs,(upd H' t (.tup [.ref a,v])) c=some (.tup xs)->upd (upd H' t (.tup [.ref a,v])) acc (.lst (ws++[.ref t])) c=some (.tup xs):=λc xs e=>keep4 c _ e (bq e hz4 (by intro z; cases z))
      refine ⟨ws,hz4,by rw [sizeLine_eq]; omega,_,ac,by rw [length_append,length_singleton]; omega,_,rfl,λc u e=>keep4 c u (s4 _ _ (sm' c u e)) (ah e hacc),?_⟩
      rw [cO ep,if_pos h]
      exact (nj.snoc (p:=p) ⟨t,a,v,rfl,ac,s4 _ _ (s3' _ _ ha),(av.same s3').same s4⟩ (pr.mono λt xs e=>s4 _ _ e)).mono tk4
     ·refine ⟨ws,hz,by omega,_,rfl,sm',?_⟩
      rw [cO ep,if_neg h,append_nil]
      exact pr
    ·rintro acc ws σ H' hacc hz hzl ⟨u,rfl,sm',pr⟩
     rw [lq,take_length] at pr
     refine q acc ws _ H' ?_ ((sm2.trans s3).trans sm') hz pr ⟨pe.filter _,fall.filter _⟩
     exact (sm2.trans s3).free hacc
def dP (P:Int) (p:ak):PyData:=.tuple [ef p.1,dN P p.2]
def dS (P:Int) (out:List ak):PyData:=.list (out.map (dP P))
theorem dP_ok (P:Int) (p:ak):(dP P p).canLay0=true/\(dP P p).depth<=2:=by
 have h1:=bL p.1
 have h2:=bC P p.2
 have d1:(ef p.1).depth<=1:=by simp [ef,PyData.depth,PySem.W.ke_depthAll]
 have d2:(dN P p.2).depth<=1:=by
  unfold dN
  split
  ·simp [ef,PyData.depth,PyData.depthAll]
  ·simp [PyData.depth]
 refine ⟨?_,?_⟩
 ·simp only [dP,PyData.canLay0,PyData.canLayAll0,SeqAt.canLay_of_shaped h1,SeqAt.canLay_of_shaped h2,Bool.and_true]
 ·simp only [dP,PyData.depth,PyData.depthAll]
  omega
theorem dS_all (P:Int):∀ out:List ak,PyData.canLayAll0 (out.map (dP P))=true/\PyData.depthAll (out.map (dP P))<=2
 | []=>⟨rfl,by simp [PyData.depthAll]⟩
 | p::r=>by
  obtain ⟨a,b⟩:=dP_ok P p
  obtain ⟨c,d⟩:=dS_all P r
  refine ⟨by simp only [map_cons,PyData.canLayAll0,a,c,Bool.and_true],?_⟩
  simp only [map_cons,PyData.depthAll]
  omega
theorem bA (P:Int) (out:List ak):SeqAt.shaped (dS P out)=true:=by
 obtain ⟨c,d⟩:=dS_all P out
 unfold SeqAt.shaped dS
 rw [Bool.and_eq_true]
 refine ⟨by simp only [PyData.canLay0,c],decide_eq_true ?_⟩
 simp only [PyData.depth]
 omega
theorem lA {K:Frag} {P:Int} {H:Hp}:∀ {ts:List V} {ps:List ak},nj P H ts ps->DRs K H (ps.map (dP P)) ts
 | _,_,.nil=>.nil
 | _,_,.cons ⟨t,k,u,e,h1,h2,h3⟩ r=>by
  rw [e]
  exact .cons (.tup (SqT.of h1) (.cons (dM (SqT.of h2)) (.cons (fF h3) .nil))) (lA r)
theorem gn {K:Frag} {P:Int} {H:Hp} {l:Addr} {ts:List V} {ps:List ak} (hl:H l=some (.lst ts)) (h:nj P H ts ps):DR K H (dS P ps) (.ref l):=.lst (SqL.of hl) (lA h)
def jU (CG CN:Addr):Sp:=λvs H Q E=>∃ (g dx:Addr) (v:V) (L:Int),vs=[.ref g,v,.int L]/\H g=some (.ins CG dx [])/\(¬ (1<=L/\L<=4)->E (.ref CN) none H)/\
 (1<=L->L<=4->Q .non (upd (upd H g (.ins CG dx [("kind",v)])) g (.ins CG dx [("kind",v),("width",.int L)])))
def l5 (CF CR CG CN:Addr):Sp:=λvs H Q E=>∃ P L:Int,vs=[.int P,.int L]/\nq P/\(¬ (1<=L/\L<=4)->∀ H',mY H H'->E (.ref CN) none H')/\
 (1<=L->L<=4->∀ (g x:Addr) (H':Hp),mY H H'->nZ CF CR H' x P->gf CG H' g x L->Q (.ref g) H')
theorem ib:mZ ["self", "numbers", "letters"] ["self", "numbers", "letters"] (al bg):=.i
theorem ok_ginit {f CG pT:Addr} {fd:FuncData} {tk:Tok} (F:Fun K "__init__" "Ring.__init__" bg f fd) (cl:Cls K CG) (nK:oC K CG "kind") (nW:oC K CG "width") (cMost:mg "MOST_LETTERS"=some (.int 4 tk)) (ANoRing:mg "NoRing"=some (.ref pT)) (xc:XCl K pT) :
  nk P w K mg base (CXE P w) 2 f fd ["self", "numbers", "letters"] (jU CG pT):=by
 refine F.okX ib (λvs H Q E h=>?_) (λcdv A outer s H vs Q E hr h=>?_)
 ·obtain ⟨g,dx,v,L,rfl,_⟩:=h
  rfl
 ·obtain ⟨g,dx,v,L,rfl,hg,qn,qy⟩:=h
  refine ⟨_,(ag (aJ (PW.pt (gB (aw jB (pv 2) ae (az _)) (gd (aw eh (pv 2) (cS (v:=.int 4) rfl cMost ⟨_,rfl⟩) (az _)))))
(aj (gO xc.ek ANoRing (aa lF af)))
aB)
(ag (ps_fld (pv 0) (pv 1) rfl)
(aj (ps_fld (pv 0) (pv 2) rfl)))),?_⟩
  have bad:¬ (1<=L/\L<=4)->E (.ref pT) none H:=qn
  refine ⟨_,rfl,_,_,rfl,rfl,_,rfl,bf (λh=>?_) (λh=>?_)⟩
  ·have h1:L<1:=of_decide_eq_true h
   exact bH ⟨(by show 1<=sizeLine; decide),bad (by omega)⟩
  ·have h1:¬ L<1:=λz=>h (decide_eq_true z)
   refine ⟨_,rfl,_,_,rfl,rfl,_,rfl,bf (λh=>?_) (λh=>?_)⟩
   ·have h4:L > 4:=of_decide_eq_true h
    exact ⟨(by show 1<=sizeLine; decide),bad (by omega)⟩
   ·have h4:¬ L > 4:=λz=>h (decide_eq_true z)
    exact ⟨_,rfl,_,rfl,g,CG,dx,_,rfl,hg,cl,nK,(by decide),_,rfl,_,rfl,g,CG,dx,_,rfl,ac,cl,nW,(by show (1:Nat)<1000; decide),qy (by omega) (by omega)⟩
theorem mH:mZ ["_law_prime_here", "_law_letters"] ["_law_prime_here", "_law_letters"] (al eN):=.i
theorem ok_ring {f CF CR CG pT:Addr} {fd:FuncData} (F:Fun K "_law_ring" "_law_ring" eN f fd) (ss:FnB P w K mg base 4 "_law_numbers" (spNums CF CR)) (xu:MkBX P w K mg base 2 CG "Ring" (jU CG pT)) :
  nk P w K mg base (CXE P w) 5 f fd ["_law_prime_here", "_law_letters"] (l5 CF CR CG pT):=by
 refine F.okX mH (λvs H Q E h=>?_) (λcdv A outer s H vs Q E hr h=>?_)
 ·obtain ⟨P,L,rfl,_⟩:=h
  rfl
 ·obtain ⟨P,L,rfl,hP,qn,qy⟩:=h
  refine ⟨_,(aj (ar (pe_mkX xu hr.m passes_on (aa (au ss hr.m (aa (pv 0) af)) (aa (pv 1) af))))),?_⟩
  refine ⟨_,rfl,P,rfl,hP,λx H1 s1 hN=>⟨_,rfl,λg dx ng ndx ne=>?_⟩⟩
  have s2:mY H1 (upd (upd H1 dx (.own g)) g (.ins CG dx [])):=(mY.new ndx).put ng
  refine ⟨g,dx,.ref x,L,rfl,ac,λhL=>qn hL _ (s1.trans s2),λh1 h4=>⟨rfl,qy h1 h4 g x _ ?_ ?_ ⟨dx,ac⟩⟩⟩
  ·intro c o e
   have e1:=s1 c o e
   have hc:c ≠ g:=ah e1 ng
   rw [am hc,am hc,am hc,am (ah e1 ndx)]
   exact e1
  ·refine hN.mono λo e=>?_
   have hc:x ≠ g:=ah e ng
   rw [am hc,am hc,am hc,am (ah e ndx)]
   exact e
theorem acc_sz {P:Int} (hP:nq P) {ps:List ak} (h:∀ p ∈ ps,OkN P p.2/\Sz 103 p.2):∀ i,i<=ps.length->∀ p ∈ acc P (ps.take i),Sz (104*i+103) p.2
 | 0,_,p,hp=>by simp [acc] at hp
 | i+1,hi,p,hp=>by
  have hB:=hP.b
  obtain ⟨q,eq⟩:∃ q,ps[i]? = some q:=⟨_,getElem?_eq_getElem (by omega)⟩
  have ih:=acc_sz hP h i (by omega)
  have okm:∀ q ∈ acc P (ps.take i),OkN P q.2:=gi hB.1 hB.2.2 λq hq=>(h q (mem_of_mem_take hq)).1
  obtain ⟨oq,zq⟩:=h q (mem_of_getElem? eq)
  rw [eE eq] at hp
  rcases dn hp with z | z
  ·rw [z]
   have hw:OkN P ((bo (acc P (ps.take i)) q.1).getD (0,1))/\Sz (104*i+103) ((bo (acc P (ps.take i)) q.1).getD (0,1)):=by
    cases e:bo (acc P (ps.take i)) q.1 with
    | none=>exact ⟨dA hB.1 hB.2.2,⟨Nat.pow_pos (by decide),Nat.one_lt_two_pow (by omega)⟩⟩
    | some y=>exact ⟨okm _ (bh e),ih _ (bh e)⟩
   exact (lZ hB.1 hB.2.1 hw.1 oq hw.2 zq (by omega)).1.mono (by omega)
  ·exact (ih p z).mono (by omega)
theorem acc_self {P:Int} {ps:List ak} (hn:(ps.map (·.1)).Nodup) (h:∀ p ∈ ps,OkN P p.2):∀ i,i<=ps.length->acc P (ps.take i)=ps.take i
 | 0,_=>by simp [acc]
 | i+1,hi=>by
  obtain ⟨q,eq⟩:∃ q,ps[i]? = some q:=⟨_,getElem?_eq_getElem (by omega)⟩
  rw [eE eq,acc_self hn h i (by omega)]
  have hv:bo (ps.take i) q.1=none:=by
   apply aval_none.mpr
   intro hm
   have e1:ps.take (i+1)=ps.take i++[q]:=by rw [take_add_one,eq]; rfl
   have hs:((ps.take (i+1)).map (·.1)).Nodup:=(List.Sublist.map _ (take_sublist _ _)).nodup hn
   rw [e1,map_append,List.nodup_append] at hs
   exact hs.2.2 q.1 hm q.1 (by simp) rfl
  unfold cQ cW
  rw [hv]
  show ps.take i++[(q.1,cG P (0,1) q.2)]=ps.take (i+1)
  rw [dX (h q (mem_of_getElem? eq)),take_add_one,eq]
  rfl
theorem ft {P:Int} {ps:List ak} (hn:(ps.map (·.1)).Nodup) (h:∀ p ∈ ps,OkN P p.2):acc P ps=ps:=by
 have z:=acc_self hn h ps.length (Nat.le_refl _)
 rw [take_length] at z
 exact z
theorem acc_from {P:Int} {ps:List ak}:∀ p ∈ acc P ps,∃ q ∈ ps,q.1=p.1:=by
 unfold acc
 have go:∀ (rs m:List ak),(∀ r ∈ rs,r ∈ ps)->(∀ p ∈ m,∃ q ∈ ps,q.1=p.1)->∀ p ∈ rs.foldl (cQ P) m,∃ q ∈ ps,q.1=p.1:=by
  intro rs
  induction rs with
  | nil=>intro m _ h; exact h
  | cons r rs ih=>
   intro m hr hm
   refine ih _ (λq hq=>hr q (by simp [hq])) λp hp=>?_
   rcases dn hp with z | z
   ·exact ⟨r,hr r (by simp),by rw [z]⟩
   ·exact hm p z
 exact go ps [] (λr hr=>hr) (λp hp=>nomatch hp)
def co (m:List ak) (k:List Int):Int × Int:=(bo m k).getD (0,1)
theorem co_of {m:List ak} (hn:(m.map (·.1)).Nodup) {p:ak} (h:p ∈ m):co m p.1=p.2:=by
 unfold co
 rw [fA hn (show (p.1,p.2) ∈ m from h)]
 rfl
theorem jy (m:List ak) (k:List Int):(k,co m k) ∈ m\/(co m k=(0,1)/\¬ k ∈ m.map (·.1)):=by
 unfold co
 cases e:bo m k with
 | none=>exact .inr ⟨rfl,aval_none.mp e⟩
 | some y=>exact .inl (bh e)
def iF (a b:ak):Prop:=klt (hk b) (hk a)=true
theorem dJ {a:List ak} (h:a.Pairwise iF):(a.map (·.1)).Nodup:=by
 rw [List.Nodup,pairwise_map]
 refine h.imp λ{x y} z e=>?_
 unfold iF at z
 have e2:hk x=hk y:=by unfold hk; rw [e]
 rw [e2,klt_irr] at z
 cases z
theorem sum_ext {a b:List ak} (fa:a.Pairwise iF) (fb:b.Pairwise iF) (za:∀ p ∈ a,nz p=true) (zb:∀ p ∈ b,nz p=true) (h:∀ k,co a k=co b k):a=b:=by
 have na:=dJ fa
 have nb:=dJ fb
 have sub:∀ {a b:List ak},(a.map (·.1)).Nodup->(∀ p ∈ a,nz p=true)->(∀ k,co a k=co b k)->∀ p ∈ a,p ∈ b:=λ{a b} na za h p hp=>by
  have e:=co_of na hp
  rw [h] at e
  rcases jy b p.1 with z | ⟨z,_⟩
  ·rw [e] at z; exact z
  ·rw [z] at e
   have:=za p hp
   unfold nz at this
   exact absurd e.symm (of_decide_eq_true this)
 have na':a.Nodup:=List.Pairwise.of_map (·.1) (λ_ _ h z=>h (by rw [z])) na
 have nb':b.Nodup:=List.Pairwise.of_map (·.1) (λ_ _ h z=>h (by rw [z])) nb
 have pm:a.Perm b:=(List.perm_ext_iff_of_nodup na' nb').mpr λp=>⟨λhp=>sub na za h p hp,λhp=>sub nb zb (λk=>(h k).symm) p hp⟩
 exact iw (lt:=λx y=>klt (hk x) (hk y)) (λ_=>klt_irr _) (λ_ _ _=>kj) pm fa fb
theorem nO.nz {P:Int} {ps out:List ak} (h:nO P ps out):∀ p ∈ out,_root_.K.nz p=true:=λp hp=>(List.mem_filter.mp (h.1.mem_iff.mp hp)).2
theorem nO.mem {P:Int} {ps out:List ak} (h:nO P ps out):∀ p ∈ out,p ∈ acc P ps:=λp hp=>(List.mem_filter.mp (h.1.mem_iff.mp hp)).1
theorem nO.co {P:Int} {ps out:List ak} (h:nO P ps out) (k:List Int):_root_.K.co out k=_root_.K.co (acc P ps) k:=by
 have na:=fj P ps
 have no:=dJ h.2
 rcases jy out k with z | ⟨z,hk⟩
 ·have e:=co_of na (h.mem _ z)
  exact e.symm
 ·rw [z]
  rcases jy (acc P ps) k with z' | ⟨z',_⟩
  ·by_cases hz:_root_.K.nz (k,_root_.K.co (acc P ps) k)=true
   ·have:(k,_root_.K.co (acc P ps) k) ∈ out:=h.1.mem_iff.mpr (List.mem_filter.mpr ⟨z',hz⟩)
    exact absurd (List.mem_map.mpr ⟨_,this,rfl⟩) hk
   ·unfold _root_.K.nz at hz
    have:_root_.K.co (acc P ps) k=(0,1):=Decidable.of_not_not λy=>hz (decide_eq_true y)
    exact this.symm
  ·exact z'.symm
theorem isSum_is {P:Int} {ps out a:List ak} (h:nO P ps out) (fa:a.Pairwise iF) (za:∀ p ∈ a,_root_.K.nz p=true) (e:∀ k,_root_.K.co (acc P ps) k=_root_.K.co a k):out=a:=
 sum_ext h.2 fa h.nz za λk=>(h.co k).trans (e k)
def ow (P L:Int) (z:Nat) (ps:List ak):Prop:=ps.Pairwise iF/\∀ p ∈ ps,OkN P p.2/\Sz z p.2/\nz p=true/\(p.1.length:Int)=L/\∀ e ∈ p.1,0<=e
theorem ow.nodup {P L:Int} {z:Nat} {ps:List ak} (h:ow P L z ps):(ps.map (·.1)).Nodup:=dJ h.1
theorem iD {P:Int} {ps:List ak} (hn:(ps.map (·.1)).Nodup) (h:∀ p ∈ ps,OkN P p.2/\Sz 2900 p.2):iz P ps:=by
 refine ⟨h,λi q hq=>?_⟩
 have sub:((ps.take i).map (·.1)).Nodup:=(List.Sublist.map _ (take_sublist _ _)).nodup hn
 rw [ft sub λq hq=>(h q (mem_of_mem_take hq)).1] at hq
 exact (h q (mem_of_mem_take hq)).2
theorem ok_zero1 {P:Int} {x:Int × Int} (h:OkN P x) (h0:x.1=0):x=(0,1):=by
 rcases h with ⟨_,hd,hg⟩ | ⟨_,_,_,c⟩
 ·rw [h0,Int.zero_gcd] at hg
  exact Prod.ext h0 (show x.2=1 by omega)
 ·exact Prod.ext h0 c
theorem mul_nz {P:Int} {x y:Int × Int} (hP:nq P) (ox:OkN P x) (oy:OkN P y) (hx:x ≠ (0,1)) (hy:y ≠ (0,1)):fC P x y ≠ (0,1):=by
 have x0:x.1 ≠ 0:=λz=>hx (ok_zero1 ox z)
 have y0:y.1 ≠ 0:=λz=>hy (ok_zero1 oy z)
 intro e
 unfold fC at e
 by_cases h:P=0
 ·rw [if_pos h] at e
  have d:=dF ox.den oy.den
  have e2:=jv (x.1*y.1) (x.2*y.2) d
  rw [e,Int.zero_mul,Int.mul_one] at e2
  rcases Int.mul_eq_zero.mp e2.symm with z | z
  ·exact x0 z
  ·exact y0 z
 ·rw [if_neg h] at e
  rcases hP with z | ⟨h2,h9,hp⟩
  ·exact absurd z h
  rcases ox with ⟨z,_⟩ | ⟨_,x1,x2,_⟩
  ·exact absurd z h
  rcases oy with ⟨z,_⟩ | ⟨_,y1,y2,_⟩
  ·exact absurd z h
  have e1:(x.1*y.1) % P=0:=congrArg Prod.fst e
  have hd:P ∣ x.1*y.1:=Int.dvd_of_emod_eq_zero e1
  obtain ⟨j,ej⟩:=idvd (cop_of h2 h9 hp (by omega) x2) hd
  rcases Int.lt_trichotomy j 0 with z | z | z
  ·have:=Int.mul_le_mul_of_nonneg_left (show j <= -1 by omega) (show 0<=P by omega)
   omega
  ·rw [z,Int.mul_zero] at ej
   omega
  ·have:=Int.mul_le_mul_of_nonneg_left (show 1<=j by omega) (show 0<=P by omega)
   omega
def fB:Sp:=λvs H Q _=>∃ (p:Addr) (P a b:Int) (k:Nat),vs=[.int P,.ref p,.bl false]/\nq P/\H p=some (.lst [.int a,.int b])/\nE a b k/\k<=700000/\
 ∀ (v:V) (x:Int × Int) (a' b':Int) (H':Hp),At P H' v x->OkN P x->(P=0->Sz 2 x)->H' p=some (.lst [.int a',.int b'])->nE a' b' (k+2)->(∀ c o,H c=some o->c ≠ p->H' c=some o)->Q v H'
theorem ok_number0 {f:Addr} {fd:FuncData} (F:Fun K "_law_number" "_law_number" cc f fd) (T:Blt mg) (pO:FnB P w K mg base 1 "_law_take" bQ) (qa:FnB P w K mg base 2 "_law_great" iW) (qI:FnB P w K mg base 3 "_law_signed" jn) (pV:FnB P w K mg base 1 "_law_low" jV) :
  nk P w K mg base CX0 4 f fd ["_law_prime_here", "_law_bag_here", "_law_great_here"] fB:=by
 refine F.o eV λ_ _ _ _ H _ Q _ hr h=>?_
 ·obtain ⟨p,P,a,b,k,rfl,hP,hp,hb,hk,q⟩:=h
  refine ⟨_,(ag (aJ (aw eh (pv 0) ae (az _))
(aj (ar (au pO hr.m (aa (pv 1) (aa (pv 0) af)))))
aB)
(ag (aJ (fT (pv 2))
(aj (ar (au pV hr.m (aa (au qI hr.m (aa (pv 1) af)) (aa (pl_max T (aa ae (aa (au qa hr.m (aa (pv 1) af)) af))) af)))))
aB)
(aj (ar (au pV hr.m (aa (ao aS (au pO hr.m (aa (pv 1) (aa ae af))) ae) (aa (ao aG ae (ao bw (au pO hr.m (aa (pv 1) (aa ae af))) ae)) af))))))),?_⟩
  have k1:∀ o c o',H c=some o'->c ≠ p->(upd H p o) c=some o':=λo c o' e hc=>by rw [am hc]; exact e
  refine ⟨_,rfl,_,_,rfl,rfl,_,rfl,bf (λh=>?_) (λh=>?_)⟩
  ·have h0:0<P:=of_decide_eq_true h
   have h9:P<=9973:=by rcases hP with z | ⟨_,z,_⟩<;>omega
   refine ⟨_,rfl,_,rfl,p,a,b,P,k,rfl,hp,hb,by omega,h0,aC (by omega) (by omega),λr a1 b1 r0 r1 hb1=>?_⟩
   exact q _ (r,1) a1 b1 _ (.inr ⟨by omega,rfl,rfl⟩) (.inr ⟨by omega,r0,r1,rfl⟩) (λz=>absurd z (by omega)) ac (hb1.mono (by omega)) (k1 _)
  have h0:P=0:=by
   have h1:¬ 0<P:=λz=>h (decide_eq_true z)
   rcases hP with z | ⟨z,_⟩<;>omega
  refine ⟨_,rfl,_,rfl,?_⟩
  refine bx ⟨_,rfl,p,a,b,7,k,rfl,hp,hb,by omega,by decide,aC (by decide) (by decide),λr1 a1 b1 r10 r11 hb1=>?_⟩
  refine ⟨_,_,rfl,rfl,?_⟩
  refine ⟨_,rfl,p,a1,b1,8,k+1,rfl,ac,hb1,by omega,by decide,aC (by decide) (by decide),λr2 a2 b2 r20 r21 hb2=>?_⟩
  refine ⟨_,_,rfl,rfl,ff (by decide) (by decide),_,_,rfl,rfl,?_⟩
  rw [cg]
  have hm:(1:Int)<=1+r2.fdiv 7/\1+r2.fdiv 7<4:=by
   rw [Int.fdiv_eq_ediv_of_nonneg _ (by decide)]
   omega
  refine ⟨r1-3,1+r2.fdiv 7,rfl,by omega,aC (by omega) (by omega),λt ht=>?_⟩
  generalize 1+r2.fdiv 7=dd at *
  have pt:p ≠ t:=ah (o:=.lst [.int a2,.int b2]) ac ht
  have hl:=i9 (r1-3) dd (by omega)
  refine q _ (nrm (r1-3) dd) a2 b2 _ (.inl ⟨h0,t,rfl,ac⟩) (.inl ⟨h0,cR _ _ (by omega),dE _ _ (by omega)⟩) (λ_=>⟨Nat.lt_of_le_of_lt hl.1 (by show (r1-3).natAbs<4; omega),Nat.lt_of_le_of_lt hl.2 (by show dd.natAbs<4; omega)⟩) (by rw [am pt,ac]) (hb2.mono (by omega)) λc o e hc=>?_
  rw [am (ah (k1 _ c o e hc) ht)]
  exact k1 _ c o e hc
def l6:Sp:=λvs H Q _=>∃ (p:Addr) (L M a b:Int) (k:Nat),vs=[.int L,.int M,.ref p]/\1<=L/\L<=4/\0<=M/\M<=1000/\H p=some (.lst [.int a,.int b])/\nE a b k/\k<=100000/\
 ∀ (t:Addr) (es:List Int) (a' b':Int) (H':Hp),(es.length:Int)=L->(∀ e ∈ es,0<=e)->es.sum=M->H' t=some (.tup (es.map V.int))->H' p=some (.lst [.int a',.int b'])->nE a' b' (k+6)->(∀ c o,H c=some o->c ≠ p->H' c=some o)->Q (.ref t) H'
theorem oi:mZ ["_law_letters", "_law_many", "_law_bag_here", "_law_found", "_law_left", "_law_letter", "_law_here"] ["_law_letters", "_law_many", "_law_bag_here"] (al cI):=.i
theorem ok_product {f:Addr} {fd:FuncData} (F:Fun K "_law_product" "_law_product" cI f fd) (T:Blt mg) (pO:FnB P w K mg base 1 "_law_take" bQ):nk P w K mg base CX0 2 f fd ["_law_letters", "_law_many", "_law_bag_here"] l6:=by
 refine F.o oi λ_ _ _ _ H _ Q _ hr h=>?_
 ·obtain ⟨p,L,M,a,b,k,rfl,hL1,hL4,hM0,hM1,hp,hb,hk,q⟩:=h
  refine ⟨_,(ag (aq (i:=3) oi.nd rfl (Or.inl rfl) (aQ af))
(ag (aq (i:=4) oi.nd rfl (Or.inl rfl) (pv 1))
(ag (bp PassesOwn.never rfl (bu rfl T.range (aa (ao aS (pv 0) ae) af)) (aD (i:=5) oi.nd rfl (Or.inl rfl))
(ag (aq (i:=6) oi.nd rfl (Or.inl rfl) (au pO hr.m (aa (pv 2) (aa (ao aG (pv 4) ae) af))))
(ag (cE (bmA K rfl (pv 3) (aa (pv 6) af)))
(aj (aq (i:=4) oi.nd rfl (Or.inl rfl) (ao aS (pv 4) (pv 6)))))))
(aj (ar (cF K T (ao op_cat (pv 3) (aQ (aa (pv 4) af))))))))),?_⟩
  refine ⟨Nat.zero_le _,λl hl=>?_⟩
  have pl:p ≠ l:=ah hp hl
  refine ⟨_,rfl,?_⟩
  refine ⟨_,rfl,_,_,rfl,rfl,_,rfl,by omega,by omega,ie (n:=(L-1).toNat) (λi σ H'=>∃ (es:List Int) (left a b:Int) (x5 x6:Option V),σ=[some (.int L),some (.int M),some (.ref p),some (.ref l),some (.int left),x5,x6]/\es.length=i/\(∀ e ∈ es,0<=e)/\0<=left/\(left<=M/\es.sum+left=M)/\
    H' l=some (.lst (es.map V.int))/\H' p=some (.lst [.int a,.int b])/\nE a b (k+i)/\(∀ c o,H c=some o->c ≠ p->H' c=some o)) ?_ ?_ ?_⟩
  ·refine ⟨[],M,a,b,none,none,rfl,rfl,λe he=>absurd he (by simp),hM0,⟨Int.le_refl _,by simp⟩,ac,(by rw [am pl]; exact hp),hb,λc o e hc=>?_⟩
   rw [am (ah e hl)]
   exact e
  ·rintro i σ H2 hi ⟨es,left,a2,b2,x5,x6,rfl,hlen,hnn,hl0,⟨hlM,hsm⟩,hl2,hp2,hb2,kp⟩
   refine ⟨_,rfl,_,rfl,_,_,rfl,rfl,p,a2,b2,_,k+i,rfl,hp2,hb2,by omega,by omega,aC (by omega) (by omega),λr3 a3 b3 r30 r31 hb3=>?_⟩
   have hl3:(upd H2 p (.lst [.int a3,.int b3])) l=some (.lst (es.map V.int)):=by rw [am pl.symm]; exact hl2
   refine ⟨_,rfl,.inl ⟨rfl,_,SqL.of hl3⟩,_,rfl,l,_,_,rfl,rfl,hl3,fu (by rw [length_map]; omega),?_⟩
   refine ⟨_,rfl,_,rfl,_,_,rfl,rfl,?_⟩
   refine ⟨es++[r3],left-r3,a3,b3,_,_,rfl,by rw [length_append,length_singleton,hlen],λe he=>?_,by omega,⟨by omega,by rw [sum_append]; simp; omega⟩,by rw [ac,map_append]; rfl,by rw [am pl,ac],by rw [show k+(i+1)=k+i+1 by omega]; exact hb3,λc o e hc=>?_⟩
   ·rcases List.mem_append.mp he with z | z
    ·exact hnn e z
    ·rw [List.mem_singleton.mp z]; exact r30
   ·rw [am (ah e hl),am hc]
    exact kp c o e hc
  ·rintro σ H2 ⟨es,left,a2,b2,x5,x6,rfl,hlen,hnn,hl0,⟨hlM,hsm⟩,hl2,hp2,hb2,kp⟩
   refine ⟨_,rfl,_,rfl,(by show 1<=sizeLine; decide),λl1 n1=>?_⟩
   have s1:=mY.new (o:=.lst [.int left]) n1
   have h4:(10:Nat)<=sizeLine:=by decide
   refine ⟨l,l1,_,_,rfl,rfl,s1 _ _ hl2,ac,by rw [length_map,length_singleton]; omega,λl2 n2=>?_⟩
   have s2:=mY.new (o:=.lst (es.map V.int++[.int left])) n2
   refine ⟨l2,_,rfl,SqL.of ac,λt ht=>?_⟩
   have s3:=mY.new (o:=.tup (es.map V.int++[.int left])) ht
   have sm:=(s1.trans s2).trans s3
   refine q t (es++[left]) a2 b2 _ (by rw [length_append,length_singleton]; omega) (λe he=>?_) (by rw [sum_append]; simp; omega) (by rw [ac,map_append]; rfl) (sm _ _ hp2) (hb2.mono (by omega)) (λc o e hc=>sm c o (kp c o e hc))
   rcases List.mem_append.mp he with z | z
   ·exact hnn e z
   ·rw [List.mem_singleton.mp z]; exact hl0
def ou (P:Int) (H:Hp) (v:V) (e:List ak):Prop:=∃ l ts,v=.ref l/\H l=some (.lst ts)/\nj P H ts e
def ot (P:Int) (H:Hp) (v:V) (row:List (List ak)):Prop:=∃ r es,v=.ref r/\H r=some (.lst es)/\Paired (ou P H) es row
theorem ap {α β:Type} {R S:α->β->Prop} (h:∀ x y,R x y->S x y):∀ {xs:List α} {ys:List β},Paired R xs ys->Paired S xs ys
 | _,_,.nil=>.nil
 | _,_,.cons q r=>.cons (h _ _ q) (ap h r)
theorem aO {α β:Type} {R:α->β->Prop}:∀ {xs:List α} {ys:List β} {i:Nat} {x:α},Paired R xs ys->xs[i]? = some x->∃ y,ys[i]? = some y/\R x y
 | _,_,0,x,.cons q r,e=>by cases e; exact ⟨_,rfl,q⟩
 | _::_,_::_,i+1,x,.cons q r,e=>aO (i:=i) r e
theorem aH {α β:Type} {R:α->β->Prop} {x:α} {y:β} (h:R x y):∀ {xs:List α} {ys:List β},Paired R xs ys->Paired R (xs++[x]) (ys++[y])
 | _,_,.nil=>.cons h .nil
 | _,_,.cons q r=>.cons q (aH h r)
theorem ji {α β:Type} {R:α->β->Prop}:∀ {xs:List α} {ys:List β} {x:α},Paired R xs ys->x ∈ xs->∃ y ∈ ys,R x y
 | _,_,x,.cons q r,hx=>by
  rcases List.mem_cons.mp hx with rfl | hx
  ·exact ⟨_,by simp,q⟩
  ·obtain ⟨y,hy,h⟩:=ji r hx
   exact ⟨y,by simp [hy],h⟩
theorem ou.same {P:Int} {H H':Hp} {v:V} {e:List ak} (s:mY H H') (h:ou P H v e):ou P H' v e:=by
 obtain ⟨l,ts,rfl,hl,pr⟩:=h
 exact ⟨l,ts,rfl,s _ _ hl,pr.mono λt xs e=>s _ _ e⟩
theorem ot.same {P:Int} {H H':Hp} {v:V} {row:List (List ak)} (s:mY H H') (h:ot P H v row):ot P H' v row:=by
 obtain ⟨r,es,rfl,hr,pr⟩:=h
 exact ⟨r,es,rfl,s _ _ hr,ap (λ_ _=>ou.same s) pr⟩
def KeepB (p:Addr) (H H':Hp):Prop:=(∃ xs,H p=some (.lst xs))/\(∃ ys,H' p=some (.lst ys))/\∀ c o,H c=some o->c ≠ p->H' c=some o
theorem KeepB.put {p:Addr} {H:Hp} {xs ys:List V} (h:H p=some (.lst xs)):KeepB p H (upd H p (.lst ys)):=⟨⟨_,h⟩,⟨_,ac⟩,λc o e hc=>by rw [am hc]; exact e⟩
def m5 (av:List Addr) (H H':Hp):Prop:=(∀ t xs,H t=some (.tup xs)->H' t=some (.tup xs))/\∀ c o,H c=some o->c ∉ av->H' c=some o
theorem m5.of {av:List Addr} {H H':Hp} (s:mY H H'):m5 av H H':=⟨λt xs e=>s _ _ e,λc o e _=>s c o e⟩
theorem m5.trans {av:List Addr} {H H1 H2:Hp} (a:m5 av H H1) (b:m5 av H1 H2):m5 av H H2:=⟨λt xs e=>b.1 t xs (a.1 t xs e),λc o e hc=>b.2 c o (a.2 c o e hc) hc⟩
theorem m5.bag {av:List Addr} {p:Addr} {H H':Hp} {xs:List V} (hp:H p=some (.lst xs)) (k:∀ c o,H c=some o->c ≠ p->H' c=some o) (m:p ∈ av):m5 av H H':=
 ⟨λt ys e=>k t _ e (bq e hp (by intro z; cases z)),λc o e hc=>k c o e λz=>hc (by rw [z]; exact m)⟩
theorem m5.put {av:List Addr} {r:Addr} {H:Hp} {xs ys:List V} (h:H r=some (.lst xs)) (m:r ∈ av):m5 av H (upd H r (.lst ys)):=m5.bag h (λc o e hc=>by rw [am hc]; exact e) m
def oE (av:List Addr) (P:Int) (H:Hp) (v:V) (e:List ak):Prop:=∃ l ts,v=.ref l/\l ∉ av/\H l=some (.lst ts)/\nj P H ts e
theorem oE.keep {av:List Addr} {P:Int} {H H':Hp} {v:V} {e:List ak} (k:m5 av H H') (h:oE av P H v e):oE av P H' v e:=by
 obtain ⟨l,ts,rfl,lp,hl,pr⟩:=h
 exact ⟨l,ts,rfl,lp,k.2 _ _ hl lp,pr.mono k.1⟩
theorem oE.ent {av:List Addr} {P:Int} {H:Hp} {v:V} {e:List ak} (h:oE av P H v e):ou P H v e:=by
 obtain ⟨l,ts,rfl,_,hl,pr⟩:=h
 exact ⟨l,ts,rfl,hl,pr⟩
theorem oE.less {av av':List Addr} {P:Int} {H:Hp} {v:V} {e:List ak} (s:∀ a ∈ av',a ∈ av) (h:oE av P H v e):oE av' P H v e:=by
 obtain ⟨l,ts,rfl,lp,hl,pr⟩:=h
 exact ⟨l,ts,rfl,λm=>lp (s _ m),hl,pr⟩
def nB (H0:Hp) (r:Addr) (P:Int) (H:Hp) (v:V) (e:List ak):Prop:=∃ l ts,v=.ref l/\H0 l=none/\l ≠ r/\H l=some (.lst ts)/\nj P H ts e
theorem nB.keep {H0:Hp} {p r:Addr} {o:HO} {P:Int} {H H':Hp} {v:V} {e:List ak} (hp:H0 p=some o) (k:m5 [p,r] H H') (h:nB H0 r P H v e):nB H0 r P H' v e:=by
 obtain ⟨l,ts,rfl,l0,lr,hl,pr⟩:=h
 have lp:l ≠ p:=λz=>by rw [z,hp] at l0; cases l0
 exact ⟨l,ts,rfl,l0,lr,k.2 _ _ hl (by simp [lp,lr]),pr.mono k.1⟩
theorem nB.keepA {H0:Hp} {av:List Addr} {r:Addr} {P:Int} {H H':Hp} {v:V} {e:List ak} (hav:∀ a ∈ av,a=r\/H0 a ≠ none) (k:m5 av H H') (h:nB H0 r P H v e):nB H0 r P H' v e:=by
 obtain ⟨l,ts,rfl,l0,lr,hl,pr⟩:=h
 refine ⟨l,ts,rfl,l0,lr,k.2 _ _ hl (λm=>?_),pr.mono k.1⟩
 rcases hav l m with z | z
 ·exact lr z
 ·exact z l0
theorem nB.ent {H0:Hp} {r:Addr} {P:Int} {H:Hp} {v:V} {e:List ak} (h:nB H0 r P H v e):ou P H v e:=by
 obtain ⟨l,ts,rfl,_,_,hl,pr⟩:=h
 exact ⟨l,ts,rfl,hl,pr⟩
theorem bb {p d:Addr} {o:HO} {H H':Hp} (k:∀ c o,H c=some o->c ≠ p->H' c=some o) (hp:H' p=some o) (hd:H' d=none):H d=none:=by
 cases e:H d with
 | none=>rfl
 | some x=>
  by_cases z:d=p
  ·rw [z,hp] at hd; cases hd
  ·rw [k d x e z] at hd; cases hd
theorem jb {α β:Type} {R:α->β->Prop} {y:β}:∀ {xs:List α} {ys:List β} {i:Nat} {x:α},Paired R xs ys->xs[i]? = some x->R x y->Paired R xs (ys.set i y)
 | _,_,0,x,.cons q r,e,h=>by cases e; exact .cons h r
 | _::_,_::_,i+1,x,.cons q r,e,h=>.cons q (jb (i:=i) r e h)
theorem iE {α β:Type} {R:α->β->Prop} {x:α} {y:β} (h:R x y):∀ {xs:List α} {ys:List β} (i:Nat),Paired R xs ys->Paired R (xs.set i x) (ys.set i y)
 | _,_,_,.nil=>.nil
 | _,_,0,.cons q r=>.cons h r
 | _,_,i+1,.cons q r=>.cons q (iE h i r)
def nV (P L:Int) (S:Nat) (h c:Int) (e:List ak):Prop:=ow P L S e/\e.length<=3/\∀ q ∈ e,q.1.sum+c=h/\q.1.sum<=4
def oz (P L:Int) (S:Nat) (cs:List Int) (row:List (List ak)):Prop:=∃ h,Paired (nV P L S h) cs row/\∃ e ∈ row,e ≠ []
theorem ow.mono {P L:Int} {y z:Nat} {ps:List ak} (h:ow P L y ps) (hz:y<=z):ow P L z ps:=⟨h.1,λp hp=>⟨(h.2 p hp).1,(h.2 p hp).2.1.mono hz,(h.2 p hp).2.2⟩⟩
theorem nV.mono {P L:Int} {y z:Nat} {h c:Int} {e:List ak} (k:nV P L y h c e) (hz:y<=z):nV P L z h c e:=⟨k.1.mono hz,k.2⟩
theorem oz.mono {P L:Int} {y z:Nat} {cs:List Int} {row:List (List ak)} (k:oz P L y cs row) (hz:y<=z):oz P L z cs row:=by
 obtain ⟨h,p,e⟩:=k
 exact ⟨h,ap (λ_ _ k=>k.mono hz) p,e⟩
def bZ:List Int->List (List ak)->Option Int
 | c::cs,e::row=>match e with
  | q::_=>some (c+q.1.sum)
  | []=>bZ cs row
 | _,_=>none
def gc (cs:List Int) (row:List (List ak)):V:=match bZ cs row with
 | some h=>.int h
 | none=>.non
theorem iJ {cs:List Int}:∀ {row:List (List ak)},row.length=cs.length->(bZ cs row=none↔∀ e ∈ row,e=[]):=by
 induction cs with
 | nil=>intro row h; cases row with
  | nil=>simp [bZ]
  | cons e r=>simp at h
 | cons c cs ih=>
  intro row h
  cases row with
  | nil=>simp at h
  | cons e r=>
   have h':r.length=cs.length:=by simpa using h
   cases e with
   | nil=>
    rw [show bZ (c::cs) ([]::r)=bZ cs r from rfl,ih h']
    simp
   | cons q t=>
    rw [show bZ (c::cs) ((q::t)::r)=some (c+q.1.sum) from rfl]
    simp
theorem mO {P:Int} (hP:nq P) {S:Nat} (hS:14<=S) {ps:List ak} (h:∀ p ∈ ps,OkN P p.2/\Sz S p.2):∀ i,i<=ps.length->∀ p ∈ acc P (ps.take i),Sz ((S+1)*i) p.2
 | 0,_,p,hp=>by simp [acc] at hp
 | i+1,hi,p,hp=>by
  have hB:=hP.b
  obtain ⟨q,eq⟩:∃ q,ps[i]? = some q:=⟨_,getElem?_eq_getElem (by omega)⟩
  have ih:=mO hP hS h i (by omega)
  have okm:∀ q ∈ acc P (ps.take i),OkN P q.2:=gi hB.1 hB.2.2 λq hq=>(h q (mem_of_mem_take hq)).1
  obtain ⟨oq,zq⟩:=h q (mem_of_getElem? eq)
  have e3:(S+1)*(i+1)=(S+1)*i+(S+1):=Nat.mul_succ _ _
  rw [eE eq] at hp
  rcases dn hp with z | z
  ·rw [z]
   show Sz ((S+1)*(i+1)) (cG P ((bo (acc P (ps.take i)) q.1).getD (0,1)) q.2)
   cases e:bo (acc P (ps.take i)) q.1 with
   | none=>
    show Sz _ (cG P (0,1) q.2)
    rw [dX oq]
    exact zq.mono (by omega)
   | some y=>
    have my:=bh e
    have sy:Sz ((S+1)*i) y:=ih _ my
    have pos:1<=i:=by
     cases i with
     | zero=>simp [acc] at my
     | succ j=>omega
    have e4:S+1<=(S+1)*i:=Nat.le_mul_of_pos_right _ pos
    exact (lZ hB.1 hB.2.1 (okm _ my) oq sy zq (by omega)).1.mono (by omega)
  ·exact (ih p z).mono (by omega)
theorem acc_szA {P:Int} (hP:nq P) {S n:Nat} (hS:14<=S) {ps:List ak} (h:∀ p ∈ ps,OkN P p.2/\Sz S p.2) (hn:ps.length<=n) (i:Nat):∀ p ∈ acc P (ps.take i),Sz ((S+1)*n) p.2:=λp hp=>by
 by_cases hi:i<=ps.length
 ·exact (mO hP hS h i hi p hp).mono (Nat.mul_le_mul_left _ (by omega))
 ·rw [take_of_length_le (by omega)] at hp
  exact (mO hP hS h ps.length (Nat.le_refl _) p (by rw [take_length]; exact hp)).mono (Nat.mul_le_mul_left _ hn)
theorem sumOk_n {P:Int} (hP:nq P) {S n:Nat} (hS:14<=S) {ps:List ak} (h:∀ p ∈ ps,OkN P p.2/\Sz S p.2) (hn:ps.length<=n) (h1:S<=2900) (h2:(S+1)*n<=2900):iz P ps:=⟨λp hp=>⟨(h p hp).1,(h p hp).2.mono h1⟩,λi p hp=>(acc_szA hP hS h hn i p hp).mono h2⟩
theorem canon_n {P L:Int} (hP:nq P) {S n:Nat} (hS:14<=S) {ps out:List ak} (h:∀ p ∈ ps,OkN P p.2/\Sz S p.2/\(p.1.length:Int)=L/\∀ e ∈ p.1,0<=e) (hn:ps.length<=n) (hs:nO P ps out):ow P L ((S+1)*n) out/\out.length<=n/\∀ q ∈ out,∃ r ∈ ps,r.1=q.1:=by
 have hB:=hP.b
 have h':∀ p ∈ ps,OkN P p.2/\Sz S p.2:=λp hp=>⟨(h p hp).1,(h p hp).2.1⟩
 have fr:∀ q ∈ out,∃ r ∈ ps,r.1=q.1:=λq hq=>acc_from q (hs.mem q hq)
 refine ⟨⟨hs.2,λq hq=>⟨gi hB.1 hB.2.2 (λp hp=>(h p hp).1) q (hs.mem q hq),acc_szA hP hS h' hn ps.length q (by rw [take_length]; exact hs.mem q hq),hs.nz q hq,?_⟩⟩,?_,fr⟩
 ·obtain ⟨r,hr,e⟩:=fr q hq
  rw [<- e]
  exact (h r hr).2.2
 ·have e1:=hs.1.length_eq
  have e2:=List.length_filter_le nz (acc P ps)
  have e3:=gU P ps
  omega
def oF (av:List Addr) (P:Int) (H:Hp) (v:V) (row:List (List ak)):Prop:=∃ r es,v=.ref r/\r ∉ av/\H r=some (.lst es)/\Paired (oE av P H) es row
theorem oF.keep {av:List Addr} {P:Int} {H H':Hp} {v:V} {row:List (List ak)} (k:m5 av H H') (h:oF av P H v row):oF av P H' v row:=by
 obtain ⟨r,es,rfl,ra,hr,pr⟩:=h
 exact ⟨r,es,rfl,ra,k.2 _ _ hr ra,ap (λ_ _=>oE.keep k) pr⟩
theorem oF.row {av:List Addr} {P:Int} {H:Hp} {v:V} {row:List (List ak)} (h:oF av P H v row):ot P H v row:=by
 obtain ⟨r,es,rfl,_,hr,pr⟩:=h
 exact ⟨r,es,rfl,hr,ap (λ_ _=>oE.ent) pr⟩
theorem mU {K:Frag} {P:Int} {src:List (Option Nat)} {σ rest:L2.St} {H0:Hp} {a:Addr} {es:List V} {row:List (List ak)} {Q:VK} (hσ:bG src σ=none::rest) (ha:H0 a=some (.lst es)) (pr:Paired (ou P H0) es row) (hl:es.length<=60)
  (hd:∀ acc es' H',H0 acc=none->mY H0 H'->H' acc=some (.lst es')->Paired (nB H0 acc P H') es' row->Q (.ref acc) H'):cf (Itl K a) src (cB 0) tYes (tCB (rListT K) (bv (tVar 0) di)) σ H0 Q:=by
 have le:es.length=row.length:=Paired.length pr
 refine be (n:=es.length) (σ0:=none::rest) hσ (λacc i ws σ H'=>∃ u:Option V,σ=u::rest/\mY H0 H'/\Paired (nB H0 acc P H') ws (row.take i)) (by rw [sizeLine_eq]; omega) (λacc hacc=>⟨none,rfl,mY.new hacc,by rw [take_zero]; exact .nil⟩) ?_ ?_ ?_ ?_
 ·rintro acc i ws σ H' hacc hi hz ⟨u,rfl,sm,_⟩
  exact ⟨es,es[i],SqL.of (sm _ _ ha),by simp [hi]⟩
 ·rintro acc ws σ H' hacc hz ⟨u,rfl,sm,_⟩
  exact ⟨es,SqL.of (sm _ _ ha),Nat.le_refl _⟩
 ·rintro acc i ws σ H1 x H' hacc hi hz hzl ⟨u,rfl,sm,pw⟩ ⟨rfl,gx⟩
  have hx:=gx es (SqL.of (sm _ _ ha))
  obtain ⟨e,ee,l,ts,rfl,hl1,pe⟩:=aO pr hx
  refine ⟨_,rfl,l,ts,rfl,.inl (SqL.of (sm _ _ hl1)),λl2 n2=>?_⟩
  have s2:=mY.new (o:=.lst ts) n2
  have h2:(upd H' l2 (.lst ts)) l2=some (.lst ts):=ac
  have la:l2 ≠ acc:=(ah hz n2).symm
  generalize upd H' l2 (.lst ts)=H2 at *
  have hz2:=s2 _ _ hz
  have k:m5 [acc] H' (upd H2 acc (.lst (ws++[.ref l2]))):=(m5.of s2).trans (m5.put hz2 (by simp))
  have k2:m5 [acc] H2 (upd H2 acc (.lst (ws++[.ref l2]))):=m5.put hz2 (by simp)
  refine ⟨ws,hz2,by rw [sizeLine_eq]; omega,_,ac,by rw [length_append,length_singleton]; omega,_,rfl,(sm.trans s2).put hacc,?_⟩
  rw [take_add_one,ee]
  refine aH ?_ (ap (λ_ _=>nB.keepA (av:=[acc]) (λa ha=>.inl (by simpa using ha)) k) pw)
  exact ⟨l2,ts,rfl,sm.free n2,la,by rw [am la]; exact h2,(pe.mono λt xs e=>s2 _ _ (sm _ _ e)).mono k2.1⟩
 ·rintro acc ws σ H1 hacc hz hzl ⟨u,rfl,sm,pw⟩
  rw [le,take_length] at pw
  exact hd acc ws H1 hacc sm hz pw
theorem comp_ent {J:It} {n:Nat} {src:List (Option Nat)} {g:TG} {te:TE} {Q:VK} {σ σ0:L2.St} {H0:Hp} {P:Int} (hσ:bG src σ=σ0) (Sh:L2.St->Prop) (Rel:Nat->List ak->Prop) (hn:n<=60) (h0:Sh σ0)
  (hgo:∀ i H,i<n->mY H0 H->J.go i H) (hst:∀ H,mY H0 H->J.stop n H)
  (turn:∀ i σ H x H' (R:L2.St->VK),i<n->Sh σ->mY H0 H->J.yld i H x H'->(∀ σ2 l ts e H2,Sh σ2->mY H H2->H l=none->H2 l=some (.lst ts)->nj P H2 ts e->Rel i e->R σ2 (.ref l) H2)->g x σ H' λσ2 H2=>te σ2 H2 (R σ2))
  (hd:∀ acc es row H,H0 acc=none->mY H0 H->H acc=some (.lst es)->Paired (nB H0 acc P H) es row->row.length=n->(∀ i e,row[i]? = some e->Rel i e)->Q (.ref acc) H) :
  cf J src g tYes te σ H0 Q:=by
 refine be (n:=n) (σ0:=σ0) hσ (λacc i zs σ H=>Sh σ/\mY H0 H/\∃ row,Paired (nB H0 acc P H) zs row/\row.length=i/\∀ j e,row[j]? = some e->Rel j e) (by rw [sizeLine_eq]; omega) (λacc hacc=>⟨h0,mY.new hacc,[],.nil,rfl,λj e z=>by simp at z⟩) ?_ ?_ ?_ ?_
 ·rintro acc i zs σ H hacc hi hz ⟨_,sm,_⟩
  exact hgo i H hi sm
 ·rintro acc zs σ H hacc hz ⟨_,sm,_⟩
  exact hst H sm
 ·rintro acc i zs σ H x H' hacc hi hz hzl ⟨sh,sm,row,pr,lr,rel⟩ hy
  refine turn i σ H x H' (λσ2 y H4=>∃ ys,H4 acc=some (.lst ys)/\ys.length<sizeLine/\∃ zs,(upd H4 acc (.lst (ys++[y]))) acc=some (.lst zs)/\zs.length<=i+1/\Sh σ2/\mY H0 (upd H4 acc (.lst (ys++[y])))/\∃ row,Paired (nB H0 acc P (upd H4 acc (.lst (ys++[y])))) zs row/\row.length=i+1/\∀ j e,row[j]? = some e->Rel j e) hi sh sm hy λσ2 l ts e H2 sh2 s2 nl hl pe re=>?_
  have hz2:=s2 _ _ hz
  have kp:m5 [acc] H (upd H2 acc (.lst (zs++[.ref l]))):=(m5.of s2).trans (m5.put hz2 (by simp))
  have la:l ≠ acc:=(ah hz nl).symm
  refine ⟨zs,hz2,by rw [sizeLine_eq]; omega,_,ac,by rw [length_append,length_singleton]; omega,sh2,λc o e=>?_,row++[e],aH ⟨l,ts,rfl,sm.free nl,la,by rw [am la]; exact hl,pe.mono (m5.put (av:=[acc]) hz2 (by simp)).1⟩ (ap (λ_ _ z=>nB.keepA (λa h=>.inl (List.mem_singleton.mp h)) kp z) pr),by rw [length_append,lr]; rfl,λj e' ej=>?_⟩
  ·rw [am (ah e hacc)]
   exact s2 _ _ (sm c o e)
  ·by_cases hj:j<row.length
   ·rw [getElem?_append_left hj] at ej
    exact rel j e' ej
   ·rw [getElem?_append_right (by omega)] at ej
    have h0:j-row.length=0:=by
     rcases Nat.eq_zero_or_pos (j-row.length) with z | z
     ·exact z
     ·rw [List.getElem?_eq_none (by rw [length_singleton]; omega)] at ej
      cases ej
    rw [h0] at ej
    cases ej
    rw [show j=i by omega]
    exact re
 ·rintro acc zs σ H hacc hz hzl ⟨_,sm,row,pr,lr,rel⟩
  exact hd acc zs row H hacc sm hz pr lr rel
theorem kh {K:Frag} {r:Addr} {es:List V} {src:List (Option Nat)} {te:TE} {Q:VK} {σ rest:L2.St} {H0:Hp} {P:Int} (hσ:bG src σ=none::rest) (Rel:Nat->List ak->Prop) (hr:H0 r=some (.lst es)) (hn:es.length<=60)
  (turn:∀ i v H (R:VK),es[i]? = some v->mY H0 H->(∀ l ts e H2,mY H H2->H l=none->H2 l=some (.lst ts)->nj P H2 ts e->Rel i e->R (.ref l) H2)->te (some v::rest) H R)
  (hd:∀ acc es' row H,H0 acc=none->mY H0 H->H acc=some (.lst es')->Paired (nB H0 acc P H) es' row->row.length=es.length->(∀ i e,row[i]? = some e->Rel i e)->Q (.ref acc) H) :
  cf (Itl K r) src (cB 0) tYes te σ H0 Q:=
 comp_ent hσ (λσ=>∃ u,σ=u::rest) Rel hn ⟨none,rfl⟩ (λi H hi sm=>⟨es,_,SqL.of (sm _ _ hr),getElem?_eq_getElem hi⟩) (λH sm=>⟨es,SqL.of (sm _ _ hr),Nat.le_refl _⟩)
  (λi σ H x H' R hi ⟨u,e⟩ sm ⟨e',hx⟩ k=>by
   subst e e'
   exact turn i x H' (R (some x::rest)) (hx es (SqL.of (sm _ _ hr))) sm λl ts e H2=>k _ l ts e H2 ⟨_,rfl⟩) hd
theorem nd_3:(["_law_place", "_law_base", "_law_bag_here", "_law_near"]:List Str).Nodup:=by decide +kernel
def spCols:Sp:=λvs H Q _=>∃ (p:Addr) (N M a b:Int) (k:Nat),vs=[.int N,.int M,.ref p]/\1<=N/\N<=3/\1<=M/\M<=5/\H p=some (.lst [.int a,.int b])/\nE a b k/\k<=100000/\
 ∀ (l:Addr) (cs:List Int) (a' b':Int) (H':Hp),H l=none->H' l=some (.lst (cs.map V.int))->(cs.length:Int)=N->(∀ c ∈ cs,-18<=c/\c<=21)->H' p=some (.lst [.int a',.int b'])->nE a' b' (k+4)->(∀ c o,H c=some o->c ≠ p->H' c=some o)->Q (.ref l) H'
def spWide:Sp:=λvs H Q _=>∃ (p:Addr) (a b:Int) (k:Nat),vs=[.ref p]/\H p=some (.lst [.int a,.int b])/\nE a b k/\k<=100000/\
 ∀ (v:V) (x:Int × Int) (a' b':Int) (H':Hp),At 0 H' v x->OkN 0 x->Sz 35 x->H' p=some (.lst [.int a',.int b'])->nE a' b' (k+3)->(∀ c o,H c=some o->c ≠ p->H' c=some o)->Q v H'
def spLLevel:Sp:=λvs H Q _=>∃ (c r:Addr) (P:Int) (cs:List Int) (es:List V) (row:List (List ak)),vs=[.ref c,.ref r]/\H c=some (.lst (cs.map V.int))/\H r=some (.lst es)/\Paired (ou P H) es row/\row.length<=60/\∀ H',mY H H'->Q (gc cs row) H'
theorem iH {cs:List Int}:∀ {row:List (List ak)} {i:Nat},(∀ j<i,∀ e,row[j]? = some e->e=[])->bZ cs row=bZ (cs.drop i) (row.drop i):=by
 induction cs with
 | nil=>
  intro row i h
  cases row<;>cases i<;>simp [bZ]
 | cons c cs ih=>
  intro row i h
  cases i with
  | zero=>rfl
  | succ i=>
   cases row with
   | nil=>simp [bZ]
   | cons e r=>
    have e0:e=[]:=h 0 (by omega) e rfl
    subst e0
    exact ih λj hj e he=>h (j+1) (by omega) e he
theorem i8 (x:V) (xs:List V):atI (x::xs) 0=some x:=cC (xs:=x::xs) (j:=0) rfl
theorem iZ (P:Int) (out:List ak):PyData.eqv (dS P out) (dS P [])=decide (out=[]):=by
 cases out with
 | nil=>exact SeqAt.eqv_refl _ (SeqAt.canLay_of_shaped (bA P []))
 | cons p r=>
  rw [decide_eq_false (by simp)]
  simp [dS,PyData.eqv,PyData.eqvAll]
theorem sc__law_columns:mZ ["_law_many", "_law_near", "_law_bag_here", "_law_base"] ["_law_many", "_law_near", "_law_bag_here"] (al cL):=.i
theorem ok_cols {f:Addr} {fd:FuncData} (F:Fun K "_law_columns" "_law_columns" cL f fd) (T:Blt mg) (pO:FnB P w K mg base 1 "_law_take" bQ):nk P w K mg base CX0 2 f fd ["_law_many", "_law_near", "_law_bag_here"] spCols:=by
 refine F.o sc__law_columns λ_ _ _ _ H _ Q _ hr h=>?_
 ·obtain ⟨p,N,M,a,b,k,rfl,N1,N3,M1,M5,hp,hb,hk,q⟩:=h
  refine ⟨_,(ag (aq (i:=3) sc__law_columns.nd rfl (Or.inr rfl) (ao aS (au pO hr.m (aa (pv 2) (aa ae af))) ae))
(aj (ar (by exact aX (N:=["_law_place", "_law_base", "_law_bag_here", "_law_near"]) (src:=[none,some 3,some 2,some 1]) rfl rfl rfl (by exact (bu rfl T.range (aa (pv 0) af))) (λ_ _ _=>by exact ⟨by exact (bM (i:=0) nd_3 rfl rfl),bj,by exact (ao aS (ao aG (pv 1) (au pO hr.m (aa (pv 2) (aa (pv 3) af)))) ae)⟩))))),?_⟩
  refine ⟨_,rfl,p,a,b,35,k,rfl,hp,hb,by omega,by decide,aC (by decide) (by decide),λr1 a1 b1 r10 r11 hb1=>⟨_,_,rfl,rfl,?_⟩⟩
  have k1:=KeepB.put (ys:=[.int a1,.int b1]) hp
  have hp1:(upd H p (.lst [.int a1,.int b1])) p=some (.lst [.int a1,.int b1]):=ac
  generalize upd H p (.lst [.int a1,.int b1])=H1 at *
  refine ⟨_,rfl,N,rfl,by omega,by omega,be (n:=N.toNat) (σ0:=[none,some (.int (r1-17)),some (.ref p),some (.int M)]) rfl (λacc i ws σ H'=>∃ (u:Option V) (cs:List Int) (a b:Int),σ=[u,some (.int (r1-17)),some (.ref p),some (.int M)]/\ws=cs.map V.int/\cs.length=i/\(∀ c ∈ cs,-18<=c/\c<=21)/\H' p=some (.lst [.int a,.int b])/\nE a b (k+1+i)/\∀ c o,H1 c=some o->c ≠ p->H' c=some o)
   (by rw [sizeLine_eq]; omega) (λacc hacc=>⟨none,[],a1,b1,rfl,rfl,rfl,λc hc=>absurd hc (by simp),by rw [am (ah hp1 hacc)]; exact hp1,hb1,λc o e hc=>by rw [am (ah e hacc)]; exact e⟩) ?_ ?_ ?_ ?_⟩
  ·rintro acc i ws σ H' hacc hi hz _
   exact hi
  ·rintro acc ws σ H' hacc hz _
   exact Nat.le_refl _
  ·rintro acc i ws σ H2 x H' hacc hi hz hzl ⟨u,cs,a2,b2,rfl,rfl,lc,okc,hp2,hb2,kp2⟩ ⟨rfl,rfl⟩
   have pne:p ≠ acc:=ah hp1 hacc
   refine ⟨_,rfl,_,rfl,_,rfl,p,a2,b2,M,_,rfl,hp2,hb2,by omega,by omega,aC (by omega) (by omega),λr3 a3 b3 r30 r31 hb3=>⟨_,_,rfl,rfl,_,_,rfl,rfl,?_⟩⟩
   refine ⟨cs.map V.int,by rw [am pne.symm]; exact hz,by rw [length_map,sizeLine_eq]; omega,_,ac,by rw [length_append,length_singleton]; omega,_,cs++[r1-17+r3-1],a3,b3,rfl,by rw [map_append]; rfl,by rw [length_append,lc]; rfl,λc hc=>?_,by rw [am pne,ac],by rw [show k+1+(i+1)=k+1+i+1 by omega]; exact hb3,λc o e hc=>?_⟩
   ·rcases List.mem_append.mp hc with z | z
    ·exact okc c z
    ·rw [List.mem_singleton.mp z]
     omega
   ·rw [am (ah e hacc),am hc]
    exact kp2 c o e hc
  ·rintro acc ws σ H2 hacc hz hzl ⟨u,cs,a2,b2,rfl,rfl,lc,okc,hp2,hb2,kp2⟩
   have an:H acc=none:=by
    cases e:H acc with
    | none=>rfl
    | some o=>
     by_cases z:acc=p
     ·rw [z,hp1] at hacc; cases hacc
     ·rw [k1.2.2 acc o e z] at hacc; cases hacc
   exact q acc cs a2 b2 H2 an hz (by omega) okc hp2 (hb2.mono (by omega)) λc o e hc=>kp2 c o (k1.2.2 c o e hc) hc
theorem lW:mZ ["_law_bag_here"] ["_law_bag_here"] (al eJ):=.i
theorem ok_wide {f:Addr} {fd:FuncData} (F:Fun K "_law_wide" "_law_wide" eJ f fd) (pO:FnB P w K mg base 1 "_law_take" bQ) (pV:FnB P w K mg base 1 "_law_low" jV):nk P w K mg base CX0 2 f fd ["_law_bag_here"] spWide:=by
 refine F.o lW λ_ _ _ _ H _ Q _ hr h=>?_
 ·obtain ⟨p,a,b,k,rfl,hp,hb,hk,q⟩:=h
  refine ⟨_,(aj (ar (au pV hr.m (aa (ao bc (ao aS (ao bc ae (au pO hr.m (aa (pv 0) (aa ae af)))) ae) (au pO hr.m (aa (pv 0) (aa (ao dH ae ae) af)))) (aa (ao aG ae (au pO hr.m (aa (pv 0) (aa (ao aS (ao dH ae ae) ae) af)))) af))))),?_⟩
  refine ⟨_,rfl,p,a,b,2,k,rfl,hp,hb,by omega,by decide,aC (by decide) (by decide),λr1 a1 b1 r10 r11 hb1=>?_⟩
  refine ⟨_,_,rfl,rfl,.inl ⟨by decide,by decide⟩,_,_,rfl,rfl,?_⟩
  refine ⟨_,rfl,_,_,rfl,rfl,⟨by decide,by decide,by decide⟩,p,a1,b1,_,k+1,rfl,ac,hb1,by omega,by rw [cq]; decide,by rw [cq]; exact aC (by decide) (by decide),λr2 a2 b2 r20 r21 hb2=>?_⟩
  rw [cq] at r21
  refine ⟨_,_,rfl,rfl,.inl ⟨by omega,by omega⟩,?_⟩
  refine ⟨_,rfl,_,_,rfl,rfl,⟨by decide,by decide,by decide⟩,_,_,rfl,rfl,p,a2,b2,_,k+2,rfl,ac,hb2,by omega,by rw [cq]; decide,by rw [cq]; exact aC (by decide) (by decide),λr3 a3 b3 r30 r31 hb3=>?_⟩
  rw [cq] at r31
  refine ⟨_,_,rfl,rfl,_,_,rfl,by omega,aC (by omega) (by omega),λt ht=>?_⟩
  rw [cg,cg] at ht ⊢
  have h01:r1=0\/r1=1:=by omega
  have hb4:((2*r1-1)*r2).natAbs<2 ^ 35:=by
   rcases h01 with z | z<;>subst z<;>omega
  have pt:p ≠ t:=ah (o:=.lst [.int a3,.int b3]) ac ht
  generalize (2*r1-1)*r2=n at *
  have hl:=i9 n (1+r3) (by omega)
  refine q _ (nrm n (1+r3)) a3 b3 _ (.inl ⟨rfl,t,rfl,ac⟩) (.inl ⟨rfl,cR _ _ (by omega),dE _ _ (by omega)⟩) ⟨Nat.lt_of_le_of_lt hl.1 hb4,Nat.lt_of_le_of_lt hl.2 (by omega)⟩ (by rw [am pt,ac]) hb3 λc o e hc=>?_
  have e1:upd H p (.lst [.int a3,.int b3]) c=some o:=by rw [am hc]; exact e
  rw [am (ah e1 ht)]
  exact e1
theorem sc__law_level:mZ ["_law_columns_here", "_law_row", "_law_column", "_law_entry"] ["_law_columns_here", "_law_row"] (al dC):=.i
theorem ok_llevel {f:Addr} {fd:FuncData} (F:Fun K "_law_level" "_law_level" dC f fd) (T:Blt mg):nk P w K mg base CX0 1 f fd ["_law_columns_here", "_law_row"] spLLevel:=by
 refine F.o sc__law_level λ_ _ _ _ H _ Q _ hr h=>?_
 ·obtain ⟨c,r,P,cs,es,row,rfl,hc,hr',pr,hn,q⟩:=h
  have le:es.length=row.length:=Paired.length pr
  refine ⟨_,(ag (bp PassesOwn.never rfl (lP K false false rfl rfl T.zip (aa (pv 0) (aa (pv 1) af))) (bB K (i:=2) (j:=3) rfl rfl sc__law_level.nd rfl rfl rfl rfl)
(aj (aJ (aw (jY K rfl hr.units) (pv 3) (aQ af) (az _))
(aj (ar (ao aG (pv 2) (i5 K T (aA (ay K rfl) (aA (aE K rfl) (pv 3) ae (λ_ _=>rfl)) ae (λ_ _=>rfl)) true))))
aB)))
(aj (ar jr))),?_⟩
  refine ⟨_,rfl,_,rfl,c,r,rfl,⟨_,sqvL (SqL.of hc)⟩,⟨_,sqvL (SqL.of hr')⟩,for_zip (xs:=cs.map V.int) (ys:=es) (λi σ H'=>∃ x2 x3:Option V,σ=[some (.ref c),some (.ref r),x2,x3]/\mY H H'/\∀ j<i,∀ e,row[j]? = some e->e=[]) ?_ ?_ ?_ ?_⟩
  ·exact ⟨none,none,rfl,mY.refl _,λj hj=>absurd hj (by omega)⟩
  ·rintro i σ H1 hi ⟨x2,x3,rfl,sm,_⟩
   exact ⟨sqvL (SqL.of (sm _ _ hc)),sqvL (SqL.of (sm _ _ hr'))⟩
  ·rintro i x y σ H1 p hx hy ⟨x2,x3,rfl,sm,hz⟩ np
   obtain ⟨z,hz1,rfl⟩:=cD hx
   obtain ⟨e,he,l,ts,rfl,hl,pe⟩:=aO pr hy
   have s1:=sm.trans (mY.new (o:=.tup [.int z,.ref l]) np)
   refine ⟨p,_,rfl,SqT.of ac,rfl,_,_,rfl,_,_,rfl,rfl,?_⟩
   refine ⟨_,rfl,Nat.zero_le _,λl2 n2=>?_⟩
   have s2:=s1.trans (mY.new (o:=.lst []) n2)
   have h2:(upd (upd H1 p (.tup [.int z,.ref l])) l2 (.lst [])) l2=some (.lst []):=ac
   generalize upd (upd H1 p (.tup [.int z,.ref l])) l2 (.lst [])=H2 at *
   refine ⟨dS P e,dS P [],gn (s2 _ _ hl) (pe.mono λt xs e=>s2 _ _ e),gn h2 .nil,bA _ _,bA _ _,_,rfl,?_⟩
   rw [iZ]
   cases e with
   | nil=>
    refine bx ⟨_,_,rfl,s2,λj hj e' he'=>?_⟩
    by_cases h:j<i
    ·exact hz j h e' he'
    ·have:j=i:=by omega
     subst this
     rw [he] at he'
     exact (Option.some.inj he').symm
   | cons q0 t0=>
    cases pe with
    | cons pq pt=>
     obtain ⟨tq,kq,uq,rfl,h1,h2',h3⟩:=pq
     refine bH ⟨_,rfl,_,rfl,l,_,_,_,rfl,rfl,SqL.of (s2 _ _ hl),i8 _ _,tq,_,_,_,rfl,rfl,SqT.of (s2 _ _ h1),rfl,kq,_,rfl,iP (SqT.of (s2 _ _ h2')),_,_,rfl,rfl,?_⟩
     have z1:=q H2 s2
     unfold gc at z1
     rw [iH hz,List.drop_eq_getElem_cons (l:=cs) (by exact (List.getElem?_eq_some_iff.mp hz1).1),List.drop_eq_getElem_cons (l:=row) (by exact (List.getElem?_eq_some_iff.mp he).1),(List.getElem?_eq_some_iff.mp hz1).2,(List.getElem?_eq_some_iff.mp he).2] at z1
     exact z1
  ·rintro σ H1 ⟨x2,x3,rfl,sm,hz⟩
   have z1:=q H1 sm
   unfold gc at z1
   rw [iH hz,length_map,le] at z1
   have e0:bZ (cs.drop (min cs.length row.length)) (row.drop (min cs.length row.length))=none:=by
    rcases Nat.le_total cs.length row.length with h | h
    ·rw [Nat.min_eq_left h,List.drop_length]
     rfl
    ·rw [Nat.min_eq_right h,List.drop_length (l:=row)]
     cases cs.drop row.length<;>rfl
   rw [e0] at z1
   exact z1
def spDrawn:Sp:=λvs H Q _=>∃ (p c:Addr) (P L M N a b:Int) (g:Bool) (k:Nat) (cs:List Int),vs=[.int P,.int L,.ref c,.int M,.int N,.bl g,.ref p]/\nq P/\(g=true->P=0)/\1<=L/\L<=4/\0<=M/\M<=4/\0<=N/\N<=3/\H c=some (.lst (cs.map V.int))/\c ≠ p/\1<=cs.length/\cs.length<=3/\H p=some (.lst [.int a,.int b])/\nE a b k/\k<=50000/\
 ∀ (r:Addr) (es:List V) (row:List (List ak)) (a' b':Int) (H':Hp),H r=none->H' r=some (.lst es)->Paired (nB H r P H') es row->oz P L 110 cs row->H' p=some (.lst [.int a',.int b'])->nE a' b' (k+300)->(∀ c o,H c=some o->c ≠ p->H' c=some o)->Q (.ref r) H'
def iV (P L h c:Int) (q:ak):Prop:=OkN P q.2/\Sz 35 q.2/\(q.1.length:Int)=L/\(∀ e ∈ q.1,0<=e)/\q.1.sum+c=h/\q.1.sum<=4
theorem ent_drawn {P L h c:Int} (hP:nq P) {ps out:List ak} (hn:ps.length<=3) (ok:∀ q ∈ ps,iV P L h c q) (is:nO P ps out):nV P L 110 h c out:=by
 obtain ⟨cn,ln,fr⟩:=canon_n (L:=L) hP (S:=35) (by decide) (λq hq=>⟨(ok q hq).1,(ok q hq).2.1,(ok q hq).2.2.1,(ok q hq).2.2.2.1⟩) hn is
 refine ⟨cn.mono (by decide),ln,λq hq=>?_⟩
 obtain ⟨r,hr,e⟩:=fr q hq
 rw [<- e]
 exact (ok r hr).2.2.2.2
theorem lO {P L h c:Int} (hP:nq P) {ps:List ak} (hn:ps.length<=3) (ok:∀ q ∈ ps,iV P L h c q):iz P ps:=sumOk_n hP (S:=35) (n:=3) (by decide) (λq hq=>⟨(ok q hq).1,(ok q hq).2.1⟩) hn (by decide) (by decide)
theorem l3 {P:Int} (hP:nq P) {x:Int × Int} (o:OkN P x) (h:P=0->Sz 2 x):Sz 14 x:=by
 by_cases h0:P=0
 ·exact (h h0).mono (by decide)
 ·have hB:=hP.b
  rcases o with ⟨z,_⟩ | ⟨_,x0,x1,x2⟩
  ·exact absurd z h0
  ·exact ⟨by show x.1.natAbs<2 ^ 14; omega,by rw [x2]; decide⟩
theorem ixN_nat {n i:Nat} (h:i<n):ixN n (i:Int)=some i:=by
 unfold ixN
 rw [if_pos (by omega)]
 simp
 omega
theorem nF:mZ ["_law_prime_here", "_law_letters", "_law_columns_here", "_law_most", "_law_parts", "_law_great_here", "_law_bag_here", "_law_at", "_law_height", "_law_row", "_law_column", "_law_many", "_law_some", "_law_k", "_law_number_here"] ["_law_prime_here", "_law_letters", "_law_columns_here", "_law_most", "_law_parts", "_law_great_here", "_law_bag_here"] (al bY):=.i
set_option maxHeartbeats 4000000 in
theorem ok_drawn {f:Addr} {fd:FuncData} (F:Fun K "_law_drawn_row" "_law_drawn_row" bY f fd) (T:Blt mg) (pO:FnB P w K mg base 1 "_law_take" bQ) (p5:FnB P w K mg base 4 "_law_number" fB) (uc:FnB P w K mg base 2 "_law_wide" spWide) (pW:FnB P w K mg base 2 "_law_product" l6) (qf:FnB P w K mg base 4 "_law_sum" mv) (tw:FnB P w K mg base 1 "_law_level" spLLevel) (qo:FnB P w K mg base 1 "_law_unit" spUnit) :
  nk P w K mg base CX0 5 f fd ["_law_prime_here", "_law_letters", "_law_columns_here", "_law_most", "_law_parts", "_law_great_here", "_law_bag_here"] spDrawn:=by
 refine F.o nF λ_ _ _ _ H _ Q _ hr h=>?_
 ·obtain ⟨p,c,P,L,M,N,a,b,g,k,cs,rfl,hP,hg,L1,L4,M0,M4,N0,N3,hc,cp,c1,c3,hp,hb,hk,q⟩:=h
  have hB:=hP.b
  refine ⟨_,(ag (aq (i:=7) nF.nd rfl (Or.inl rfl) (au pO hr.m (aa (pv 6) (aa (ce K T (pv 2)) af))))
(ag (aq (i:=8) nF.nd rfl (Or.inl rfl) (ao aG (aA (aE K rfl) (pv 2) (pv 7) (λ_ _=>rfl)) (au pO hr.m (aa (pv 6) (aa (ao aG (pv 3) ae) af)))))
(ag (aq (i:=9) nF.nd rfl (Or.inl rfl) (aQ af))
(ag (bp PassesOwn.never rfl (aM K rfl (pv 2)) (aD (i:=10) nF.nd rfl (Or.inl rfl))
(ag (aq (i:=11) nF.nd rfl (Or.inl rfl) (ao aS (pv 8) (pv 10)))
(ag (aq (i:=12) nF.nd rfl (Or.inl rfl) (aQ af))
(ag (aJ (pt_chain jO jO ae (pv 11) (pv 3))
(aj (bp PassesOwn.never rfl (bu rfl T.range (aa (au pO hr.m (aa (pv 6) (aa (ao aG (pv 4) ae) af))) af)) (aD (i:=13) nF.nd rfl (Or.inl rfl))
(ag (aq (i:=14) nF.nd rfl (Or.inl rfl) (au p5 hr.m (aa (pv 0) (aa (pv 6) (aa fH af)))))
(ag (aJ (fT (pv 5))
(aj (aq (i:=14) nF.nd rfl (Or.inl rfl) (au uc hr.m (aa (pv 6) af))))
aB)
(aj (cE (bmA K rfl (pv 12) (aa (aL (aa (au pW hr.m (aa (pv 1) (aa (pv 11) (aa (pv 6) af)))) (aa (pv 14) af))) af))))))))
aB)
(aj (cE (bmA K rfl (pv 9) (aa (au qf hr.m (aa (pv 0) (aa (pv 12) af))) af))))))))
(ag (aJ (aw op_isN (au tw hr.m (aa (pv 2) (aa (pv 9) af))) jr (az _))
(aj (e7 (aQ (aa (aL (aa (au pW hr.m (aa (pv 1) (aa (ao aS (pv 8) (aA (aE K rfl) (pv 2) (pv 7) (λ_ _=>rfl))) (aa (pv 6) af)))) (aa (au qo hr.m (aa (pv 0) af)) af))) af)) (mR (pv 9) (pv 7) gE)))
aB)
(aj (ar (pv 9)))))))),?_⟩
  refine sq3 λR0 hR0=>?_
  refine ⟨_,rfl,_,rfl,c,_,rfl,.inl (SqL.of hc),p,a,b,_,k,rfl,hp,hb,by omega,by rw [length_map]; omega,by rw [length_map]; exact aC (by omega) (by omega),λr1 a1 b1 r10 r11 hb1=>?_⟩
  have k1:∀ c o,H c=some o->c ≠ p->upd H p (.lst [.int a1,.int b1]) c=some o:=λc o e hc=>by rw [am hc]; exact e
  have hp1:(upd H p (.lst [.int a1,.int b1])) p=some (.lst [.int a1,.int b1]):=ac
  generalize upd H p (.lst [.int a1,.int b1])=H1 at *
  obtain ⟨i,rfl⟩:=Int.eq_ofNat_of_zero_le r10
  rw [length_map] at r11
  have hi:i<cs.length:=by omega
  obtain ⟨ci,eci⟩:∃ ci,cs[i]? = some ci:=⟨_,getElem?_eq_getElem hi⟩
  have eciV:(cs.map V.int)[i]? = some (.int ci):=by rw [getElem?_map,eci]; rfl
  refine ⟨_,rfl,_,rfl,c,_,_,_,rfl,rfl,SqL.of (k1 _ _ hc cp),cC eciV,_,rfl,_,rfl,_,_,rfl,rfl,p,a1,b1,_,k+1,rfl,hp1,hb1,by omega,by omega,aC (by omega) (by omega),λr2 a2 b2 r20 r21 hb2=>⟨_,_,rfl,rfl,?_⟩⟩
  have k2:∀ c o,H c=some o->c ≠ p->upd H1 p (.lst [.int a2,.int b2]) c=some o:=λc o e hc=>by rw [am hc]; exact k1 c o e hc
  have hp2:(upd H1 p (.lst [.int a2,.int b2])) p=some (.lst [.int a2,.int b2]):=ac
  generalize upd H1 p (.lst [.int a2,.int b2])=H2 at *
  refine ⟨Nat.zero_le _,λr nr=>?_⟩
  have rp:r ≠ p:=(ah hp2 nr).symm
  have rc:r ≠ c:=(ah (k2 _ _ hc cp) nr).symm
  have hr3:(upd H2 r (.lst [])) r=some (.lst []):=ac
  have s3:=mY.new (o:=.lst []) nr
  have hp3:=s3 _ _ hp2
  generalize upd H2 r (.lst [])=H3 at *
  subst hR0
  refine ⟨_,rfl,c,rfl,⟨_,SqL.of (s3 _ _ (k2 _ _ hc cp))⟩,bX (xs:=cs.map V.int) (λj σ H'=>∃ (es:List V) (row:List (List ak)) (a b:Int) (x10 x11 x12 x13 x14:Option V),σ=[some (.int P),some (.int L),some (.ref c),some (.int M),some (.int N),some (.bl g),some (.ref p),some (.int (i:Int)),some (.int (ci+r2)),some (.ref r),x10,x11,x12,x13,x14]/\
    H' r=some (.lst es)/\Paired (nB H r P H') es row/\Paired (nV P L 110 (ci+r2)) (cs.take j) row/\H' p=some (.lst [.int a,.int b])/\nE a b (k+2+60*j)/\∀ c o,H2 c=some o->c ≠ p->H' c=some o) ?_ ?_ ?_ ?_⟩
  ·exact ⟨[],[],a2,b2,none,none,none,none,none,rfl,hr3,.nil,by rw [take_zero]; exact .nil,hp3,hb2,λc o e _=>s3 c o e⟩
  ·rintro j σ H' _ ⟨es,row,a,b,x10,x11,x12,x13,x14,rfl,_,_,_,_,_,kp⟩
   exact SqL.of (kp _ _ (k2 _ _ hc cp) cp)
  ·rintro j v σ H4 hx ⟨es,row,a4,b4,x10,x11,x12,x13,x14,rfl,hr4,pr4,ok4,hp4,hb4,kp4⟩ N0 B0 hN0
   obtain ⟨cj,ecj,rfl⟩:=cD hx
   have jl:j<cs.length:=(List.getElem?_eq_some_iff.mp ecj).1
   have lrow:row.length=j:=by rw [<- Paired.length ok4,length_take]; omega
   have les:es.length=row.length:=Paired.length pr4
   refine ⟨_,rfl,_,rfl,_,_,rfl,rfl,?_⟩
   refine ⟨Nat.zero_le _,λso ns=>?_⟩
   have sp:so ≠ p:=(ah hp4 ns).symm
   have sr:so ≠ r:=(ah hr4 ns).symm
   have s5:=mY.new (o:=.lst []) ns
   have hs5:(upd H4 so (.lst [])) so=some (.lst []):=ac
   have hp5:=s5 _ _ hp4
   generalize upd H4 so (.lst [])=H5 at *
   dsimp only
   refine gm (t:=hV _ _ _) (λσ' H'=>∃ (ts:List V) (ps:List ak) (a b:Int) (x13 x14:Option V),σ'=[some (.int P),some (.int L),some (.ref c),some (.int M),some (.int N),some (.bl g),some (.ref p),some (.int (i:Int)),some (.int (ci+r2)),some (.ref r),some (.int cj),some (.int (ci+r2-cj)),some (.ref so),x13,x14]/\H' so=some (.lst ts)/\nj P H' ts ps/\ps.length<=3/\(∀ q ∈ ps,iV P L (ci+r2) cj q)/\H' p=some (.lst [.int a,.int b])/\nE a b (k+2+60*j+50)/\∀ c o,H4 c=some o->c ≠ p->H' c=some o) (λR hR=>?_) ?_
   ·refine ⟨_,rfl,_,_,rfl,rfl,_,rfl,?_⟩
    have none5:∀ c o,H4 c=some o->c ≠ p->H5 c=some o:=λc o e _=>s5 c o e
    by_cases h1:0<=ci+r2-cj
    ·rw [decide_eq_true h1]
     refine bH ⟨_,rfl,_,_,rfl,rfl,_,rfl,?_⟩
     by_cases h2:ci+r2-cj<=M
     ·rw [decide_eq_true h2]
      refine bH ⟨_,rfl,_,rfl,_,_,rfl,rfl,p,a4,b4,_,_,rfl,hp5,hb4,by omega,by omega,aC (by omega) (by omega),λn6 a6 b6 n60 n61 hb6=>?_⟩
      have k6:∀ c o,H5 c=some o->c ≠ p->upd H5 p (.lst [.int a6,.int b6]) c=some o:=λc o e hc=>by rw [am hc]; exact e
      have hp6:(upd H5 p (.lst [.int a6,.int b6])) p=some (.lst [.int a6,.int b6]):=ac
      have hs6:=k6 _ _ hs5 sp
      generalize upd H5 p (.lst [.int a6,.int b6])=H6 at *
      refine ⟨n6,rfl,by omega,by omega,dG (n:=n6.toNat) (λm σ H'=>∃ (ts:List V) (ps:List ak) (a b:Int) (x13 x14:Option V),σ=[some (.int P),some (.int L),some (.ref c),some (.int M),some (.int N),some (.bl g),some (.ref p),some (.int (i:Int)),some (.int (ci+r2)),some (.ref r),some (.int cj),some (.int (ci+r2-cj)),some (.ref so),x13,x14]/\H' so=some (.lst ts)/\nj P H' ts ps/\ps.length=m/\(∀ q ∈ ps,iV P L (ci+r2) cj q)/\H' p=some (.lst [.int a,.int b])/\nE a b (k+2+60*j+1+12*m)/\∀ c o,H6 c=some o->c ≠ p->c ≠ so->H' c=some o) ?_ ?_ ?_⟩
      ·exact ⟨[],[],a6,b6,_,_,rfl,hs6,.nil,rfl,λq hq=>absurd hq (by simp),hp6,hb6,λc o e _ _=>e⟩
      ·rintro m σ H7 hm ⟨ts,ps,a7,b7,y13,y14,rfl,hs7,pr7,ln7,ok7,hp7,hb7,kp7⟩ N1 B1 hN1
       refine ⟨_,rfl,_,rfl,p,P,a7,b7,_,rfl,hP,hp7,hb7,by omega,λv x a8 b8 H8 av ox sx hp8 hb8 kp8=>?_⟩
       have sx14:=l3 hP ox sx
       have ks8:=m5.bag (av:=[p]) hp7 kp8 (by simp)
       dsimp only
       refine gm (t:=hV _ _ _) (λσ' H'=>∃ (v:V) (x:Int × Int) (a b:Int),σ'=[some (.int P),some (.int L),some (.ref c),some (.int M),some (.int N),some (.bl g),some (.ref p),some (.int (i:Int)),some (.int (ci+r2)),some (.ref r),some (.int cj),some (.int (ci+r2-cj)),some (.ref so),some (.int (0+(m:Int))),some v]/\At P H' v x/\OkN P x/\Sz 35 x/\H' p=some (.lst [.int a,.int b])/\nE a b (k+2+60*j+1+12*m+5)/\∀ c o,H7 c=some o->c ≠ p->H' c=some o) (λR' hR'=>?_) ?_
       ·refine ⟨_,rfl,_,rfl,?_⟩
        cases g with
        | false=>exact bx (hR' _ _ ⟨v,x,a8,b8,rfl,av,ox,sx14.mono (by decide),hp8,hb8.mono (by omega),kp8⟩)
        | true=>
         have h0:=hg rfl
         subst h0
         refine bH ⟨_,rfl,p,a8,b8,_,rfl,hp8,hb8,by omega,λv9 x9 a9 b9 H9 av9 ox9 sx9 hp9 hb9 kp9=>?_⟩
         exact hR' _ _ ⟨v9,x9,a9,b9,rfl,av9,ox9,sx9,hp9,hb9.mono (by omega),λc o e hc=>kp9 c o (kp8 c o e hc) hc⟩
       rintro σ' H9 ⟨v9,x9,a9,b9,rfl,av9,ox9,sx9,hp9,hb9,kp9⟩
       have hs9:=kp9 _ _ hs7 sp
       refine ⟨_,rfl,.inl ⟨rfl,_,SqL.of hs9⟩,?_⟩
       refine ⟨_,rfl,_,rfl,_,rfl,p,L,_,a9,b9,_,rfl,L1,L4,h1,by omega,hp9,hb9,by omega,λt es9 a10 b10 H10 le10 nn10 sm10 ht10 hp10 hb10 kp10=>?_⟩
       refine ⟨_,rfl,(by show 2<=sizeLine; decide),λt11 n11=>?_⟩
       have s11:=mY.new (o:=.tup [.ref t,v9]) n11
       have h11:(upd H10 t11 (.tup [.ref t,v9])) t11=some (.tup [.ref t,v9]):=ac
       generalize upd H10 t11 (.tup [.ref t,v9])=H11 at *
       have ka:m5 [p] H9 H11:=(m5.bag hp9 kp10 (by simp)).trans (.of s11)
       have kb:m5 [p] H7 H11:=(m5.bag hp7 kp9 (by simp)).trans ka
       have hs11:=ka.2 _ _ hs9 (by simp [sp])
       refine ⟨so,_,_,rfl,rfl,hs11,by rw [Paired.length pr7,ln7,sizeLine_eq]; omega,?_⟩
       have kc:m5 [so] H11 (upd H11 so (.lst (ts++[.ref t11]))):=m5.put hs11 (by simp)
       refine hN1 _ _ ⟨ts++[.ref t11],ps++[(es9,x9)],a10,b10,_,_,rfl,ac,nj.snoc ⟨t11,t,v9,rfl,kc.1 _ _ h11,kc.1 _ _ (s11 _ _ ht10),((av9.mono ka.1).mono kc.1)⟩ ((pr7.mono kb.1).mono kc.1),by rw [length_append,ln7]; rfl,λq hq=>?_,by rw [am sp.symm]; exact s11 _ _ hp10,hb10.mono (by omega),λc o e hc hcs=>?_⟩
       ·rcases List.mem_append.mp hq with z | z
        ·exact ok7 q z
        ·rw [List.mem_singleton.mp z]
         exact ⟨ox9,sx9,le10,nn10,by show es9.sum+cj=ci+r2; omega,by show es9.sum<=4; omega⟩
       ·rw [am hcs]
        exact s11 _ _ (kp10 c o (kp9 c o (kp7 c o e hc hcs) hc) hc)
      ·rintro σ H7 ⟨ts,ps,a7,b7,y13,y14,rfl,hs7,pr7,ln7,ok7,hp7,hb7,kp7⟩
       exact hR _ _ ⟨ts,ps,a7,b7,_,_,rfl,hs7,pr7,by omega,ok7,hp7,hb7.mono (by omega),λc o e hc=>kp7 c o (k6 c o (s5 c o e) hc) hc (ah e ns)⟩
     ·rw [decide_eq_false h2]
      exact bx (hR _ _ ⟨[],[],a4,b4,_,_,rfl,hs5,.nil,by decide,λq hq=>absurd hq (by simp),hp5,hb4.mono (by omega),none5⟩)
    ·rw [decide_eq_false h1]
     exact bx ⟨_,rfl,bx (hR _ _ ⟨[],[],a4,b4,_,_,rfl,hs5,.nil,by decide,λq hq=>absurd hq (by simp),hp5,hb4.mono (by omega),none5⟩)⟩
   rintro σ' H6 ⟨ts,ps,a6,b6,x13',x14',rfl,hs6,pr6,ln6,ok6,hp6,hb6,kp6⟩
   have hr6:=kp6 _ _ hr4 rp
   refine ⟨_,rfl,.inl ⟨rfl,_,SqL.of hr6⟩,?_⟩
   refine ⟨_,rfl,_,rfl,so,P,ts,ps,rfl,hP,hs6,pr6,by omega,lO hP ln6 ok6,λd rs out H7 nd s7 hd po is=>?_⟩
   have hr7:=s7 _ _ hr6
   have dp:d ≠ p:=(ah hp6 nd).symm
   have dr:d ≠ r:=(ah hr6 nd).symm
   refine ⟨r,_,_,rfl,rfl,hr7,by rw [les,lrow,sizeLine_eq]; omega,?_⟩
   have ka:m5 [p,r] H4 (upd H7 r (.lst (es++[.ref d]))):=((m5.bag hp4 kp6 (by simp)).trans (.of s7)).trans (m5.put hr7 (by simp))
   have kb:m5 [p,r] H7 (upd H7 r (.lst (es++[.ref d]))):=m5.put hr7 (by simp)
   refine hN0 _ _ ⟨es++[.ref d],row++[out],a6,b6,_,_,_,_,_,rfl,ac,aH ?_ (ap (λ_ _=>nB.keep hp ka) pr4),?_,by rw [am rp.symm]; exact s7 _ _ hp6,hb6.mono (by omega),λc o e hc=>?_⟩
   ·exact ⟨d,rs,rfl,bb (λc o e hc=>kp6 c o (kp4 c o (k2 c o e hc) hc) hc) hp6 nd,dr,by rw [am dr]; exact hd,po.mono kb.1⟩
   ·rw [take_add_one,ecj]
    exact aH (ent_drawn hP ln6 ok6 is) ok4
   ·rw [am (ah e nr)]
    exact s7 _ _ (kp6 c o (kp4 c o e hc) hc)
  rintro σ H4 ⟨es,row,a4,b4,x10,x11,x12,x13,x14,rfl,hr4,pr4,ok4,hp4,hb4,kp4⟩
  have k04:∀ c o,H c=some o->c ≠ p->H4 c=some o:=λc o e hc=>kp4 c o (k2 c o e hc) hc
  have hr0:H r=none:=by
   cases e:H r with
   | none=>rfl
   | some o=>rw [k2 r o e rp] at nr; cases nr
  rw [length_map] at ok4 hb4
  rw [take_length] at ok4
  have lrow:row.length=cs.length:=(Paired.length ok4).symm
  have les:es.length=row.length:=Paired.length pr4
  refine ⟨_,rfl,_,rfl,c,r,P,cs,es,row,rfl,k04 _ _ hc cp,hr4,ap (λ_ _=>nB.ent) pr4,by omega,λH5 s5=>⟨rfl,_,rfl,?_⟩⟩
  have hp5:=s5 _ _ hp4
  have hr5:=s5 _ _ hr4
  have pr5:Paired (nB H r P H5) es row:=ap (λ_ _=>nB.keep hp (.of s5)) pr4
  cases hlv:bZ cs row with
  | some hv=>
   have e1:gc cs row=.int hv:=by unfold gc; rw [hlv]
   rw [e1]
   refine bx ⟨_,rfl,q r es row a4 b4 H5 hr0 hr5 pr5 ⟨ci+r2,ok4,?_⟩ hp5 (hb4.mono (by omega)) λc o e hc=>s5 _ _ (k04 c o e hc)⟩
   have hn:¬ ∀ e ∈ row,e=[]:=λz=>by rw [(iJ lrow).mpr z] at hlv; cases hlv
   exact Classical.byContradiction λz=>hn λe he=>Classical.byContradiction λz2=>z ⟨e,he,z2⟩
  | none=>
   have e1:gc cs row=.non:=by unfold gc; rw [hlv]
   have hall:=(iJ lrow).mp hlv
   rw [e1]
   refine bH ⟨_,rfl,_,rfl,_,rfl,_,rfl,c,_,_,_,rfl,rfl,SqL.of (s5 _ _ (k04 _ _ hc cp)),cC eciV,_,_,rfl,rfl,_,rfl,p,L,_,a4,b4,_,rfl,L1,L4,by omega,by omega,hp5,hb4,by omega,λt es6 a6 b6 H6 le6 nn6 sm6 ht6 hp6 hb6 kp6=>?_⟩
   refine ⟨_,rfl,P,rfl,hP,λu7 H7 s7 a7=>⟨(by show 2<=sizeLine; decide),λt8 n8=>⟨(by show 1<=sizeLine; decide),λl9 n9=>?_⟩⟩⟩
   have s8:=mY.new (o:=.tup [.ref t,u7]) n8
   have h8:(upd H7 t8 (.tup [.ref t,u7])) t8=some (.tup [.ref t,u7]):=ac
   generalize upd H7 t8 (.tup [.ref t,u7])=H8 at *
   have s9:=mY.new (o:=.lst [.ref t8]) n9
   have h9:(upd H8 l9 (.lst [.ref t8])) l9=some (.lst [.ref t8]):=ac
   have hp8:=s8 _ _ (s7 _ _ hp6)
   have lp9:l9 ≠ p:=(ah hp8 n9).symm
   have hr8:=s8 _ _ (s7 _ _ (kp6 _ _ hr5 rp))
   have lr9:l9 ≠ r:=(ah hr8 n9).symm
   generalize upd H8 l9 (.lst [.ref t8])=H9 at *
   have hr9:=s9 _ _ hr8
   refine ⟨_,rfl,_,rfl,r,es,_,i,rfl,rfl,hr9,ixN_nat (by omega),?_⟩
   have ka:m5 [p,r] H5 H9:=(m5.bag hp5 kp6 (by simp)).trans (.of ((s7.trans s8).trans s9))
   have kb:m5 [p,r] H9 (upd H9 r (.lst (es.set i (.ref l9)))):=m5.put hr9 (by simp)
   have hm:es6.sum=r2:=by omega
   have e6:nV P L 110 (ci+r2) ci [(es6,(1,1))]:=by
    refine ⟨⟨pairwise_singleton _ _,λq hq=>?_⟩,by show 1<=3; decide,λq hq=>?_⟩
    ·rw [List.mem_singleton.mp hq]
     refine ⟨?_,⟨Nat.one_lt_two_pow (by decide),Nat.one_lt_two_pow (by decide)⟩,(by show decide (((1:Int),(1:Int)) ≠ (0,1))=true; decide),le6,nn6⟩
     by_cases h0:P=0
     ·exact .inl ⟨h0,(by show (0:Int)<1; decide),(by show Int.gcd 1 1=1; decide)⟩
     ·exact .inr ⟨h0,(by show (0:Int)<=1; decide),(by show 1<P; omega),rfl⟩
    ·rw [List.mem_singleton.mp hq]
     exact ⟨by show es6.sum+ci=ci+r2; omega,by show es6.sum<=4; omega⟩
   refine ⟨_,rfl,q r (es.set i (.ref l9)) (row.set i [(es6,(1,1))]) a6 b6 _ hr0 ac (iE ?_ i (ap (λ_ _=>nB.keep hp (ka.trans kb)) pr5)) ⟨ci+r2,jb ok4 eci e6,[(es6,(1,1))],?_,by simp⟩ (by rw [am rp.symm]; exact s9 _ _ hp8) (hb6.mono (by omega)) λc o e hc=>?_⟩
   ·exact ⟨l9,_,rfl,bb (λc o e hc=>s8 _ _ (s7 _ _ (kp6 c o (s5 _ _ (k04 c o e hc)) hc))) hp8 n9,lr9,by rw [am lr9]; exact h9,.cons ⟨t8,t,u7,rfl,kb.1 _ _ (s9 _ _ h8),kb.1 _ _ (s9 _ _ (s8 _ _ (s7 _ _ ht6))),(((a7.same s8).same s9).mono kb.1)⟩ .nil⟩
   ·exact List.mem_set (by omega) _
   ·rw [am (λz=>by rw [z,hr0] at e; cases e)]
    exact s9 _ _ (s8 _ _ (s7 _ _ (kp6 c o (s5 _ _ (k04 c o e hc)) hc)))
theorem nd_4:(["_law_a", "_law_b"]:List Str).Nodup:=by decide +kernel
def fpl (a b:Int × Int):Int × Int:=if a.2=b.2 then (a.1+b.1,a.2) else (a.1*(b.2.fdiv (Int.gcd a.2 b.2:Int))+b.1*(a.2.fdiv (Int.gcd a.2 b.2:Int)),a.2*(b.2.fdiv (Int.gcd a.2 b.2:Int)))
def val (P:Int) (x:Int × Int):Int × Int:=if P=0 then nrm x.1 x.2 else (x.1 % P,1)
theorem fZ {x1 x2 y1 y2 z1 z2:Int} (h:y2 ≠ 0) (e1:x1*y2=y1*x2) (e2:y1*z2=z1*y2):x1*z2=z1*x2:=by
 apply Int.eq_of_mul_eq_mul_right h
 have f1:x1*z2*y2=(x1*y2)*z2:=by ac_rfl
 have f2:y1*x2*z2=(y1*z2)*x2:=by ac_rfl
 have f3:z1*y2*x2=z1*x2*y2:=by ac_rfl
 rw [f1,e1,f2,e2,f3]
theorem kF {g u:Int} (hg:0<g) (h:0<g*u):0<u:=by
 rcases Int.lt_or_le 0 u with z | z
 ·exact z
 ·have:=Int.mul_le_mul_of_nonneg_left z (show 0<=g by omega)
  rw [Int.mul_zero] at this
  omega
theorem gG {a b:Int} (ha:0<a) (hb:0<b):a=(Int.gcd a b:Int)*a.fdiv (Int.gcd a b:Int)/\b=(Int.gcd a b:Int)*b.fdiv (Int.gcd a b:Int)/\0<(Int.gcd a b:Int)/\0<a.fdiv (Int.gcd a b:Int)/\0<b.fdiv (Int.gcd a b:Int):=by
 have hg:0<Int.gcd a b:=Int.gcd_pos_of_ne_zero_left b (by omega)
 have hg':(0:Int)<(Int.gcd a b:Int):=by omega
 obtain ⟨u,hu⟩:=Int.gcd_dvd_left (a:=a) (b:=b)
 obtain ⟨v,hv⟩:=Int.gcd_dvd_right (a:=a) (b:=b)
 have e1:a.fdiv (Int.gcd a b:Int)=u:=by
  have:((Int.gcd a b:Int)*u).fdiv (Int.gcd a b:Int)=u:=Int.mul_fdiv_cancel_left u (by omega)
  rw [<- hu] at this; exact this
 have e2:b.fdiv (Int.gcd a b:Int)=v:=by
  have:((Int.gcd a b:Int)*v).fdiv (Int.gcd a b:Int)=v:=Int.mul_fdiv_cancel_left v (by omega)
  rw [<- hv] at this; exact this
 rw [e1,e2]
 refine ⟨hu,hv,hg',?_,?_⟩
 ·exact kF hg' (by rw [<- hu]; exact ha)
 ·exact kF hg' (by rw [<- hv]; exact hb)
theorem lG {a b:Int × Int} (ha:0<a.2) (hb:0<b.2):0<(fpl a b).2:=by
 unfold fpl
 split
 ·exact ha
 ·exact Int.mul_pos ha (gG ha hb).2.2.2.2
theorem mE {a b:Int × Int} (ha:a.2=1) (hb:b.2=1):fpl a b=(a.1+b.1,1):=by
 unfold fpl
 rw [if_pos (by rw [ha,hb]),ha]
theorem fpl_eq {a b:Int × Int} (ha:0<a.2) (hb:0<b.2):(fpl a b).1*(a.2*b.2)=(a.1*b.2+b.1*a.2)*(fpl a b).2:=by
 unfold fpl
 split
 ·rename_i h
  show (a.1+b.1)*(a.2*b.2)=(a.1*b.2+b.1*a.2)*a.2
  rw [<- h,<- Int.add_mul,Int.mul_assoc]
 ·obtain ⟨e1,e2,hg,_,_⟩:=gG ha hb
  generalize a.2.fdiv (Int.gcd a.2 b.2:Int)=u at *
  generalize b.2.fdiv (Int.gcd a.2 b.2:Int)=v at *
  generalize (Int.gcd a.2 b.2:Int)=g at *
  show (a.1*v+b.1*u)*(a.2*b.2)=(a.1*b.2+b.1*a.2)*(a.2*v)
  have k:u*b.2=a.2*v:=by rw [e2]; conv=>rhs; rw [e1]
                         ac_rfl
  rw [Int.add_mul,Int.add_mul]
  have f1:a.1*v*(a.2*b.2)=a.1*b.2*(a.2*v):=by ac_rfl
  have f2:b.1*u*(a.2*b.2)=b.1*a.2*(u*b.2):=by ac_rfl
  rw [f1,f2,k]
theorem val_ok {P:Int} {x:Int × Int} (hP:0<=P) (h:0<x.2):OkN P (val P x):=by
 unfold val
 split
 ·rename_i e; subst e; exact me (by omega)
 ·exact mr hP ‹_›
theorem val_fpl {P:Int} {a b:Int × Int} (hP:0<=P) (ha:0<a.2) (hb:0<b.2) (h1:P ≠ 0->a.2=1/\b.2=1):val P (fpl a b)=cG P (val P a) (val P b):=by
 by_cases h:P=0
 ·subst h
  have fp:=lG ha hb
  have fe:=fpl_eq ha hb
  have na:=jv a.1 a.2 (by omega)
  have nb:=jv b.1 b.2 (by omega)
  have pa:=cR a.1 a.2 (by omega)
  have pb:=cR b.1 b.2 (by omega)
  have e1:val 0 (fpl a b)=nrm (fpl a b).1 (fpl a b).2:=by unfold val; rw [if_pos rfl]
  have e2:val 0 a=nrm a.1 a.2:=by unfold val; rw [if_pos rfl]
  have e3:val 0 b=nrm b.1 b.2:=by unfold val; rw [if_pos rfl]
  have r1:=jv (fpl a b).1 (fpl a b).2 (by omega)
  have r2:=cR (fpl a b).1 (fpl a b).2 (by omega)
  have r3:=dE (fpl a b).1 (fpl a b).2 (by omega)
  rw [e1,e2,e3]
  unfold cG
  rw [if_pos rfl]
  generalize nrm a.1 a.2=x at *
  generalize nrm b.1 b.2=y at *
  have hd:x.2*y.2 ≠ 0:=λz=>by have:=Int.mul_pos pa pb; omega
  have s1:=jv (x.1*y.2+y.1*x.2) (x.2*y.2) hd
  have s2:=cR (x.1*y.2+y.1*x.2) (x.2*y.2) hd
  have s3:=dE (x.1*y.2+y.1*x.2) (x.2*y.2) hd
  generalize nrm (x.1*y.2+y.1*x.2) (x.2*y.2)=s at *
  generalize nrm (fpl a b).1 (fpl a b).2=r at *
  have hab:a.2*b.2 ≠ 0:=λz=>by have:=Int.mul_pos ha hb; omega
  have wn:(a.1*b.2+b.1*a.2)*(x.2*y.2)=(x.1*y.2+y.1*x.2)*(a.2*b.2):=by
   rw [Int.add_mul,Int.add_mul]
   have f1:a.1*b.2*(x.2*y.2)=(a.1*x.2)*(b.2*y.2):=by ac_rfl
   have f2:b.1*a.2*(x.2*y.2)=(b.1*y.2)*(a.2*x.2):=by ac_rfl
   rw [f1,f2,<- na,<- nb]
   ac_rfl
  have t1:r.1*(a.2*b.2)=(a.1*b.2+b.1*a.2)*r.2:=fZ (by omega) r1 fe
  have t2:r.1*(x.2*y.2)=(x.1*y.2+y.1*x.2)*r.2:=fZ hab t1 wn
  have t3:r.1*s.2=s.1*r.2:=fZ hd t2 s1.symm
  obtain ⟨p,q⟩:=low_one r2 s2 r3 s3 t3
  exact Prod.ext p q
 ·obtain ⟨a1,b1⟩:=h1 h
  rw [mE a1 b1]
  unfold val cG
  rw [if_neg h,if_neg h,if_neg h,if_neg h]
  show ((a.1+b.1) % P,(1:Int))=((a.1 % P+b.1 % P) % P,1)
  rw [Int.add_emod]
theorem fpl_sz {a b:Int × Int} {i j:Nat} (ha:0<a.2) (hb:0<b.2) (h1:Sz i a) (h2:Sz j b):Sz (i+j+1) (fpl a b):=by
 unfold fpl
 have le1:2 ^ i<=2 ^ (i+j):=cN (by omega)
 have le2:2 ^ j<=2 ^ (i+j):=cN (by omega)
 have le3:2 ^ (i+j)<=2 ^ (i+j+1):=cN (by omega)
 split
 ·refine ⟨?_,?_⟩
  ·have:=(sz_add (Nat.lt_of_lt_of_le h1.1 le1) (Nat.lt_of_lt_of_le h2.1 le2)).1
   exact this
  ·exact Nat.lt_of_lt_of_le h1.2 (Nat.le_trans le1 le3)
 ·obtain ⟨e1,e2,hg,u0,v0⟩:=gG ha hb
  have hu:(a.2.fdiv (Int.gcd a.2 b.2:Int)).natAbs<=a.2.natAbs:=by
   conv=>rhs; rw [e1]
   rw [Int.natAbs_mul]
   exact Nat.le_mul_of_pos_left _ (by omega)
  have hv:(b.2.fdiv (Int.gcd a.2 b.2:Int)).natAbs<=b.2.natAbs:=by
   conv=>rhs; rw [e2]
   rw [Int.natAbs_mul]
   exact Nat.le_mul_of_pos_left _ (by omega)
  have m1:=db h1.1 (Nat.lt_of_le_of_lt hv h2.2)
  have m2:=db h2.1 (Nat.lt_of_le_of_lt hu h1.2)
  rw [Nat.add_comm j i] at m2
  have m3:=db h1.2 (Nat.lt_of_le_of_lt hv h2.2)
  exact ⟨(sz_add m1 m2).1,Nat.lt_of_lt_of_le m3 le3⟩
def iC (m:List ak) (q:ak):List ak:=cW m q.1 (match bo m q.1 with | some y=>fpl y q.2 | none=>q.2)
def bN (ts:List ak):List ak:=ts.foldl iC []
theorem dm {ts:List ak} {i:Nat} {p:ak} (h:ts[i]? = some p):bN (ts.take (i+1))=iC (bN (ts.take i)) p:=by
 unfold bN
 rw [take_add_one,h,List.foldl_append]
 rfl
def vm (P:Int) (m:List ak):List ak:=m.map λq=>(q.1,val P q.2)
theorem mL (P:Int) (k:List Int):∀ m:List ak,bo (vm P m) k=(bo m k).map (val P)
 | []=>rfl
 | p::r=>by
  show bo ((p.1,val P p.2)::vm P r) k=_
  by_cases e:p.1=k
  ·rw [de (p:=(p.1,val P p.2)) e,de e]; rfl
  ·rw [dw (p:=(p.1,val P p.2)) e,dw e,mL P k r]
theorem aput_vm (P:Int) (m:List ak) (k:List Int) (x:Int × Int):vm P (cW m k x)=cW (vm P m) k (val P x):=by
 unfold cW
 rw [mL]
 cases e:bo m k with
 | none=>
  show vm P (m++[(k,x)])=vm P m++[(k,val P x)]
  unfold vm; rw [map_append]; rfl
 | some y=>
  show vm P (m.map λp=>if p.1=k then (p.1,x) else p)=(vm P m).map λp=>if p.1=k then (p.1,val P x) else p
  unfold vm
  rw [map_map,map_map]
  apply List.map_congr_left
  intro p _
  show ((if p.1=k then (p.1,x) else p).1,val P (if p.1=k then (p.1,x) else p).2)=if p.1=k then (p.1,val P x) else (p.1,val P p.2)
  split<;>rfl
def TOk (P:Int) (z:Nat) (q:ak):Prop:=0<q.2.2/\(P ≠ 0->q.2.2=1)/\Sz z q.2
theorem gstep_vm {P:Int} (hP:0<=P) {m:List ak} {q:ak} {y z:Nat} (hm:∀ p ∈ m,TOk P y p) (hq:TOk P z q):vm P (iC m q)=cQ P (vm P m) (q.1,val P q.2):=by
 unfold iC cQ
 rw [aput_vm]
 show _=cW (vm P m) q.1 (cG P ((bo (vm P m) q.1).getD (0,1)) (val P q.2))
 rw [mL]
 cases e:bo m q.1 with
 | none=>
  show cW (vm P m) q.1 (val P q.2)=cW (vm P m) q.1 (cG P (0,1) (val P q.2))
  rw [dX (val_ok hP hq.1)]
 | some x=>
  have hx:=hm _ (bh e)
  show cW (vm P m) q.1 (val P (fpl x q.2))=cW (vm P m) q.1 (cG P (val P x) (val P q.2))
  rw [val_fpl hP hx.1 hq.1 λh=>⟨hx.2.1 h,hq.2.1 h⟩]
theorem gath_ok {P:Int} {ts:List ak} {z:Nat} (h:∀ q ∈ ts,TOk P z q):∀ i,i<=ts.length->∀ p ∈ bN (ts.take i),TOk P ((z+1)*i) p
 | 0,_,p,hp=>by simp [bN] at hp
 | i+1,hi,p,hp=>by
  obtain ⟨q,eq⟩:∃ q,ts[i]? = some q:=⟨_,getElem?_eq_getElem (by omega)⟩
  have hq:=h q (mem_of_getElem? eq)
  have ih:=gath_ok h i (by omega)
  have e1:(z+1)*(i+1)=(z+1)*i+z+1:=by rw [Nat.mul_add]; omega
  rw [dm eq] at hp
  rcases dn hp with w | w
  ·rw [w]
   cases e:bo (bN (ts.take i)) q.1 with
   | none=>exact ⟨hq.1,hq.2.1,hq.2.2.mono (by omega)⟩
   | some y=>
    have hy:=ih _ (bh e)
    refine ⟨lG hy.1 hq.1,λh0=>?_,?_⟩
    ·show (fpl y q.2).2=1
     rw [mE (hy.2.1 h0) (hq.2.1 h0)]
    ·show Sz ((z+1)*(i+1)) (fpl y q.2)
     rw [e1]
     exact fpl_sz hy.1 hq.1 hy.2.2 hq.2.2
  ·obtain ⟨a,b,c⟩:=ih p w
   exact ⟨a,b,c.mono (by omega)⟩
theorem gath_vm {P:Int} (hP:0<=P) {ts:List ak} {z:Nat} (h:∀ q ∈ ts,TOk P z q):∀ i,i<=ts.length->vm P (bN (ts.take i))=acc P (vm P (ts.take i))
 | 0,_=>by simp [bN,vm,acc]
 | i+1,hi=>by
  obtain ⟨q,eq⟩:∃ q,ts[i]? = some q:=⟨_,getElem?_eq_getElem (by omega)⟩
  rw [dm eq,gstep_vm hP (gath_ok h i (by omega)) (h q (mem_of_getElem? eq)),gath_vm hP h i (by omega)]
  have e:vm P (ts.take (i+1))=vm P (ts.take i)++[(q.1,val P q.2)]:=by
   unfold vm; rw [take_add_one,eq,map_append]; rfl
  rw [e,acc_snoc]
theorem gp (ts:List ak):∀ i,(bN (ts.take i)).length<=i
 | 0=>by simp [bN]
 | i+1=>by
  cases e:ts[i]? with
  | none=>
   have h1:ts.take (i+1)=ts.take i:=by rw [take_add_one,e]; simp
   rw [h1]
   have:=gp ts i
   omega
  | some q=>
   rw [dm e]
   have h1:=gp ts i
   have h2:=aput_len (bN (ts.take i)) q.1 (match bo (bN (ts.take i)) q.1 with | some y=>fpl y q.2 | none=>q.2)
   unfold iC
   omega
theorem val_sz {P:Int} {x:Int × Int} {z:Nat} (hP:nq P) (h:0<x.2) (hz:14<=z) (s:Sz z x):Sz z (val P x):=by
 have hB:=hP.b
 unfold val
 split
 ·exact lH (by omega) s.1 s.2
 ·exact mI hB.1 ‹_› hB.2.1 hz
def aU (a b:List Int):List Int:=List.zipWith (· + ·) a b
def mG (a:ak) (ps:List ak):List ak:=ps.map λb=>(aU a.1 b.1,(a.2.1*b.2.1,a.2.2*b.2.2))
def gL (ps qs:List ak):List ak:=ps.flatMap λa=>mG a qs
def jF (P:Int) (a:ak) (ps:List ak):List ak:=ps.map λb=>(aU a.1 b.1,fC P a.2 b.2)
def bd (P:Int) (ps qs:List ak):List ak:=ps.flatMap λa=>jF P a qs
theorem vm_trms (P:Int) (ps qs:List ak):vm P (gL ps qs)=bd P ps qs:=by
 unfold vm gL bd
 rw [List.map_flatMap]
 congr 1
 funext a
 unfold mG jF
 rw [map_map]
 rfl
theorem trms_len (ps qs:List ak):(gL ps qs).length=ps.length*qs.length:=by
 unfold gL mG
 induction ps with
 | nil=>simp
 | cons a r ih=>
  rw [flatMap_cons,length_append,ih,length_map,length_cons,Nat.add_mul]
  omega
def spLTimes:Sp:=λvs H Q _=>∃ (l l2:Addr) (P:Int) (ts us:List V) (ps qs:List ak),vs=[.int P,.ref l,.ref l2]/\nq P/\H l=some (.lst ts)/\nj P H ts ps/\H l2=some (.lst us)/\nj P H us qs/\ps.length*qs.length<=60/\(∀ p ∈ ps,OkN P p.2/\Sz 2900 p.2/\p.1.length<=10)/\(∀ p ∈ qs,OkN P p.2/\Sz 2900 p.2)/\iz P (bd P ps qs)/\
 ∀ (d:Addr) (rs:List V) (out:List ak) (H':Hp),H d=none->mY H H'->H' d=some (.lst rs)->nj P H' rs out->nO P (bd P ps qs) out->Q (.ref d) H'
theorem hU (P:Int) (ps qs:List ak):(bd P ps qs).length=ps.length*qs.length:=by
 unfold bd jF
 induction ps with
 | nil=>simp
 | cons a r ih=>
  rw [flatMap_cons,length_append,ih,length_map,length_cons,Nat.add_mul]
  omega
theorem prods_snoc (P:Int) (ps:List ak) (a:ak) (qs:List ak):bd P (ps++[a]) qs=bd P ps qs++jF P a qs:=by
 unfold bd
 rw [List.flatMap_append]
 simp
theorem oB:mZ ["_law_prime_here", "_law_one", "_law_other", "_law_parts", "_law_product_here", "_law_number_here", "_law_there", "_law_second"] ["_law_prime_here", "_law_one", "_law_other"] (al bW):=.i
set_option maxHeartbeats 1000000 in
theorem ok_ltimesS {f:Addr} {fd:FuncData} (F:Fun K "_law_sum_times" "_law_sum_times" bW f fd) (T:Blt mg) (qB:FnB P w K mg base 2 "_law_times" (spLOp fC)) (qf:FnB P w K mg base 4 "_law_sum" mv):nk P w K mg base CX0 5 f fd ["_law_prime_here", "_law_one", "_law_other"] spLTimes:=by
 refine F.o oB λ_ _ _ _ H _ Q _ hr h=>?_
 ·obtain ⟨l,l2,P,ts,us,ps,qs,rfl,hP,hl,pr,hl2,pr2,hn,okp,okq,sok,q⟩:=h
  refine ⟨_,(ag (aq (i:=3) oB.nd rfl (Or.inl rfl) (aQ af))
(ag (bp PassesOwn.never rfl (aM K rfl (pv 1)) (bB K (i:=4) (j:=5) rfl rfl oB.nd rfl rfl rfl rfl)
(aj (bp PassesOwn.never rfl (aM K rfl (pv 2)) (bB K (i:=6) (j:=7) rfl rfl oB.nd rfl rfl rfl rfl)
(aj (cE (bmA K rfl (pv 3) (aa (aL (aa (cF K T (by exact aX (N:=["_law_a", "_law_b"]) (src:=[none,none]) rfl rfl rfl (by exact (lP K true true rfl rfl T.zip (aa (pv 4) (aa (pv 6) af)))) (λ_ _ _=>by exact ⟨by exact (bB K (i:=0) (j:=1) rfl rfl nd_4 rfl rfl rfl rfl),bj,by exact (ao aG (pv 0) (pv 1))⟩))) (aa (au qB hr.m (aa (pv 0) (aa (pv 5) (aa (pv 7) af)))) af))) af)))))))
(aj (ar (au qf hr.m (aa (pv 0) (aa (pv 3) af))))))),?_⟩
  refine ⟨Nat.zero_le _,λd nd=>?_⟩
  have s1:=mY.new (o:=.lst []) nd
  have hd1:(upd H d (.lst [])) d=some (.lst []):=ac
  generalize upd H d (.lst [])=H1 at *
  have lt:ts.length=ps.length:=Paired.length pr
  have lu:us.length=qs.length:=Paired.length pr2
  refine ⟨_,rfl,l,rfl,⟨_,SqL.of (s1 _ _ hl)⟩,bX (xs:=ts) (λi σ H'=>∃ (ws:List V) (x4 x5 x6 x7:Option V),σ=[some (.int P),some (.ref l),some (.ref l2),some (.ref d),x4,x5,x6,x7]/\mY H H'/\H' d=some (.lst ws)/\nj P H' ws (bd P (ps.take i) qs)) ?_ ?_ ?_ ?_⟩
  ·exact ⟨[],none,none,none,none,rfl,s1,hd1,by rw [take_zero]; exact .nil⟩
  ·rintro i σ H' _ ⟨ws,x4,x5,x6,x7,rfl,sm,_⟩
   exact SqL.of (sm _ _ hl)
  ·rintro i v σ H2 hx ⟨ws,x4,x5,x6,x7,rfl,sm,hd2,pw⟩ N0 B0 hN0
   obtain ⟨a,ea,ta,ka,ua,rfl,h1,h2,h3⟩:=pr.at_ hx
   have ma:a ∈ ps:=mem_of_getElem? ea
   refine ⟨ta,_,rfl,SqT.of (sm _ _ h1),rfl,_,_,rfl,_,_,rfl,rfl,?_⟩
   refine ⟨_,rfl,l2,rfl,⟨_,SqL.of (sm _ _ hl2)⟩,bX (xs:=us) (λj σ H'=>∃ (ws:List V) (x6 x7:Option V),σ=[some (.int P),some (.ref l),some (.ref l2),some (.ref d),some (.ref ka),some ua,x6,x7]/\mY H H'/\H' d=some (.lst ws)/\nj P H' ws (bd P (ps.take i) qs++jF P a (qs.take j))) ?_ ?_ ?_ ?_⟩
   ·exact ⟨ws,_,_,rfl,sm,hd2,by rw [take_zero,show jF P a []=[] from rfl,append_nil]; exact pw⟩
   ·rintro j σ H' _ ⟨ws,x6,x7,rfl,sm,_⟩
    exact SqL.of (sm _ _ hl2)
   ·rintro j v σ H3 hy ⟨ws3,y6,y7,rfl,sm3,hd3,pw3⟩ N1 B1 hN1
    obtain ⟨b,eb,tb,kb,ub,rfl,g1,g2,g3⟩:=pr2.at_ hy
    have mb:b ∈ qs:=mem_of_getElem? eb
    refine ⟨tb,_,rfl,SqT.of (sm3 _ _ g1),rfl,_,_,rfl,_,_,rfl,rfl,?_⟩
    refine ⟨_,rfl,.inl ⟨rfl,_,SqL.of hd3⟩,?_⟩
    have lk:(a.1.map V.int).length<=sizeLine:=by rw [length_map,sizeLine_eq]; have:=(okp a ma).2.2; omega
    refine ⟨_,rfl,_,rfl,ka,kb,rfl,⟨_,iP (SqT.of (sm3 _ _ h2))⟩,⟨_,iP (SqT.of (sm3 _ _ g2))⟩,comp_zip (v2 λi j=>.int (i+j)) rfl (iP (SqT.of (sm3 _ _ h2))) (iP (SqT.of (sm3 _ _ g2))) lk (λi x y H4 R hx hy s4 hR=>?_) (λacc H4 hacc s4 hl4=>?_)⟩
    ·obtain ⟨z,_,rfl⟩:=cD hx
     obtain ⟨z',_,rfl⟩:=cD hy
     exact ⟨_,rfl,_,rfl,_,_,rfl,rfl,hR⟩
    ·rw [zip_v2,zw_map V.int] at hl4
     refine ⟨acc,_,rfl,SqL.of hl4,λt5 n5=>?_⟩
     have s5:=mY.new (o:=.tup ((List.zipWith (· + ·) a.1 b.1).map V.int)) n5
     have h5:(upd H4 t5 (.tup ((List.zipWith (· + ·) a.1 b.1).map V.int))) t5=some (.tup ((List.zipWith (· + ·) a.1 b.1).map V.int)):=ac
     generalize upd H4 t5 (.tup ((List.zipWith (· + ·) a.1 b.1).map V.int))=H5 at *
     have s35:=s4.trans s5
     have sm5:=sm3.trans s35
     refine ⟨_,rfl,_,rfl,_,rfl,P,ua,ub,a.2,b.2,rfl,hP,h3.same sm5,g3.same sm5,(okp a ma).1,(okq b mb).1,(okp a ma).2.1,(okq b mb).2,λu6 H6 s6 a6=>?_⟩
     refine ⟨(by show 2<=sizeLine; decide),λt7 n7=>?_⟩
     have s7:=mY.new (o:=.tup [.ref t5,u6]) n7
     have h7:(upd H6 t7 (.tup [.ref t5,u6])) t7=some (.tup [.ref t5,u6]):=ac
     generalize upd H6 t7 (.tup [.ref t5,u6])=H7 at *
     have s37:=(s35.trans s6).trans s7
     have hd7:=s37 _ _ hd3
     have lw:ws3.length<=60:=by
      have e:=Paired.length pw3
      have e1:=hU P (ps.take i) qs
      have e2:(jF P a (qs.take j)).length=(qs.take j).length:=length_map _
      rw [length_append,e1,e2,length_take,length_take] at e
      have il:i<ps.length:=(List.getElem?_eq_some_iff.mp ea).1
      have jl:j<qs.length:=(List.getElem?_eq_some_iff.mp eb).1
      rw [Nat.min_eq_left (Nat.le_of_lt il),Nat.min_eq_left (Nat.le_of_lt jl)] at e
      have e3:(i+1)*qs.length<=ps.length*qs.length:=Nat.mul_le_mul_right _ il
      rw [Nat.add_mul] at e3
      omega
     refine ⟨d,_,_,rfl,rfl,hd7,by rw [sizeLine_eq]; omega,?_⟩
     have kc:m5 [d] H7 (upd H7 d (.lst (ws3++[.ref t7]))):=m5.put hd7 (by simp)
     refine hN1 _ _ ⟨ws3++[.ref t7],_,_,rfl,λc o e=>?_,ac,?_⟩
     ·rw [am (ah e nd)]
      exact s37 _ _ (sm3 _ _ e)
     ·have e8:jF P a (qs.take (j+1))=jF P a (qs.take j)++[(aU a.1 b.1,fC P a.2 b.2)]:=by
       unfold jF
       rw [take_add_one,eb,map_append]
       rfl
      rw [e8,<- append_assoc]
      exact nj.snoc ⟨t7,t5,u6,rfl,kc.1 _ _ h7,kc.1 _ _ (s7 _ _ (s6 _ _ h5)),(a6.same s7).mono kc.1⟩ ((pw3.mono λt xs e=>s37 _ _ e).mono kc.1)
   ·rintro σ H3 ⟨ws3,y6,y7,rfl,sm3,hd3,pw3⟩
    refine hN0 _ _ ⟨ws3,_,_,_,_,rfl,sm3,hd3,?_⟩
    rw [lu,take_length] at pw3
    rw [take_add_one,ea]
    rw [show ps.take i++(some a).toList=ps.take i++[a] from rfl,prods_snoc]
    exact pw3
  ·rintro σ H2 ⟨ws,x4,x5,x6,x7,rfl,sm,hd2,pw⟩
   rw [lt,take_length] at pw
   refine ⟨_,rfl,_,rfl,d,P,ws,_,rfl,hP,hd2,pw,by rw [hU]; exact hn,sok,λdd rs out H3 n3 s3 hd3 po is=>?_⟩
   exact q dd rs out H3 (sm.free n3) (sm.trans s3) hd3 po is
theorem zadd_len {a b:List Int} (h:a.length=b.length):(aU a b).length=b.length:=by
 unfold aU
 rw [List.length_zipWith,h,Nat.min_self]
theorem jp {b:List Int}:∀ {a a':List Int},a.length=b.length->a'.length=b.length->aU a b=aU a' b->a=a':=by
 induction b with
 | nil=>
  intro a a' h1 h2 _
  rw [List.length_eq_zero_iff.mp h1,List.length_eq_zero_iff.mp h2]
 | cons z b ih=>
  intro a a' h1 h2 e
  cases a with
  | nil=>simp at h1
  | cons x a=>
   cases a' with
   | nil=>simp at h2
   | cons y a'=>
    have e':(x+z)::aU a b=(y+z)::aU a' b:=e
    injection e' with e1 e2
    rw [ih (by simpa using h1) (by simpa using h2) e2,show x=y by omega]
theorem fo:∀ {a b:List Int},a.length=b.length->(aU a b).sum=a.sum+b.sum
 | [],[],_=>rfl
 | [],_::_,h=>by simp at h
 | _::_,[],h=>by simp at h
 | x::a,y::b,h=>by
  show ((x+y)::aU a b).sum=_
  rw [sum_cons,sum_cons,sum_cons,fo (by simpa using h)]
  omega
theorem zadd_nn:∀ {a b:List Int},(∀ e ∈ a,0<=e)->(∀ e ∈ b,0<=e)->∀ e ∈ aU a b,0<=e
 | [],_,_,_,e,he=>by simp [aU] at he
 | _::_,[],_,_,e,he=>by simp [aU] at he
 | x::a,y::b,ha,hb,e,he=>by
  rcases List.mem_cons.mp (show e ∈ (x+y)::aU a b from he) with z | z
  ·have:=ha x (by simp)
   have:=hb y (by simp)
   omega
  ·exact zadd_nn (λe he=>ha e (by simp [he])) (λe he=>hb e (by simp [he])) e z
structure mC (P L:Int) (b:List Int) (n:Int × Int):Prop where
 len:(b.length:Int)=L
 nn:∀ e ∈ b,0<=e
 ok:OkN P n
 sz:Sz 14 n
 nz:n ≠ (0,1)
theorem kL (P:Int) (e:List ak) (b:ak):bd P e [b]=e.map λq=>(aU q.1 b.1,fC P q.2 b.2):=by
 unfold bd jF
 induction e with
 | nil=>rfl
 | cons q r ih=>rw [flatMap_cons,ih]; rfl
theorem eI {P L:Int} (hP:nq P) {S:Nat} (hS:14<=S) {e:List ak} {b:List Int} {n:Int × Int} (c:ow P L S e) (hb:mC P L b n):((bd P e [(b,n)]).map (·.1)).Nodup/\∀ q ∈ bd P e [(b,n)],OkN P q.2/\Sz (S+15) q.2/\_root_.K.nz q=true/\(q.1.length:Int)=L/\(∀ x ∈ q.1,0<=x)/\∃ r ∈ e,q.1.sum=r.1.sum+b.sum:=by
 have hB:=hP.b
 have ln:∀ q ∈ e,q.1.length=b.length:=λq hq=>by have:=(c.2 q hq).2.2.2.1; have:=hb.len; omega
 rw [kL]
 refine ⟨?_,λq hq=>?_⟩
 ·rw [map_map]
  have nd:=c.nodup
  rw [List.Nodup,pairwise_map] at nd ⊢
  refine nd.imp_of_mem λ{x y} hx hy hxy z=>hxy (jp (ln x hx) (ln y hy) z)
 ·obtain ⟨r,hr,rfl⟩:=List.mem_map.mp hq
  obtain ⟨o,sz,nzr,len,nn⟩:=c.2 r hr
  refine ⟨okN_mul hB.1 o hb.ok,(lZ hB.1 hB.2.1 o hb.ok sz hb.sz hS).2.2.mono (by omega),?_,?_,zadd_nn nn hb.nn,r,hr,fo (ln r hr)⟩
  ·have:r.2 ≠ (0,1):=of_decide_eq_true nzr
   exact decide_eq_true (mul_nz hP o hb.ok this hb.nz)
  ·show ((aU r.1 b).length:Int)=L
   rw [zadd_len (ln r hr)]
   exact hb.len
theorem sumOk_times {P L:Int} (hP:nq P) {S:Nat} (hS:14<=S) (hS2:S+15<=2900) {e:List ak} {b:List Int} {n:Int × Int} (c:ow P L S e) (hb:mC P L b n):iz P (bd P e [(b,n)]):=by
 obtain ⟨nd,ok⟩:=eI hP hS c hb
 exact iD nd λq hq=>⟨(ok q hq).1,(ok q hq).2.1.mono hS2⟩
theorem canon_times {P L:Int} (hP:nq P) {S:Nat} (hS:14<=S) {e out:List ak} {b:List Int} {n:Int × Int} (c:ow P L S e) (hb:mC P L b n) (is:nO P (bd P e [(b,n)]) out):ow P L (S+15) out/\out.length=e.length/\∀ q ∈ out,∃ r ∈ e,q.1.sum=r.1.sum+b.sum:=by
 obtain ⟨nd,ok⟩:=eI hP hS c hb
 have e1:acc P (bd P e [(b,n)])=bd P e [(b,n)]:=ft nd λq hq=>(ok q hq).1
 have e2:(bd P e [(b,n)]).filter _root_.K.nz=bd P e [(b,n)]:=List.filter_eq_self.mpr λq hq=>(ok q hq).2.2.1
 have pm:=is.1
 rw [e1,e2] at pm
 have mem:∀ q ∈ out,q ∈ bd P e [(b,n)]:=λq hq=>pm.mem_iff.mp hq
 refine ⟨⟨is.2,λq hq=>?_⟩,?_,λq hq=>(ok q (mem q hq)).2.2.2.2.2⟩
 ·have z:=ok q (mem q hq)
  exact ⟨z.1,z.2.1,z.2.2.1,z.2.2.2.1,z.2.2.2.2.1⟩
 ·rw [pm.length_eq,hU]
  simp
theorem ent_times {P L h c:Int} (hP:nq P) {S:Nat} (hS:14<=S) {e out:List ak} {b:List Int} {n:Int × Int} (k:nV P L S h c e) (hb:mC P L b n) (b1:b.sum=1) (h3:∀ q ∈ e,q.1.sum<=3) (is:nO P (bd P e [(b,n)]) out):nV P L (S+15) (h+1) c out/\out.length=e.length:=by
 obtain ⟨cn,ln,sm⟩:=canon_times hP hS k.1 hb is
 refine ⟨⟨cn,by rw [ln]; exact k.2.1,λq hq=>?_⟩,ln⟩
 obtain ⟨r,hr,e1⟩:=sm q hq
 have z:=k.2.2 r hr
 have z3:=h3 r hr
 omega
theorem nd_5:(["_law_letter"]:List Str).Nodup:=by decide +kernel
theorem nd_6:(["_law_place", "_law_unit_here", "_law_at"]:List Str).Nodup:=by decide +kernel
theorem nd_7:(["_law_part", "_law_place", "_law_at"]:List Str).Nodup:=by decide +kernel
theorem nd_8:(["_law_entry"]:List Str).Nodup:=by decide +kernel
theorem nd_9:(["_law_entry", "_law_prime_here", "_law_by"]:List Str).Nodup:=by decide +kernel
def lE:Sp:=λvs H Q _=>∃ (p c rw:Addr) (P L a b:Int) (k S:Nat) (cs:List Int) (ws:List V) (rows:List (List (List ak))),vs=[.int P,.int L,.ref c,.ref rw,.ref p]/\nq P/\1<=L/\L<=4/\H c=some (.lst (cs.map V.int))/\c ≠ p/\1<=cs.length/\cs.length<=3/\H rw=some (.lst ws)/\rw ≠ p/\Paired (oF [p] P H) ws rows/\rows ≠ []/\rows.length<=5/\14<=S/\S<=1000/\(∀ row ∈ rows,oz P L S cs row)/\H p=some (.lst [.int a,.int b])/\nE a b k/\k<=50000/\
 ∀ (r:Addr) (es:List V) (row:List (List ak)) (a' b':Int) (H':Hp),H r=none->H' r=some (.lst es)->Paired (nB H r P H') es row->oz P L (S+15) cs row->H' p=some (.lst [.int a',.int b'])->nE a' b' (k+50)->(∀ c o,H c=some o->c ≠ p->H' c=some o)->Q (.ref r) H'
theorem one_ok {P L:Int} (hP:nq P) {b:List Int} (h:(b.length:Int)=L) (nn:∀ e ∈ b,0<=e):mC P L b (1,1):=by
 have hB:=hP.b
 refine ⟨h,nn,?_,⟨Nat.one_lt_two_pow (by decide),Nat.one_lt_two_pow (by decide)⟩,by decide⟩
 by_cases h0:P=0
 ·exact .inl ⟨h0,(by show (0:Int)<1; decide),(by show Int.gcd 1 1=1; decide)⟩
 ·exact .inr ⟨h0,(by show (0:Int)<=1; decide),(by show 1<P; omega),rfl⟩
theorem ent_unit {P L h c:Int} (hP:nq P) {b:List Int} (hl:(b.length:Int)=L) (nn:∀ e ∈ b,0<=e) (hs:b.sum+c=h) (h4:b.sum<=4) {S:Nat} (hS:14<=S):nV P L S h c [(b,(1,1))]:=by
 have z:=one_ok hP hl nn
 refine ⟨⟨pairwise_singleton _ _,λq hq=>?_⟩,by show 1<=3; decide,λq hq=>?_⟩
 ·rw [List.mem_singleton.mp hq]
  exact ⟨z.ok,z.sz.mono hS,(by show decide (((1:Int),(1:Int)) ≠ (0,1))=true; decide),hl,nn⟩
 ·rw [List.mem_singleton.mp hq]
  exact ⟨hs,h4⟩
theorem ent_nil {P L h c:Int} {S:Nat}:nV P L S h c []:=⟨⟨.nil,λq hq=>by cases hq⟩,by show 0<=3; decide,λq hq=>by cases hq⟩
theorem nB.from {H0 H0':Hp} {r:Addr} {P:Int} {H:Hp} {v:V} {e:List ak} (b:∀ l,H0' l=none->H0 l=none) (h:nB H0' r P H v e):nB H0 r P H v e:=by
 obtain ⟨l,ts,rfl,l0,lr,hl,pr⟩:=h
 exact ⟨l,ts,rfl,b l l0,lr,hl,pr⟩
def cT (n i:Nat) (e:List ak):List (List ak):=(List.range n).map λj=>if j=i then e else []
theorem mB (n i:Nat) (e:List ak):cT (n+1) i e=cT n i e++[if n=i then e else []]:=by
 unfold cT
 rw [range_succ,map_append]
 rfl
theorem unitRow_ok {P L:Int} {S:Nat} {h:Int} {e:List ak} {i:Nat} {ci:Int}:∀ {cs:List Int},cs[i]? = some ci->nV P L S h ci e->Paired (nV P L S h) cs (cT cs.length i e):=by
 intro cs hi he
 have go:∀ (cs:List Int) (k:Nat),(∀ j c,cs[j]? = some c->k+j=i->c=ci)->Paired (nV P L S h) cs ((List.range cs.length).map λj=>if k+j=i then e else []):=by
  intro cs
  induction cs with
  | nil=>intro k _; exact .nil
  | cons c r ih=>
   intro k hc
   rw [length_cons,List.range_succ_eq_map,map_cons,map_map]
   refine .cons ?_ ?_
   ·by_cases z:k+0=i
    ·rw [if_pos z,hc 0 c rfl z]
     exact he
    ·rw [if_neg z]
     exact ent_nil
   ·have z:=ih (k+1) λj c' hj hk=>hc (j+1) c' hj (by omega)
    have e1:((λj=>if k+j=i then e else []) ∘ Nat.succ)=λj=>if k+1+j=i then e else []:=by
     funext j
     show (if k+(j+1)=i then e else [])=_
     rw [show k+(j+1)=k+1+j by omega]
    rw [e1]
    exact z
 have z:=go cs 0 λj c hj hk=>by
  rw [Nat.zero_add] at hk
  subst hk
  rw [hi] at hj
  exact (Option.some.inj hj).symm
 unfold cT
 simpa using z
theorem nN:mZ ["_law_prime_here", "_law_letters", "_law_columns_here", "_law_rows", "_law_bag_here", "_law_row", "_law_way", "_law_at", "_law_unit_here", "_law_by"] ["_law_prime_here", "_law_letters", "_law_columns_here", "_law_rows", "_law_bag_here"] (al bT):=.i
set_option maxHeartbeats 4000000 in
theorem ok_again {f:Addr} {fd:FuncData} (F:Fun K "_law_again_row" "_law_again_row" bT f fd) (T:Blt mg) (pO:FnB P w K mg base 1 "_law_take" bQ) (p5:FnB P w K mg base 4 "_law_number" fB) (pW:FnB P w K mg base 2 "_law_product" l6) (rf:FnB P w K mg base 5 "_law_sum_times" spLTimes) (pY:FnB P w K mg base 1 "_law_nought" gz) (qo:FnB P w K mg base 1 "_law_unit" spUnit) :
  nk P w K mg base CX0 6 f fd ["_law_prime_here", "_law_letters", "_law_columns_here", "_law_rows", "_law_bag_here"] lE:=by
 refine F.o nN λ_ _ _ _ H _ Q _ hr h=>?_
 ·obtain ⟨p,c,rw,P,L,a,b,k,S,cs,ws,rows,rfl,hP,L1,L4,hc,cp,c1,c3,hrw,rwp,prs,rne,r5,hS,hS2,okr,hp,hb,hk,q⟩:=h
  have hB:=hP.b
  have lw:ws.length=rows.length:=Paired.length prs
  have lpos:1<=rows.length:=by
   cases rows with
   | nil=>exact absurd rfl rne
   | cons x r=>rw [length_cons]; omega
  refine ⟨_,(ag (aq (i:=5) nN.nd rfl (Or.inl rfl) (aA (aE K rfl) (pv 3) (au pO hr.m (aa (pv 4) (aa (ce K T (pv 3)) af))) (λ_ _=>rfl)))
(ag (aq (i:=6) nN.nd rfl (Or.inl rfl) (au pO hr.m (aa (pv 4) (aa ae af))))
(ag (aJ (aw br (pv 6) ae (az _))
(ag (aq (i:=7) nN.nd rfl (Or.inr rfl) (au pO hr.m (aa (pv 4) (aa (ce K T (pv 2)) af))))
(ag (aq (i:=8) nN.nd rfl (Or.inr rfl) (aQ (aa (aL (aa (cF K T (by exact aX (N:=["_law_letter"]) (src:=[none]) rfl rfl rfl (by exact (bu rfl T.range (aa (pv 1) af))) (λ_ _ _=>by exact ⟨by exact (bM (i:=0) nd_5 rfl rfl),bj,by exact ae⟩))) (aa (au qo hr.m (aa (pv 0) af)) af))) af)))
(aj (ar (by exact pe_compC (N:=["_law_place", "_law_unit_here", "_law_at"]) (src:=[none,some 8,some 7]) rfl rfl rfl (by exact (bu rfl T.range (aa (ce K T (pv 2)) af))) (λ_ _ _=>by exact ⟨by exact (aD (i:=0) nd_6 rfl (Or.inr rfl)),bj,by exact (by exact aX (N:=["_law_part", "_law_place", "_law_at"]) (src:=[none,some 0,some 2]) rfl rfl rfl (by exact (aM K rfl (pv 1))) (λ_ _ _=>by exact ⟨by exact (bM (i:=0) nd_7 rfl rfl),(cV (aw br (pv 1) (pv 2) (az _))),by exact (pv 0)⟩))⟩))))))
aB)
(ag (aJ (PW.pt (gB (aw br (pv 6) ae (az _)) (gd (aw eh (kpl_max1 T (by exact aX (N:=["_law_entry"]) (src:=[none]) rfl rfl rfl (by exact (aM K rfl (pv 5))) (λ_ _ _=>by exact ⟨by exact (bM (i:=0) nd_8 rfl rfl),(cV (aw (jY K rfl hr.units) (pv 0) (aQ af) (az _))),by exact (i5 K T (aA (ay K rfl) (aA (aE K rfl) (pv 0) ae (λ_ _=>rfl)) ae (λ_ _=>rfl)) true)⟩)) false) ae (az _)))))
(aj (ar (by exact aX (N:=["_law_entry"]) (src:=[none]) rfl rfl rfl (by exact (aM K rfl (pv 5))) (λ_ _ _=>by exact ⟨by exact (bM (i:=0) nd_8 rfl rfl),bj,by exact (jK K T (pv 0))⟩))))
aB)
(ag (aq (i:=9) nN.nd rfl (Or.inr rfl) (aQ (aa (aL (aa (au pW hr.m (aa (pv 1) (aa ae (aa (pv 4) af)))) (aa (au p5 hr.m (aa (pv 0) (aa (pv 4) (aa fH af)))) af))) af)))
(ag (aJ (aw (keqD K rfl hr.units) (aA (ay K rfl) (aA (aE K rfl) (pv 9) ae (λ_ _=>rfl)) ae (λ_ _=>rfl)) (au pY hr.m (aa (pv 0) af)) (az _))
(aj (aq (i:=9) nN.nd rfl (Or.inr rfl) (aQ (aa (aL (aa (aA (ay K rfl) (aA (aE K rfl) (pv 9) ae (λ_ _=>rfl)) ae (λ_ _=>rfl)) (aa (au qo hr.m (aa (pv 0) af)) af))) af))))
aB)
(aj (ar (by exact aX (N:=["_law_entry", "_law_prime_here", "_law_by"]) (src:=[none,some 0,some 9]) rfl rfl rfl (by exact (aM K rfl (pv 5))) (λ_ _ _=>by exact ⟨by exact (bM (i:=0) nd_9 rfl rfl),bj,by exact (au rf hr.m (aa (pv 1) (aa (pv 0) (aa (pv 2) af))))⟩)))))))))),?_⟩
  refine ⟨_,rfl,_,rfl,_,rfl,rw,ws,rfl,.inl (SqL.of hrw),p,a,b,_,k,rfl,hp,hb,by omega,by omega,aC (by omega) (by omega),λr1 a1 b1 r10 r11 hb1=>?_⟩
  have k1:∀ c o,H c=some o->c ≠ p->upd H p (.lst [.int a1,.int b1]) c=some o:=λc o e hc=>by rw [am hc]; exact e
  have hp1:(upd H p (.lst [.int a1,.int b1])) p=some (.lst [.int a1,.int b1]):=ac
  generalize upd H p (.lst [.int a1,.int b1])=H1 at *
  obtain ⟨i,rfl⟩:=Int.eq_ofNat_of_zero_le r10
  have hi:i<ws.length:=by omega
  obtain ⟨v,ev⟩:∃ v,ws[i]? = some v:=⟨_,getElem?_eq_getElem hi⟩
  obtain ⟨row,er,r,es,rfl,rp,hr1,pe⟩:=aO prs ev
  obtain ⟨ht,okh,e0,me0,ne0⟩:=okr row (mem_of_getElem? er)
  have rp:r ≠ p:=by simpa using rp
  have lrow:row.length=cs.length:=(Paired.length okh).symm
  have les:es.length=row.length:=Paired.length pe
  refine ⟨rw,ws,_,_,rfl,rfl,SqL.of (k1 _ _ hrw rwp),cC ev,?_⟩
  refine ⟨_,rfl,p,a1,b1,4,k+1,rfl,hp1,hb1,by omega,by decide,aC (by decide) (by decide),λwy a2 b2 wy0 wy1 hb2=>?_⟩
  have k2:∀ c o,H c=some o->c ≠ p->upd H1 p (.lst [.int a2,.int b2]) c=some o:=λc o e hc=>by rw [am hc]; exact k1 c o e hc
  have hp2:(upd H1 p (.lst [.int a2,.int b2])) p=some (.lst [.int a2,.int b2]):=ac
  generalize upd H1 p (.lst [.int a2,.int b2])=H2 at *
  have ka2:m5 [p] H H2:=m5.bag hp k2 (by simp)
  have hr2:=k2 _ _ hr1 rp
  have pe2:Paired (oE [p] P H2) es row:=ap (λ_ _=>oE.keep ka2) pe
  refine ⟨_,rfl,rfl,_,rfl,bf (λh=>?_) (λh=>?_)⟩
  ·refine ⟨_,rfl,_,rfl,c,_,rfl,.inl (SqL.of (k2 _ _ hc cp)),p,a2,b2,_,k+2,rfl,hp2,hb2,by omega,by rw [length_map]; omega,by rw [length_map]; exact aC (by omega) (by omega),λat3 a3 b3 r30 r31 hb3=>?_⟩
   have k3:∀ c o,H c=some o->c ≠ p->upd H2 p (.lst [.int a3,.int b3]) c=some o:=λc o e hc=>by rw [am hc]; exact k2 c o e hc
   have hp3:(upd H2 p (.lst [.int a3,.int b3])) p=some (.lst [.int a3,.int b3]):=ac
   generalize upd H2 p (.lst [.int a3,.int b3])=H3 at *
   obtain ⟨ai,rfl⟩:=Int.eq_ofNat_of_zero_le r30
   rw [length_map] at r31
   obtain ⟨ci,eci⟩:∃ ci,cs[ai]? = some ci:=⟨_,getElem?_eq_getElem (by omega)⟩
   refine ⟨_,rfl,L,rfl,by omega,by omega,be (n:=L.toNat) (σ0:=[none]) rfl (λacc i ws σ H'=>∃ u:Option V,σ=[u]/\mY H3 H'/\ws=(List.replicate i (0:Int)).map V.int) (by rw [sizeLine_eq]; omega) (λacc hacc=>⟨none,rfl,mY.new hacc,rfl⟩) ?_ ?_ ?_ ?_⟩
   ·rintro acc i ws σ H' hacc hi hz _
    exact hi
   ·rintro acc ws σ H' hacc hz _
    exact Nat.le_refl _
   ·rintro acc j ws σ H' x H'' hacc hj hz hzl ⟨u,rfl,sm,rfl⟩ ⟨rfl,rfl⟩
    refine ⟨_,hz,(by rw [sizeLine_eq]; omega),_,ac,by rw [length_append,length_singleton]; omega,_,rfl,sm.put hacc,?_⟩
    rw [List.replicate_succ',map_append]
    rfl
   rintro acc ws σ H4 hacc hz hzl ⟨u,rfl,s4,rfl⟩
   refine ⟨acc,_,rfl,SqL.of hz,λc5 n5=>?_⟩
   have s5:=mY.new (o:=.tup ((List.replicate L.toNat (0:Int)).map V.int)) n5
   have h5:(upd H4 c5 (.tup ((List.replicate L.toNat (0:Int)).map V.int))) c5=some (.tup ((List.replicate L.toNat (0:Int)).map V.int)):=ac
   generalize upd H4 c5 (.tup ((List.replicate L.toNat (0:Int)).map V.int))=H5 at *
   refine ⟨_,rfl,P,rfl,hP,λu6 H6 s6 a6=>⟨(by show 2<=sizeLine; decide),λt7 n7=>⟨(by show 1<=sizeLine; decide),λl8 n8=>?_⟩⟩⟩
   have s7:=mY.new (o:=.tup [.ref c5,u6]) n7
   have h7:(upd H6 t7 (.tup [.ref c5,u6])) t7=some (.tup [.ref c5,u6]):=ac
   generalize upd H6 t7 (.tup [.ref c5,u6])=H7 at *
   have s8:=mY.new (o:=.lst [.ref t7]) n8
   have h8:(upd H7 l8 (.lst [.ref t7])) l8=some (.lst [.ref t7]):=ac
   generalize upd H7 l8 (.lst [.ref t7])=H8 at *
   have s38:=(((s4.trans s5).trans s6).trans s7).trans s8
   have k8:∀ c o,H c=some o->c ≠ p->H8 c=some o:=λc o e hc=>s38 _ _ (k3 c o e hc)
   have hp8:=s38 _ _ hp3
   have zl:((List.replicate L.toNat (0:Int)).length:Int)=L:=by rw [length_replicate]; omega
   have zn:∀ e ∈ List.replicate L.toNat (0:Int),0<=e:=λe he=>by rw [List.eq_of_mem_replicate he]; decide
   have zs:(List.replicate L.toNat (0:Int)).sum=0:=by simp
   have pu:PartR P H8 (.ref t7) (List.replicate L.toNat 0,(1,1)):=⟨t7,c5,u6,rfl,s8 _ _ h7,s8 _ _ (s7 _ _ (s6 _ _ h5)),(a6.same s7).same s8⟩
   refine ⟨_,rfl,c,_,rfl,.inl (SqL.of (k8 _ _ hc cp)),_,rfl,by omega,by rw [length_map]; omega,be (n:=cs.length) (σ0:=[none,some (.ref l8),some (.int (ai:Int))]) rfl (λacc j ws σ H'=>∃ u:Option V,σ=[u,some (.ref l8),some (.int (ai:Int))]/\mY H8 H'/\Paired (nB H acc P H') ws (cT j ai [(List.replicate L.toNat 0,(1,1))])) (by rw [sizeLine_eq]; omega) (λacc hacc=>⟨none,rfl,mY.new hacc,.nil⟩) ?_ ?_ ?_ ?_⟩
   ·rintro acc i ws σ H' hacc hi hz _
    rw [length_map]
    exact hi
   ·rintro acc ws σ H' hacc hz _
    show _<=_
    rw [length_map]
    omega
   ·rintro acc j ws σ H9 x H' hacc hj hz hzl ⟨u,rfl,s9,pw⟩ ⟨rfl,rfl⟩
    refine ⟨_,rfl,l8,rfl,⟨_,SqL.of (s9 _ _ h8)⟩,be (n:=1) (σ0:=[none,some (.int (0+(j:Int))),some (.int (ai:Int))]) rfl (λacc2 i ws2 σ H2'=>∃ u:Option V,σ=[u,some (.int (0+(j:Int))),some (.int (ai:Int))]/\mY H' H2'/\ws2=if i=1/\j=ai then [.ref t7] else []) (by show 1<=sizeLine; decide) (λacc2 hacc2=>⟨none,rfl,mY.new hacc2,by simp⟩) ?_ ?_ ?_ ?_⟩
    ·rintro acc2 i ws2 σ H2' hacc2 hi hz2 ⟨u,rfl,s10,_⟩
     have:i=0:=by omega
     subst this
     exact ⟨_,.ref t7,SqL.of (s10 _ _ (s9 _ _ h8)),rfl⟩
    ·rintro acc2 ws2 σ H2' hacc2 hz2 ⟨u,rfl,s10,_⟩
     exact ⟨_,SqL.of (s10 _ _ (s9 _ _ h8)),Nat.le_refl _⟩
    ·rintro acc2 i ws2 σ H10 x2 H10' hacc2 hi hz2 hzl2 ⟨u,rfl,s10,rfl⟩ ⟨rfl,gx⟩
     have:i=0:=by omega
     subst this
     have hx:=gx _ (SqL.of (s10 _ _ (s9 _ _ h8)))
     cases hx
     refine ⟨_,rfl,_,rfl,rfl,_,rfl,bf (λh=>?_) (λh=>?_)⟩
     ·have hj:j=ai:=by have:=of_decide_eq_true h; injection this with this; omega
      refine ⟨_,rfl,_,hz2,(by rw [if_neg (by simp)]; show 0<sizeLine; decide),_,ac,by rw [if_neg (by simp)]; show 1<=1; decide,_,rfl,s10.put hacc2,?_⟩
      rw [if_neg (by simp),if_pos ⟨rfl,hj⟩]
      rfl
     ·have hj:¬ j=ai:=λz=>h (decide_eq_true (by rw [z]; congr 1; omega))
      refine ⟨_,hz2,by rw [if_neg (by simp)]; show 0<=1; decide,_,rfl,s10,?_⟩
      rw [if_neg (by simp),if_neg (λz=>hj z.2)]
    ·rintro acc2 ws2 σ H10 hacc2 hz2 hzl2 ⟨u,rfl,s10,e2⟩
     have la:acc2 ≠ acc:=λz=>by rw [z,hz] at hacc2; cases hacc2
     have hz3:=s10 _ _ hz
     have ka:m5 [acc] H' (upd H10 acc (.lst (ws++[.ref acc2]))):=(m5.of s10).trans (m5.put hz3 (by simp))
     have kb:m5 [acc] H10 (upd H10 acc (.lst (ws++[.ref acc2]))):=m5.put hz3 (by simp)
     have lws:ws.length=j:=by rw [Paired.length pw]; unfold cT; rw [length_map,length_range]
     refine ⟨ws,hz3,by rw [lws,sizeLine_eq]; omega,_,ac,by rw [length_append,length_singleton]; omega,_,rfl,(s9.trans s10).put hacc,?_⟩
     rw [mB]
     refine aH ?_ (ap (λ_ _=>nB.keepA (av:=[acc]) (λa ha=>.inl (by simpa using ha)) ka) pw)
     refine ⟨acc2,ws2,rfl,bb (λc o e hc=>s9 _ _ (k8 c o e hc)) (s9 _ _ hp8) hacc2,la,by rw [am la]; exact hz2,?_⟩
     rw [e2]
     by_cases hj:j=ai
     ·rw [if_pos ⟨rfl,hj⟩,if_pos hj]
      exact .cons ((pu.mono λt xs e=>s10 _ _ (s9 _ _ e)).mono kb.1) .nil
     ·rw [if_neg (λz=>hj z.2),if_neg hj]
      exact .nil
   ·rintro acc ws σ H9 hacc hz hzl ⟨u,rfl,s9,pw⟩
    refine q acc ws _ a3 b3 H9 (bb k8 hp8 hacc) hz pw ⟨ci,unitRow_ok eci (ent_unit hP zl zn (by rw [zs]; omega) (by rw [zs]; decide) (by omega)),[(List.replicate L.toNat 0,(1,1))],?_,by simp⟩ (s9 _ _ hp8) (hb3.mono (by omega)) λc o e hc=>s9 _ _ (k8 c o e hc)
    unfold cT
    refine List.mem_map.mpr ⟨ai,List.mem_range.mpr (by omega),if_pos rfl⟩
  have er2:Paired (ou P H2) es row:=ap (λ_ _=>oE.ent) pe2
  have okS:oz P L (S+15) cs row:=oz.mono ⟨ht,okh,e0,me0,ne0⟩ (by omega)
  refine ⟨_,rfl,rfl,_,rfl,bf (λh1=>bH ?_) (λh1=>?_)⟩
  ·refine ⟨_,rfl,r,rfl,⟨_,SqL.of hr2⟩,mU rfl hr2 er2 (by omega) λacc es' H3 hacc s3 h3 pw=>?_⟩
   exact q acc es' row a2 b2 H3 (bb k2 hp2 hacc) h3 (ap (λ_ _=>nB.from λl z=>bb k2 hp2 z) pw) okS (s3 _ _ hp2) (hb2.mono (by omega)) λc o e hc=>s3 _ _ (k2 c o e hc)
  refine ⟨_,rfl,r,rfl,⟨_,SqL.of hr2⟩,be (n:=es.length) (σ0:=[none]) rfl (λacc i ws σ H'=>∃ (u:Option V) (ds:List Int),σ=[u]/\mY H2 H'/\ws=ds.map V.int/\ds.length<=i/\∀ j<i,∀ q t,row[j]? = some (q::t)->q.1.sum ∈ ds) (by rw [sizeLine_eq]; omega) (λacc hacc=>⟨none,[],rfl,mY.new hacc,rfl,Nat.le_refl _,λj hj=>absurd hj (by omega)⟩) ?_ ?_ ?_ ?_⟩
  ·rintro acc i ws σ H' hacc hi hz ⟨u,ds,rfl,sm,_⟩
   exact ⟨es,es[i],SqL.of (sm _ _ hr2),by simp [hi]⟩
  ·rintro acc ws σ H' hacc hz ⟨u,ds,rfl,sm,_⟩
   exact ⟨es,SqL.of (sm _ _ hr2),Nat.le_refl _⟩
  ·rintro acc i ws σ H3 x H' hacc hi hz hzl ⟨u,ds,rfl,sm,rfl,ld,hd⟩ ⟨rfl,gx⟩
   have hx:=gx es (SqL.of (sm _ _ hr2))
   obtain ⟨e,ee,l,ts,rfl,hl,pe'⟩:=aO er2 hx
   refine ⟨_,rfl,Nat.zero_le _,λl4 n4=>?_⟩
   have s4:=mY.new (o:=.lst []) n4
   have h4:(upd H' l4 (.lst [])) l4=some (.lst []):=ac
   generalize upd H' l4 (.lst [])=H4 at *
   have sm4:=sm.trans s4
   refine ⟨dS P e,dS P [],gn (sm4 _ _ hl) (pe'.mono λt xs e=>sm4 _ _ e),gn h4 .nil,bA _ _,bA _ _,_,rfl,?_⟩
   rw [iZ]
   cases e with
   | nil=>
    refine bx ⟨_,s4 _ _ hz,by rw [length_map]; omega,_,ds,rfl,sm4,rfl,by omega,λj hj q t hjt=>?_⟩
    by_cases h:j<i
    ·exact hd j h q t hjt
    ·have:j=i:=by omega
     subst this
     rw [ee] at hjt
     cases hjt
   | cons q0 t0=>
    cases pe' with
    | cons pq pt=>
     obtain ⟨tq,kq,uq,rfl,g1,g2,g3⟩:=pq
     refine bH ⟨_,rfl,l,_,_,_,rfl,rfl,SqL.of (sm4 _ _ hl),i8 _ _,tq,_,_,_,rfl,rfl,SqT.of (sm4 _ _ g1),rfl,kq,_,rfl,iP (SqT.of (sm4 _ _ g2)),?_⟩
     refine ⟨_,s4 _ _ hz,by rw [length_map,sizeLine_eq]; omega,_,ac,by rw [length_append,length_map,length_singleton]; omega,_,ds++[q0.1.sum],rfl,sm4.put hacc,by rw [map_append]; rfl,by rw [length_append,length_singleton]; omega,λj hj q t hjt=>?_⟩
     by_cases h:j<i
     ·exact mem_append_left _ (hd j h q t hjt)
     ·have:j=i:=by omega
      subst this
      rw [ee] at hjt
      cases hjt
      simp
  rintro acc ws σ H3 hacc hz hzl ⟨u,ds,rfl,s3,rfl,ld,hd⟩
  have dmem:∀ e ∈ row,∀ q t,e=q::t->q.1.sum ∈ ds:=λe he q t z=>by
   obtain ⟨j,hj,rfl⟩:=getElem_of_mem he
   exact hd j (by omega) q t (by rw [getElem?_eq_getElem hj,z])
  have dne:ds ≠ []:=by
   cases e0 with
   | nil=>exact absurd rfl ne0
   | cons q0 t0=>
    intro z
    have:=dmem _ me0 q0 t0 rfl
    rw [z] at this
    cases this
  have hp3:=s3 _ _ hp2
  have hr3:=s3 _ _ hr2
  have er3:Paired (ou P H3) es row:=ap (λ_ _=>ou.same s3) er2
  have k3:∀ c o,H c=some o->c ≠ p->H3 c=some o:=λc o e hc=>s3 _ _ (k2 c o e hc)
  refine ⟨acc,ds,rfl,sqvL (SqL.of hz),dne,λm hm hmx=>⟨_,_,rfl,rfl,_,rfl,bf (λh2=>?_) (λh2=>?_)⟩⟩
  ·refine ⟨_,rfl,r,rfl,⟨_,SqL.of hr3⟩,mU rfl hr3 er3 (by omega) λacc es' H4 hacc s4 h4 pw=>?_⟩
   exact q acc es' row a2 b2 H4 (bb k3 hp3 hacc) h4 (ap (λ_ _=>nB.from λl z=>bb k3 hp3 z) pw) okS (s4 _ _ hp3) (hb2.mono (by omega)) λc o e hc=>s4 _ _ (k3 c o e hc)
  have m3:m<=3:=by
   have:¬ 3<m:=λz=>h2 (decide_eq_true z)
   omega
  refine ⟨_,rfl,_,rfl,p,L,1,a2,b2,k+2,rfl,L1,L4,by decide,by decide,hp3,hb2,by omega,λt bs a4 b4 H4 le4 nn4 sm4 ht4 hp4 hb4 kp4=>?_⟩
  refine ⟨_,rfl,_,rfl,p,P,a4,b4,_,rfl,hP,hp4,hb4,by omega,λv x a5 b5 H5 av ox sx hp5 hb5 kp5=>?_⟩
  refine ⟨(by show 2<=sizeLine; decide),λt6 n6=>⟨(by show 1<=sizeLine; decide),λl7 n7=>?_⟩⟩
  have k45:=m5.bag (av:=[p]) hp4 kp5 (by simp)
  have s6:=mY.new (o:=.tup [.ref t,v]) n6
  have h6:(upd H5 t6 (.tup [.ref t,v])) t6=some (.tup [.ref t,v]):=ac
  generalize upd H5 t6 (.tup [.ref t,v])=H6 at *
  have s7:=mY.new (o:=.lst [.ref t6]) n7
  have h7:(upd H6 l7 (.lst [.ref t6])) l7=some (.lst [.ref t6]):=ac
  generalize upd H6 l7 (.lst [.ref t6])=H7 at *
  have s57:=s6.trans s7
  have p7:PartR P H7 (.ref t6) (bs,x):=⟨t6,t,v,rfl,s7 _ _ h6,s57 _ _ (k45.1 _ _ ht4),av.same s57⟩
  have k7:∀ c o,H c=some o->c ≠ p->H7 c=some o:=λc o e hc=>s57 _ _ (kp5 c o (kp4 c o (k3 c o e hc) hc) hc)
  have hp7:=s57 _ _ hp5
  have hr7:H7 r=some (.lst es):=s57 _ _ (kp5 _ _ (kp4 _ _ hr3 rp) rp)
  have ka7:m5 [p] H H7:=m5.bag hp k7 (by simp)
  have pe7:Paired (ou P H7) es row:=ap (λ_ _ z=>(oE.keep ka7 z).ent) pe
  dsimp only
  refine gm (t:=hV _ _ _) (λσ' H'=>∃ (l8:Addr) (t8:Addr) (n8:Int × Int),σ'=[some (.int P),some (.int L),some (.ref c),some (.ref rw),some (.ref p),some (.ref r),some (.int wy),none,none,some (.ref l8)]/\mY H7 H'/\H' l8=some (.lst [.ref t8])/\PartR P H' (.ref t8) (bs,n8)/\mC P L bs n8) (λR hR=>?_) ?_
  ·refine ⟨_,rfl,l7,_,_,_,rfl,rfl,SqL.of h7,i8 _ _,t6,_,_,_,rfl,rfl,SqT.of (s7 _ _ h6),rfl,_,rfl,P,rfl,hP,λr8 H8 s8 a8=>?_⟩
   refine ⟨dN P x,dN P (0,1),fF ((av.same s57).same s8),fF a8,bC _ _,bC _ _,_,rfl,?_⟩
   rw [mK ox (dA hB.1 hB.2.2)]
   refine bf (λh3=>?_) (λh3=>?_)
   ·refine ⟨_,rfl,l7,_,_,_,rfl,rfl,SqL.of (s8 _ _ h7),i8 _ _,t6,_,_,_,rfl,rfl,SqT.of (s8 _ _ (s7 _ _ h6)),rfl,_,rfl,P,rfl,hP,λu9 H9 s9 a9=>⟨(by show 2<=sizeLine; decide),λt10 n10=>⟨(by show 1<=sizeLine; decide),λl11 n11=>?_⟩⟩⟩
    have s10:=mY.new (o:=.tup [.ref t,u9]) n10
    have h10:(upd H9 t10 (.tup [.ref t,u9])) t10=some (.tup [.ref t,u9]):=ac
    generalize upd H9 t10 (.tup [.ref t,u9])=H10 at *
    have s11:=mY.new (o:=.lst [.ref t10]) n11
    refine hR _ _ ⟨l11,t10,(1,1),rfl,((s8.trans s9).trans s10).trans s11,ac,⟨t10,t,u9,rfl,s11 _ _ h10,s11 _ _ (s10 _ _ (s9 _ _ (s8 _ _ (s57 _ _ (k45.1 _ _ ht4))))),(a9.same s10).same s11⟩,one_ok hP le4 nn4⟩
   ·exact hR _ _ ⟨l7,t6,x,rfl,s8,s8 _ _ h7,p7.mono λt xs e=>s8 _ _ e,⟨le4,nn4,ox,l3 hP ox sx,λz=>h3 (decide_eq_true z)⟩⟩
  rintro σ' H8 ⟨l8,t8,n8,rfl,s8,h8,p8,by8⟩
  have hr8:=s8 _ _ hr7
  have hp8:=s8 _ _ hp7
  have pe8:Paired (ou P H8) es row:=ap (λ_ _=>ou.same s8) pe7
  have k8:∀ c o,H c=some o->c ≠ p->H8 c=some o:=λc o e hc=>s8 _ _ (k7 c o e hc)
  refine ⟨_,rfl,r,rfl,⟨_,SqL.of hr8⟩,be (n:=es.length) (σ0:=[none,some (.int P),some (.ref l8)]) rfl (λacc i ws σ H'=>∃ (u:Option V) (row':List (List ak)),σ=[u,some (.int P),some (.ref l8)]/\mY H8 H'/\Paired (nB H acc P H') ws row'/\Paired (nV P L (S+15) (ht+1)) (cs.take i) row'/\∀ (j:Nat) (e e':List ak),row[j]? = some e->row'[j]? = some e'->e'.length=e.length) (by rw [sizeLine_eq]; omega) (λacc hacc=>⟨none,[],rfl,mY.new hacc,.nil,by rw [take_zero]; exact .nil,λj e e' _ z=>by cases z⟩) ?_ ?_ ?_ ?_⟩
  ·rintro acc i ws σ H' hacc hi hz ⟨u,row',rfl,sm,_⟩
   exact ⟨es,es[i],SqL.of (sm _ _ hr8),by simp [hi]⟩
  ·rintro acc ws σ H' hacc hz ⟨u,row',rfl,sm,_⟩
   exact ⟨es,SqL.of (sm _ _ hr8),Nat.le_refl _⟩
  ·rintro acc i ws σ H9 x9 H' hacc hi hz hzl ⟨u,row',rfl,sm,pw,okw,hlen⟩ ⟨rfl,gx⟩
   have hx:=gx es (SqL.of (sm _ _ hr8))
   obtain ⟨e,ee,l,ts,rfl,hl,pe'⟩:=aO pe8 hx
   have ic:i<cs.length:=by omega
   obtain ⟨ci,eci⟩:∃ ci,cs[i]? = some ci:=⟨_,getElem?_eq_getElem ic⟩
   have oke:nV P L S ht ci e:=dh okh eci ee
   have h3e:∀ q ∈ e,q.1.sum<=3:=λq hq=>by
    cases e with
    | nil=>cases hq
    | cons q0 t0=>
     have z0:=hmx _ (dmem _ (mem_of_getElem? ee) q0 t0 rfl)
     have z1:=(oke.2.2 q hq).1
     have z2:=(oke.2.2 q0 (by simp)).1
     omega
   have lrow':row'.length=i:=by rw [<- Paired.length okw,length_take]; omega
   have lws:ws.length=i:=by rw [Paired.length pw,lrow']
   refine ⟨_,rfl,_,rfl,_,rfl,l,l8,P,ts,[.ref t8],e,[(bs,n8)],rfl,hP,sm _ _ hl,pe'.mono (λt xs e=>sm _ _ e),sm _ _ h8,.cons (p8.mono λt xs e=>sm _ _ e) .nil,(by have:=oke.2.1; show e.length*1<=60; omega),λq hq=>⟨(oke.1.2 q hq).1,(oke.1.2 q hq).2.1.mono (by omega),by have:=(oke.1.2 q hq).2.2.2.1; omega⟩,λq hq=>by rw [List.mem_singleton.mp hq]; exact ⟨by8.ok,by8.sz.mono (by decide)⟩,sumOk_times hP hS (by omega) oke.1 by8,λd rs out H10 nd s10 hd10 po is=>?_⟩
   obtain ⟨okt,lnt⟩:=ent_times hP hS oke by8 sm4 h3e is
   have hz10:=s10 _ _ hz
   have da:d ≠ acc:=λz=>by rw [z,hz] at nd; cases nd
   have ka:m5 [acc] H' (upd H10 acc (.lst (ws++[.ref d]))):=(m5.of s10).trans (m5.put hz10 (by simp))
   have kb:m5 [acc] H10 (upd H10 acc (.lst (ws++[.ref d]))):=m5.put hz10 (by simp)
   refine ⟨ws,hz10,by rw [lws,sizeLine_eq]; omega,_,ac,by rw [length_append,length_singleton]; omega,_,row' ++ [out],rfl,(sm.trans s10).put hacc,aH ?_ (ap (λ_ _=>nB.keepA (av:=[acc]) (λa ha=>.inl (by simpa using ha)) ka) pw),?_,λj e1 e2 z1 z2=>?_⟩
   ·exact ⟨d,rs,rfl,bb (λc o e hc=>sm _ _ (k8 c o e hc)) (sm _ _ hp8) nd,da,by rw [am da]; exact hd10,po.mono kb.1⟩
   ·rw [take_add_one,eci]
    exact aH okt okw
   ·by_cases hj:j<row'.length
    ·rw [getElem?_append_left hj] at z2
     exact hlen j e1 e2 z1 z2
    ·rw [getElem?_append_right (by omega)] at z2
     have hj0:j-row'.length=0:=by
      have:=(List.getElem?_eq_some_iff.mp z2).1
      simp at this
      omega
     rw [hj0] at z2
     have:j=i:=by omega
     subst this
     rw [ee] at z1
     cases z1
     cases z2
     exact lnt
  ·rintro acc ws σ H9 hacc hz hzl ⟨u,row',rfl,sm,pw,okw,hlen⟩
   rw [les,lrow,take_length] at okw
   refine q acc ws row' a5 b5 H9 (bb k8 hp8 hacc) hz pw ⟨ht+1,okw,?_⟩ (sm _ _ hp8) (hb5.mono (by omega)) λc o e hc=>sm _ _ (k8 c o e hc)
   obtain ⟨j,hj,rfl⟩:=getElem_of_mem me0
   have lr':row'.length=row.length:=by rw [<- Paired.length okw,lrow]
   have hj':j<row'.length:=by omega
   refine ⟨row'[j],getElem_mem hj',λz=>ne0 ?_⟩
   have e1:=hlen j _ _ (getElem?_eq_getElem hj) (getElem?_eq_getElem hj')
   rw [z] at e1
   exact List.length_eq_zero_iff.mp e1.symm
theorem nd_10:(["_law_place", "_law_row"]:List Str).Nodup:=by decide +kernel
theorem nd_11:(["_law_place", "_law_entry", "_law_at"]:List Str).Nodup:=by decide +kernel
theorem cut_hi (xs:List V) (n:Nat) (h:n<=xs.length):cutV xs none (some (n:Int))=xs.take n:=by
 unfold cutV
 rw [HT.sIx_nat,HT.sIx_none,Nat.min_eq_left h]
 simp
theorem iB {α β:Type} {R:α->β->Prop}:∀ {xs:List α} {ys:List β} (n:Nat),Paired R xs ys->Paired R (xs.take n) (ys.take n)
 | _,_,0,_=>by rw [take_zero,take_zero]; exact .nil
 | _,_,n+1,.nil=>.nil
 | _,_,n+1,.cons q r=>.cons q (iB n r)
theorem pg_pairC {X:Cx} (F:Frag) {i j:Nat} {x y:Str} {p1 p2 pos:Pos} {k:Nat} (hK:X.K=F) (hc:X.calm=true) (hN:X.N.Nodup) (hi:X.N[i]? = some x) (hj:X.N[j]? = some y) (hx:Loc X.env.scope x) (fx:X.fn x=true\/X.env.scope.names.lookup x=some .local) (hy:Loc X.env.scope y) (fy:X.fn y=true\/X.env.scope.names.lookup y=some .local) :
  PG X (.Tuple [.Name x p1,.Name y p2] k pos) (gTup F 2 (je (cB i) (je (cB j) gNil))):=by
 subst hK
 exact f8 hc (aI (aD hN hi hx fx) (aI (aD hN hj hy fy) dW))
def kM:Sp:=λvs H Q _=>∃ (r:Addr) (P L:Int) (S:Nat) (cs:List Int) (es:List V) (row:List (List ak)),vs=[.ref r]/\H r=some (.lst es)/\Paired (ou P H) es row/\oz P L S cs row/\cs.length<=3/\
 ∀ (r':Addr) (es':List V) (row':List (List ak)) (H':Hp),H r'=none->mY H H'->H' r'=some (.lst es')->Paired (nB H r' P H') es' row'->oz P L S cs row'->Q (.ref r') H'
def cM (row:List (List ak)) (n i:Nat):List (List ak):=(List.range n).map λj=>if j=i then (row.getD j []).take 1 else []
theorem lK (row:List (List ak)) (n i:Nat):cM row (n+1) i=cM row n i++[if n=i then (row.getD n []).take 1 else []]:=by
 unfold cM
 rw [range_succ,map_append]
 rfl
theorem ent_take {P L:Int} {S:Nat} {h c:Int} {e:List ak} (k:nV P L S h c e):nV P L S h c (e.take 1):=
 ⟨⟨k.1.1.sublist (take_sublist _ _),λp hp=>k.1.2 p (mem_of_mem_take hp)⟩,by have:=k.2.1; rw [length_take]; omega,λq hq=>k.2.2 q (mem_of_mem_take hq)⟩
theorem partRow_ok {P L:Int} {S:Nat} {h:Int} {i:Nat}:∀ {cs:List Int} {row:List (List ak)},Paired (nV P L S h) cs row->Paired (nV P L S h) cs (cM row row.length i):=by
 intro cs row pr
 have go:∀ (cs:List Int) (row:List (List ak)) (k:Nat),Paired (nV P L S h) cs row->Paired (nV P L S h) cs ((List.range row.length).map λj=>if k+j=i then (row.getD j []).take 1 else []):=by
  intro cs
  induction cs with
  | nil=>intro row k pr; cases pr; exact .nil
  | cons c r ih=>
   intro row k pr
   cases pr with
   | cons he hr=>
    rename_i e rr
    rw [length_cons,List.range_succ_eq_map,map_cons,map_map]
    refine .cons ?_ ?_
    ·show nV P L S h c (if k+0=i then e.take 1 else [])
     split
     ·exact ent_take he
     ·exact ent_nil
    ·have z:=ih rr (k+1) hr
     have e1:((λj=>if k+j=i then ((e::rr).getD j []).take 1 else []) ∘ Nat.succ)=λj=>if k+1+j=i then (rr.getD j []).take 1 else []:=by
      funext j
      show (if k+(j+1)=i then ((e::rr).getD (j+1) []).take 1 else [])=_
      rw [show k+(j+1)=k+1+j by omega]
      rfl
     rw [e1]
     exact z
 have z:=go cs row 0 pr
 unfold cM
 simpa using z
theorem cut_to1 (ts:List V):cutV ts none (some 1)=ts.take 1:=by
 cases ts with
 | nil=>rfl
 | cons a r=>exact cut_hi (a::r) 1 (by simp)
theorem o7:mZ ["_law_row", "_law_at"] ["_law_row"] (al cw):=.i
set_option maxHeartbeats 1000000 in
theorem ok_onepart {f:Addr} {fd:FuncData} (F:Fun K "_law_one_part" "_law_one_part" cw f fd) (T:Blt mg):nk P w K mg base CX0 1 f fd ["_law_row"] kM:=by
 refine F.o o7 λ_ _ _ _ H _ Q _ hr h=>?_
 ·obtain ⟨r,P,L,S,cs,es,row,rfl,hr',pr,⟨ht,okh,e0,me0,ne0⟩,c3,q⟩:=h
  have lrow:row.length=cs.length:=(Paired.length okh).symm
  have les:es.length=row.length:=Paired.length pr
  refine ⟨_,(ag (aq (i:=1) o7.nd rfl (Or.inr rfl) (kpl_max1 T (by exact aX (N:=["_law_place", "_law_row"]) (src:=[none,some 0]) rfl rfl rfl (by exact (bu rfl T.range (aa (ce K T (pv 0)) af))) (λ_ _ _=>by exact ⟨by exact (bM (i:=0) nd_10 rfl rfl),(cV (aw (jY K rfl hr.units) (aA (aE K rfl) (pv 1) (pv 0) (λ_ _=>rfl)) (aQ af) (az _))),by exact (pv 0)⟩)) false))
(aj (ar (by exact pe_compC (N:=["_law_place", "_law_entry", "_law_at"]) (src:=[none,none,some 1]) rfl rfl rfl (by exact (jm K rfl rfl T.enum (aa (pv 0) af))) (λ_ _ _=>by exact ⟨by exact (pg_pairC K (i:=0) (j:=1) rfl rfl nd_11 rfl rfl (Or.inr rfl) (Or.inl rfl) (Or.inl rfl) (Or.inr rfl)),bj,by exact (by exact aX (N:=["_law_part", "_law_place", "_law_at"]) (src:=[none,some 0,some 2]) rfl rfl rfl (by exact (aM K rfl (pe_slice (ksl_list K rfl) (pv 1) po_none (po_some ae)))) (λ_ _ _=>by exact ⟨by exact (bM (i:=0) nd_7 rfl rfl),(cV (aw br (pv 1) (pv 2) (az _))),by exact (pv 0)⟩))⟩))))),?_⟩
  refine ⟨_,rfl,r,_,rfl,.inl (SqL.of hr'),_,rfl,by omega,by omega,be (n:=es.length) (σ0:=[none,some (.ref r)]) rfl (λacc i ws σ H'=>∃ (u:Option V) (ds:List Int),σ=[u,some (.ref r)]/\mY H H'/\ws=ds.map V.int/\ds.length<=i/\(∀ x ∈ ds,∃ (j:Nat) (e:List ak),x=(j:Int)/\row[j]? = some e/\e ≠ [])/\∀ j<i,∀ q t,row[j]? = some (q::t)->(j:Int) ∈ ds) (by rw [sizeLine_eq]; omega) (λacc hacc=>⟨none,[],rfl,mY.new hacc,rfl,Nat.le_refl _,λx hx=>absurd hx (by simp),λj hj=>absurd hj (by omega)⟩) ?_ ?_ ?_ ?_⟩
  ·rintro acc i ws σ H' hacc hi hz _
   exact hi
  ·rintro acc ws σ H' hacc hz _
   exact Nat.le_refl _
  ·rintro acc i ws σ H3 x H' hacc hi hz hzl ⟨u,ds,rfl,sm,rfl,ld,hds,hd⟩ ⟨rfl,rfl⟩
   have hx:es[i]? = some es[i]:=getElem?_eq_getElem hi
   obtain ⟨e,ee,l,ts,el,hl,pe'⟩:=aO pr hx
   have hx':es[i]? = some (.ref l):=by rw [hx,el]
   refine ⟨_,rfl,_,rfl,r,es,_,_,rfl,rfl,SqL.of (sm _ _ hr'),(by rw [Int.zero_add]; exact cC hx'),Nat.zero_le _,λl4 n4=>?_⟩
   have s4:=mY.new (o:=.lst []) n4
   have h4:(upd H' l4 (.lst [])) l4=some (.lst []):=ac
   generalize upd H' l4 (.lst [])=H4 at *
   have sm4:=sm.trans s4
   refine ⟨dS P e,dS P [],gn (sm4 _ _ hl) (pe'.mono λt xs e=>sm4 _ _ e),gn h4 .nil,bA _ _,bA _ _,_,rfl,?_⟩
   rw [iZ]
   cases e with
   | nil=>
    refine bx ⟨_,s4 _ _ hz,by rw [length_map]; omega,_,ds,rfl,sm4,rfl,by omega,hds,λj hj q t hjt=>?_⟩
    by_cases h:j<i
    ·exact hd j h q t hjt
    ·have:j=i:=by omega
     subst this
     rw [ee] at hjt
     cases hjt
   | cons q0 t0=>
    refine bH ⟨_,rfl,_,s4 _ _ hz,by rw [length_map,sizeLine_eq]; omega,_,ac,by rw [length_append,length_map,length_singleton]; omega,_,ds++[(i:Int)],rfl,sm4.put hacc,by rw [map_append,Int.zero_add]; rfl,by rw [length_append,length_singleton]; omega,λx hx=>?_,λj hj q t hjt=>?_⟩
    ·rcases List.mem_append.mp hx with z | z
     ·exact hds x z
     ·exact ⟨i,q0::t0,List.mem_singleton.mp z,ee,by simp⟩
    ·by_cases h:j<i
     ·exact mem_append_left _ (hd j h q t hjt)
     ·have:j=i:=by omega
      subst this
      simp
  rintro acc ws σ H3 hacc hz hzl ⟨u,ds,rfl,s3,rfl,ld,hds,hd⟩
  have dne:ds ≠ []:=by
   obtain ⟨j,hj,rfl⟩:=getElem_of_mem me0
   cases e:row[j] with
   | nil=>exact absurd e ne0
   | cons q0 t0=>
    intro z
    have:=hd j (by omega) q0 t0 (by rw [getElem?_eq_getElem hj,e])
    rw [z] at this
    cases this
  refine ⟨acc,ds,rfl,sqvL (SqL.of hz),dne,λm hm hmx=>?_⟩
  obtain ⟨ai,ea,rfl,eea,nea⟩:=hds m hm
  have hr3:=s3 _ _ hr'
  refine ⟨_,rfl,r,rfl,⟨_,SqL.of hr3⟩,be (n:=es.length) (σ0:=[none,none,some (.int (ai:Int))]) rfl (λacc j ws σ H'=>∃ u v:Option V,σ=[u,v,some (.int (ai:Int))]/\mY H3 H'/\Paired (nB H acc P H') ws (cM row j ai)) (by rw [sizeLine_eq]; omega) (λacc hacc=>⟨none,none,rfl,mY.new hacc,.nil⟩) ?_ ?_ ?_ ?_⟩
  ·rintro acc j ws σ H' hacc hj hz ⟨u,v,rfl,sm,_⟩
   exact ⟨es,es[j],SqL.of (sm _ _ hr3),by simp [hj]⟩
  ·rintro acc ws σ H' hacc hz ⟨u,v,rfl,sm,_⟩
   exact ⟨es,SqL.of (sm _ _ hr3),Nat.le_refl _⟩
  ·rintro acc j ws σ H9 x H' hacc hj hz hzl ⟨u,v,rfl,s9,pw⟩ ⟨pp,x1,rfl,npp,rfl,gx⟩
   have hx:=gx es (SqL.of (s9 _ _ hr3))
   obtain ⟨e,ee,l,ts,rfl,hl,pe'⟩:=aO pr hx
   have s10:=mY.new (o:=.tup [.int (j:Int),.ref l]) npp
   have h10:(upd H9 pp (.tup [.int (j:Int),.ref l])) pp=some (.tup [.int (j:Int),.ref l]):=ac
   generalize upd H9 pp (.tup [.int (j:Int),.ref l])=H10 at *
   have sA:=(s3.trans s9).trans s10
   refine ⟨pp,_,rfl,SqT.of h10,rfl,_,_,rfl,_,_,rfl,rfl,?_⟩
   refine ⟨_,rfl,_,rfl,l,ts,rfl,SqL.of (sA _ _ hl),λl11 n11=>?_⟩
   have hcut:cutV ts none (some 1)=ts.take 1:=cut_to1 ts
   rw [hcut]
   have s11:=mY.new (o:=.lst (ts.take 1)) n11
   have h11:(upd H10 l11 (.lst (ts.take 1))) l11=some (.lst (ts.take 1)):=ac
   generalize upd H10 l11 (.lst (ts.take 1))=H11 at *
   have pt:nj P H11 (ts.take 1) (e.take 1):=iB 1 (pe'.mono λt xs e=>s11 _ _ (sA _ _ e))
   have l1:(ts.take 1).length<=1:=by rw [length_take]; omega
   refine ⟨l11,rfl,⟨_,SqL.of h11⟩,be (n:=(ts.take 1).length) (σ0:=[none,some (.int (j:Int)),some (.int (ai:Int))]) rfl (λacc2 i ws2 σ H2'=>∃ u:Option V,σ=[u,some (.int (j:Int)),some (.int (ai:Int))]/\mY H11 H2'/\ws2=if j=ai then (ts.take 1).take i else []) (by rw [sizeLine_eq]; omega) (λacc2 hacc2=>⟨none,rfl,mY.new hacc2,by simp⟩) ?_ ?_ ?_ ?_⟩
   ·rintro acc2 i ws2 σ H2' hacc2 hi hz2 ⟨u,rfl,s12,_⟩
    exact ⟨_,(ts.take 1)[i],SqL.of (s12 _ _ h11),getElem?_eq_getElem hi⟩
   ·rintro acc2 ws2 σ H2' hacc2 hz2 ⟨u,rfl,s12,_⟩
    exact ⟨_,SqL.of (s12 _ _ h11),Nat.le_refl _⟩
   ·rintro acc2 i ws2 σ H12 x2 H12' hacc2 hi hz2 hzl2 ⟨u,rfl,s12,rfl⟩ ⟨rfl,gx2⟩
    have hx2:=gx2 _ (SqL.of (s12 _ _ h11))
    refine ⟨_,rfl,_,rfl,rfl,_,rfl,bf (λh=>?_) (λh=>?_)⟩
    ·have hj:j=ai:=by have:=of_decide_eq_true h; injection this with this; omega
     rw [if_pos hj] at hz2 hzl2 ⊢
     refine ⟨_,rfl,_,hz2,(by rw [sizeLine_eq]; omega),_,ac,by rw [length_append,length_singleton]; omega,_,rfl,s12.put hacc2,?_⟩
     rw [take_add_one (l:=ts.take 1),hx2]
     rfl
    ·have hj:¬ j=ai:=λz=>h (decide_eq_true (by rw [z]))
     rw [if_neg hj] at hz2 hzl2
     refine ⟨_,hz2,Nat.zero_le _,_,rfl,s12,?_⟩
     rw [if_neg hj]
   ·rintro acc2 ws2 σ H12 hacc2 hz2 hzl2 ⟨u,rfl,s12,e2⟩
    rw [take_length] at e2
    have hzA:=s11 _ _ (s10 _ _ hz)
    have la:acc2 ≠ acc:=λz=>by rw [z,hzA] at hacc2; cases hacc2
    have hz3:=s12 _ _ hzA
    have sB:=(s10.trans s11).trans s12
    have ka:m5 [acc] H9 (upd H12 acc (.lst (ws++[.ref acc2]))):=(m5.of sB).trans (m5.put hz3 (by simp))
    have kb:m5 [acc] H12 (upd H12 acc (.lst (ws++[.ref acc2]))):=m5.put hz3 (by simp)
    have lws:ws.length=j:=by rw [Paired.length pw]; unfold cM; rw [length_map,length_range]
    refine ⟨ws,hz3,by rw [lws,sizeLine_eq]; omega,_,ac,by rw [length_append,length_singleton]; omega,_,_,rfl,(s9.trans sB).put hacc,?_⟩
    rw [lK]
    refine aH ?_ (ap (λ_ _=>nB.keepA (av:=[acc]) (λa ha=>.inl (by simpa using ha)) ka) pw)
    refine ⟨acc2,ws2,rfl,(sA.trans s11).free hacc2,la,by rw [am la]; exact hz2,?_⟩
    rw [e2]
    by_cases hj:j=ai
    ·rw [if_pos hj,if_pos hj,getD_eq_getElem?_getD,ee]
     exact (pt.mono λt xs e=>s12 _ _ e).mono kb.1
    ·rw [if_neg hj,if_neg hj]
     exact .nil
  ·rintro acc ws σ H9 hacc hz hzl ⟨u,v,rfl,s9,pw⟩
   rw [les] at pw
   refine q acc ws _ H9 (s3.free hacc) (s3.trans s9) hz pw ⟨ht,partRow_ok okh,ea.take 1,?_,λz=>nea ?_⟩
   ·unfold cM
    have hl:ai<row.length:=(List.getElem?_eq_some_iff.mp eea).1
    refine List.mem_map.mpr ⟨ai,List.mem_range.mpr hl,?_⟩
    rw [if_pos rfl,getD_eq_getElem?_getD,eea]
    rfl
   ·cases ea with
    | nil=>rfl
    | cons x r=>simp at z
def TableOk (P L:Int) (cs:List Int) (rows:List (List (List ak))):Prop:=nq P/\1<=L/\L<=4/\1<=cs.length/\cs.length<=3/\(∀ c ∈ cs,-18<=c/\c<=21)/\1<=rows.length/\rows.length<=5/\∀ row ∈ rows,oz P L 200 cs row
def spTable (K:Frag):Sp:=λvs H Q _=>∃ (a:Addr) (ns:List Int) (k:Int),vs=[.ref a,.int k]/\SqL K H a (ns.map V.int)/\ns.length<=63/\0<=k/\k<=50/\
 ∀ (t c rw:Addr) (P L:Int) (cs:List Int) (ws:List V) (rows:List (List (List ak))) (H':Hp),mY H H'->H' t=some (.tup [.int P,.int L,.ref c,.ref rw])->H' c=some (.lst (cs.map V.int))->H' rw=some (.lst ws)->Paired (ot P H') ws rows->TableOk P L cs rows->Q (.ref t) H'
def TabI (H:Hp) (a p:Addr) (ad wy lo hi:Int) (fl:Bool) (k:Nat) (σ:L2.St) (H':Hp):Prop:=∃ (c:Addr) (P L N M Q:Int) (cs:List Int) (x y:Int),σ=[some (.ref a),some (.int ad),some (.ref p),some (.int wy),some (.int P),some (.int L),some (.int N),some (.ref c),some (.int M),some (.int Q),none,none,none]/\nq P/\(fl=true->wy=7->P=0)/\(lo<=L/\L<=hi)/\(1<=N/\N<=5)/\(0<=M/\M<=4)/\(0<=Q/\Q<=3)/\
 H' c=some (.lst (cs.map V.int))/\c ≠ p/\(1<=cs.length/\cs.length<=3)/\(∀ c ∈ cs,-18<=c/\c<=21)/\H' p=some (.lst [.int x,.int y])/\nE x y k/\(∀ c o,H c=some o->H' c=some o)/\H p=none
theorem ot.fresh {P:Int} {H H':Hp} {v:V} {row:List (List ak)} {p:Addr} (np:H p=none) (s:mY H H') (h:ot P H v row):oF [p] P H' v row:=by
 obtain ⟨r,es,rfl,hr,pr⟩:=h
 refine ⟨r,es,rfl,by simpa using ah hr np,s _ _ hr,ap (λv e z=>?_) pr⟩
 obtain ⟨l,ts,rfl,hl,pe⟩:=z
 exact ⟨l,ts,rfl,by simpa using ah hl np,s _ _ hl,pe.mono λt xs e=>s _ _ e⟩
theorem m7:mZ ["_law_script", "_law_at", "_law_bag_here", "_law_way", "_law_prime_here", "_law_letters", "_law_many", "_law_columns_here", "_law_most", "_law_parts", "_law_rows", "_law_k", "_law_row"] ["_law_script", "_law_at"] (al dB):=.i
set_option maxHeartbeats 4000000 in
theorem ok_table {f:Addr} {fd:FuncData} (F:Fun K "_law_table" "_law_table" dB f fd) (T:Blt mg) (qJ:FnB P w K mg base 2 "_law_bag" (spBag K)) (pO:FnB P w K mg base 1 "_law_take" bQ) (tz:FnB P w K mg base 2 "_law_prime" spPrime) (qe:FnB P w K mg base 2 "_law_columns" spCols) (rg:FnB P w K mg base 5 "_law_drawn_row" spDrawn) (rj:FnB P w K mg base 6 "_law_again_row" lE) (rQ:FnB P w K mg base 1 "_law_one_part" kM) :
  nk P w K mg base CX0 7 f fd ["_law_script", "_law_at"] (spTable K):=by
 refine F.o m7 λ_ _ _ _ H _ Q _ hr h=>?_
 ·obtain ⟨a,ns,ad,rfl,hS,hlen,ad0,ad50,q⟩:=h
  refine ⟨_,(ag (aq (i:=2) m7.nd rfl (Or.inl rfl) (au qJ hr.m (aa (pv 0) (aa (pv 1) af))))
(ag (aq (i:=3) m7.nd rfl (Or.inl rfl) (au pO hr.m (aa (pv 2) (aa ae af))))
(ag (aq (i:=4) m7.nd rfl (Or.inl rfl) (au tz hr.m (aa (pv 2) af)))
(ag (aq (i:=5) m7.nd rfl (Or.inl rfl) (ao aG ae (au pO hr.m (aa (pv 2) (aa ae af)))))
(ag (aq (i:=6) m7.nd rfl (Or.inl rfl) (ao aG ae (au pO hr.m (aa (pv 2) (aa ae af)))))
(ag (aq (i:=7) m7.nd rfl (Or.inl rfl) (au qe hr.m (aa (aA (aE K rfl) (aQ (aa (ao aG ae (au pO hr.m (aa (pv 2) (aa ae af)))) (aa ae af))) (ao aS (pv 5) ae) (λ_ _=>rfl)) (aa ae (aa (pv 2) af)))))
(ag (ps_par (i:=8) (j:=9) rfl m7.nd rfl rfl (by decide) rfl rfl (aa (ao aS ae (pv 5)) (aa (ao aS ae (pv 5)) af)) rfl)
(ag (aJ (aw br (pv 4) ae (az _))
(aj (ps_par (i:=6) (j:=9) rfl m7.nd rfl rfl (by decide) rfl rfl (aa (pl_min T (aa (pv 6) (aa (ao aS ae (ce K T (pv 7))) af))) (aa ae af)) rfl))
aB)
(ag (aJ (aw br (pv 3) ae (az _))
(ag (aq (i:=6) m7.nd rfl (Or.inl rfl) ae)
(aj (aq (i:=7) m7.nd rfl (Or.inl rfl) (au qe hr.m (aa (aA (aE K rfl) (aQ (aa ae (aa ae af))) (ao aS (pv 5) ae) (λ_ _=>rfl)) (aa ae (aa (pv 2) af)))))))
aB)
(ag (aJ (aw br (pv 3) ae (az _))
(ag (e7 (aL (aa ae (aa ae (aa ae af)))) (f8 rfl (by exact aI (by exact (aD (i:=5) m7.nd rfl (Or.inl rfl))) (by exact aI (by exact (aD (i:=8) m7.nd rfl (Or.inl rfl))) (by exact aI (by exact (aD (i:=9) m7.nd rfl (Or.inl rfl))) dW)))))
(aj (aq (i:=7) m7.nd rfl (Or.inl rfl) (au qe hr.m (aa (ao aG ae (au pO hr.m (aa (pv 2) (aa ae af)))) (aa ae (aa (pv 2) af)))))))
aB)
(ag (aJ (aw br (pv 3) ae (az _))
(aj (e7 (aL (aa ae (aa ae (aa ae (aa ae (aa ae af)))))) (f8 rfl (by exact aI (by exact (aD (i:=5) m7.nd rfl (Or.inl rfl))) (by exact aI (by exact (aD (i:=6) m7.nd rfl (Or.inl rfl))) (by exact aI (by exact (aD (i:=8) m7.nd rfl (Or.inl rfl))) (by exact aI (by exact (aD (i:=9) m7.nd rfl (Or.inl rfl))) (by exact aI (by exact (aD (i:=4) m7.nd rfl (Or.inl rfl))) dW))))))))
aB)
(ag (aJ (aw br (pv 3) ae (az _))
(ag (e7 (aL (aa ae (aa ae (aa ae (aa ae af))))) (f8 rfl (by exact aI (by exact (aD (i:=5) m7.nd rfl (Or.inl rfl))) (by exact aI (by exact (aD (i:=6) m7.nd rfl (Or.inl rfl))) (by exact aI (by exact (aD (i:=8) m7.nd rfl (Or.inl rfl))) (by exact aI (by exact (aD (i:=9) m7.nd rfl (Or.inl rfl))) dW))))))
(aj (aq (i:=7) m7.nd rfl (Or.inl rfl) (au qe hr.m (aa ae (aa ae (aa (pv 2) af)))))))
aB)
(ag (aq (i:=10) m7.nd rfl (Or.inl rfl) (aQ af))
(ag (bp PassesOwn.never rfl (bu rfl T.range (aa (pv 6) af)) (aD (i:=11) m7.nd rfl (Or.inl rfl))
(ag (aq (i:=2) m7.nd rfl (Or.inl rfl) (au qJ hr.m (aa (pv 0) (aa (ao aG (ao aG (pv 1) ae) (pv 11)) af))))
(ag (aq (i:=12) m7.nd rfl (Or.inl rfl) (au rg hr.m (aa (pv 4) (aa (pv 5) (aa (pv 7) (aa (pv 8) (aa (pv 9) (aa (fw br (pv 3) ae (az _)) (aa (pv 2) af)))))))))
(ag (aJ (PW.pt (pw_and (aw eh (pv 11) ae (az _)) (pw_and1 (PW.pt (gB (aw br (pv 3) ae (az _)) (gd (aw br (pv 3) ae (az _))))))))
(aj (aq (i:=12) m7.nd rfl (Or.inl rfl) (au rj hr.m (aa (pv 4) (aa (pv 5) (aa (pv 7) (aa (pv 10) (aa (pv 2) af))))))))
aB)
(ag (aJ (aw br (pv 3) ae (az _))
(aj (aq (i:=12) m7.nd rfl (Or.inl rfl) (au rQ hr.m (aa (pv 12) af))))
aB)
(aj (cE (bmA K rfl (pv 10) (aa (pv 12) af)))))))))
(aj (ar (aL (aa (pv 4) (aa (pv 5) (aa (pv 7) (aa (pv 10) af))))))))))))))))))))),?_⟩
  refine sq7 λR0 hR0=>?_
  refine ⟨_,rfl,_,rfl,a,ns,ad,rfl,hS,hlen,ad0,by omega,λp x1 y1 np hb1=>?_⟩
  have s1:=mY.new (o:=.lst [.int x1,.int y1]) np
  have hp1:(upd H p (.lst [.int x1,.int y1])) p=some (.lst [.int x1,.int y1]):=ac
  generalize upd H p (.lst [.int x1,.int y1])=H1 at *
  refine ⟨_,rfl,p,x1,y1,8,100,rfl,hp1,hb1,by decide,by decide,aC (by decide) (by decide),λwy x2 y2 wy0 wy8 hb2=>?_⟩
  have k2:∀ c o,H c=some o->upd H1 p (.lst [.int x2,.int y2]) c=some o:=λc o e=>by rw [am (ah e np)]; exact s1 _ _ e
  have hp2:(upd H1 p (.lst [.int x2,.int y2])) p=some (.lst [.int x2,.int y2]):=ac
  generalize upd H1 p (.lst [.int x2,.int y2])=H2 at *
  refine ⟨_,rfl,p,x2,y2,_,rfl,hp2,hb2,by decide,λP x3 y3 H3 hP hp3 hb3 kp3=>?_⟩
  refine ⟨_,rfl,p,x3,y3,2,_,rfl,hp3,hb3,by decide,by decide,aC (by decide) (by decide),λl4 x4 y4 l40 l41 hb4=>⟨_,_,rfl,rfl,?_⟩⟩
  have hp4:(upd H3 p (.lst [.int x4,.int y4])) p=some (.lst [.int x4,.int y4]):=ac
  have k4:∀ c o,H c=some o->upd H3 p (.lst [.int x4,.int y4]) c=some o:=λc o e=>by rw [am (ah e np)]; exact kp3 _ _ (k2 c o e) (ah e np)
  generalize upd H3 p (.lst [.int x4,.int y4])=H4 at *
  refine ⟨_,rfl,p,x4,y4,3,_,rfl,hp4,hb4,by decide,by decide,aC (by decide) (by decide),λn5 x5 y5 n50 n51 hb5=>⟨_,_,rfl,rfl,?_⟩⟩
  have hp5:(upd H4 p (.lst [.int x5,.int y5])) p=some (.lst [.int x5,.int y5]):=ac
  have k5:∀ c o,H c=some o->upd H4 p (.lst [.int x5,.int y5]) c=some o:=λc o e=>by rw [am (ah e np)]; exact k4 c o e
  generalize upd H4 p (.lst [.int x5,.int y5])=H5 at *
  refine ⟨_,rfl,p,x5,y5,2,_,rfl,hp5,hb5,by decide,by decide,aC (by decide) (by decide),λn6 x6 y6 n60 n61 hb6=>⟨_,_,rfl,rfl,(by show 2<=sizeLine; decide),λl7 n7=>?_⟩⟩
  have hp6:(upd H5 p (.lst [.int x6,.int y6])) p=some (.lst [.int x6,.int y6]):=ac
  have k6:∀ c o,H c=some o->upd H5 p (.lst [.int x6,.int y6]) c=some o:=λc o e=>by rw [am (ah e np)]; exact k5 c o e
  generalize upd H5 p (.lst [.int x6,.int y6])=H6 at *
  have s7:=mY.new (o:=.lst [.int (1+n6),.int 1]) n7
  have h7:(upd H6 l7 (.lst [.int (1+n6),.int 1])) l7=some (.lst [.int (1+n6),.int 1]):=ac
  have hp7:=s7 _ _ hp6
  generalize upd H6 l7 (.lst [.int (1+n6),.int 1])=H7 at *
  obtain ⟨nc,hat,nc1,nc2⟩:∃ nc:Int,atI [V.int (1+n6),.int 1] (2+l4-2)=some (.int nc)/\1<=nc/\nc<=2:=by
   have h01:l4=0\/l4=1:=by omega
   rcases h01 with z | z
   ·subst z; exact ⟨1+n6,rfl,by omega,by omega⟩
   ·subst z; exact ⟨1,rfl,by omega,by omega⟩
  refine ⟨_,rfl,_,_,rfl,rfl,l7,_,_,_,rfl,rfl,SqL.of h7,hat,_,rfl,p,nc,3,x6,y6,_,rfl,nc1,by omega,by decide,by decide,hp7,hb6,by decide,λc8 cs8 x8 y8 H8 n8 h8 lc8 oc8 hp8 hb8 kp8=>?_⟩
  have c8p:c8 ≠ p:=(ah hp7 n8).symm
  have k8:∀ c o,H c=some o->H8 c=some o:=λc o e=>kp8 _ _ (s7 _ _ (k6 c o e)) (ah e np)
  refine ⟨_,rfl,_,_,rfl,rfl,_,rfl,_,_,rfl,rfl,_,_,rfl,?_⟩
  dsimp only
  subst hR0
  refine dD (t:=hV _ _ _) (TabI H a p ad wy 2 3 false 200) (λR hR=>?_) ?_
  ·refine ⟨_,rfl,rfl,_,rfl,bf (λh=>?_) (λh=>?_)⟩
   ·refine ⟨_,rfl,_,rfl,c8,_,rfl,.inl (SqL.of h8),_,_,rfl,rfl,_,_,rfl,_,_,rfl,hR _ _ ⟨c8,P,_,_,_,_,cs8,x8,y8,rfl,hP,λz=>(by cases z),⟨by omega,by omega⟩,⟨?_,?_⟩,⟨by omega,by omega⟩,⟨by decide,by decide⟩,h8,c8p,⟨by omega,by omega⟩,oc8,hp8,hb8.mono (by decide),k8,np⟩⟩
    ·rw [length_map]; split<;>omega
    ·rw [length_map]; split<;>omega
   ·exact hR _ _ ⟨c8,P,_,_,_,_,cs8,x8,y8,rfl,hP,λz=>(by cases z),⟨by omega,by omega⟩,⟨by omega,by omega⟩,⟨by omega,by omega⟩,⟨by omega,by omega⟩,h8,c8p,⟨by omega,by omega⟩,oc8,hp8,hb8.mono (by decide),k8,np⟩
  clear hP h8 lc8 oc8 hp8 hb8 kp8 c8p k8
  rintro σ9 H9 ⟨c,P,L,N,M,Q',cs,x,y,rfl,hP,f7,⟨L1,L4⟩,⟨N1,N5⟩,⟨M0,M4⟩,⟨Q0,Q3⟩,hc,cp,⟨c1,c3⟩,oc,hp,hb,kp,_⟩
  refine dD (t:=hV _ _ _) (TabI H a p ad wy 2 3 false 220) (λR hR=>?_) ?_
  ·refine ⟨_,rfl,rfl,_,rfl,bf (λh=>?_) (λh=>?_)⟩
   ·refine ⟨(by show 2<=sizeLine; decide),λl10 n10=>?_⟩
    have s10:=mY.new (o:=.lst [.int 3,.int 1]) n10
    have h10:(upd H9 l10 (.lst [.int 3,.int 1])) l10=some (.lst [.int 3,.int 1]):=ac
    generalize upd H9 l10 (.lst [.int 3,.int 1])=H10 at *
    obtain ⟨nc,hat,nc1,nc2⟩:∃ nc:Int,atI [V.int 3,.int 1] (L-2)=some (.int nc)/\1<=nc/\nc<=3:=by
     have h01:L=2\/L=3:=by omega
     rcases h01 with z | z
     ·subst z; exact ⟨3,rfl,by decide,by decide⟩
     ·subst z; exact ⟨1,rfl,by decide,by decide⟩
    refine ⟨_,rfl,_,_,rfl,rfl,l10,_,_,_,rfl,rfl,SqL.of h10,hat,_,rfl,p,nc,3,x,y,_,rfl,nc1,nc2,by decide,by decide,s10 _ _ hp,hb,by decide,λc' cs' x' y' H' n' h' lc' oc' hp' hb' kp'=>?_⟩
    exact hR _ _ ⟨c',P,L,5,M,Q',cs',x',y',rfl,hP,λz=>(by cases z),⟨L1,L4⟩,⟨by decide,by decide⟩,⟨M0,M4⟩,⟨Q0,Q3⟩,h',(ah (s10 _ _ hp) n').symm,⟨by omega,by omega⟩,oc',hp',hb'.mono (by decide),λc o e=>kp' _ _ (s10 _ _ (kp c o e)) (ah e np),np⟩
   ·exact hR _ _ ⟨c,P,L,N,M,Q',cs,x,y,rfl,hP,λz=>(by cases z),⟨L1,L4⟩,⟨N1,N5⟩,⟨M0,M4⟩,⟨Q0,Q3⟩,hc,cp,⟨c1,c3⟩,oc,hp,hb.mono (by decide),kp,np⟩
  clear hP f7 L1 L4 N1 N5 M0 M4 Q0 Q3 hc cp c1 c3 oc hp hb kp
  rintro σ9 H9 ⟨c,P,L,N,M,Q',cs,x,y,rfl,hP,f7,⟨L1,L4⟩,⟨N1,N5⟩,⟨M0,M4⟩,⟨Q0,Q3⟩,hc,cp,⟨c1,c3⟩,oc,hp,hb,kp,_⟩
  refine dD (t:=hV _ _ _) (TabI H a p ad wy 1 3 false 240) (λR hR=>?_) ?_
  ·refine ⟨_,rfl,rfl,_,rfl,bf (λh=>?_) (λh=>?_)⟩
   ·refine ⟨(by show 3<=sizeLine; decide),λt10 n10=>?_⟩
    have s10:=mY.new (o:=.tup [.int 1,.int 4,.int 1]) n10
    have h10:(upd H9 t10 (.tup [.int 1,.int 4,.int 1])) t10=some (.tup [.int 1,.int 4,.int 1]):=ac
    generalize upd H9 t10 (.tup [.int 1,.int 4,.int 1])=H10 at *
    refine ⟨t10,_,rfl,SqT.of h10,rfl,_,_,rfl,_,_,rfl,_,_,rfl,rfl,?_⟩
    refine ⟨_,rfl,p,x,y,3,_,rfl,s10 _ _ hp,hb,by decide,by decide,aC (by decide) (by decide),λr11 x11 y11 r110 r111 hb11=>⟨_,_,rfl,rfl,?_⟩⟩
    refine ⟨_,rfl,p,1+r11,3,x11,y11,_,rfl,by omega,by omega,by decide,by decide,ac,hb11,by decide,λc' cs' x' y' H' n' h' lc' oc' hp' hb' kp'=>?_⟩
    exact hR _ _ ⟨c',P,1,N,4,1,cs',x',y',rfl,hP,λz=>(by cases z),⟨by decide,by decide⟩,⟨N1,N5⟩,⟨by decide,by decide⟩,⟨by decide,by decide⟩,h',(ah (o:=.lst [.int x11,.int y11]) ac n').symm,⟨by omega,by omega⟩,oc',hp',hb'.mono (by decide),λc o e=>kp' _ _ (by rw [am (ah e np)]; exact s10 _ _ (kp c o e)) (ah e np),np⟩
   ·exact hR _ _ ⟨c,P,L,N,M,Q',cs,x,y,rfl,hP,λz=>(by cases z),⟨by omega,L4⟩,⟨N1,N5⟩,⟨M0,M4⟩,⟨Q0,Q3⟩,hc,cp,⟨c1,c3⟩,oc,hp,hb.mono (by decide),kp,np⟩
  clear hP f7 L1 L4 N1 N5 M0 M4 Q0 Q3 hc cp c1 c3 oc hp hb kp
  rintro σ9 H9 ⟨c,P,L,N,M,Q',cs,x,y,rfl,hP,f7,⟨L1,L4⟩,⟨N1,N5⟩,⟨M0,M4⟩,⟨Q0,Q3⟩,hc,cp,⟨c1,c3⟩,oc,hp,hb,kp,_⟩
  refine dD (t:=hV _ _ _) (TabI H a p ad wy 1 3 true 240) (λR hR=>?_) ?_
  ·refine ⟨_,rfl,rfl,_,rfl,bf (λh=>?_) (λh=>?_)⟩
   ·refine ⟨(by show 5<=sizeLine; decide),λt10 n10=>?_⟩
    have s10:=mY.new (o:=.tup [.int 2,.int 2,.int 1,.int 2,.int 0]) n10
    have h10:(upd H9 t10 (.tup [.int 2,.int 2,.int 1,.int 2,.int 0])) t10=some (.tup [.int 2,.int 2,.int 1,.int 2,.int 0]):=ac
    generalize upd H9 t10 (.tup [.int 2,.int 2,.int 1,.int 2,.int 0])=H10 at *
    refine ⟨t10,_,rfl,SqT.of h10,rfl,_,_,rfl,_,_,rfl,_,_,rfl,_,_,rfl,_,_,rfl,rfl,?_⟩
    exact hR _ _ ⟨c,0,2,2,1,2,cs,x,y,rfl,.inl rfl,λ_ _=>rfl,⟨by decide,by decide⟩,⟨by decide,by decide⟩,⟨by decide,by decide⟩,⟨by decide,by decide⟩,s10 _ _ hc,cp,⟨c1,c3⟩,oc,s10 _ _ hp,hb,λc o e=>s10 _ _ (kp c o e),np⟩
   ·exact hR _ _ ⟨c,P,L,N,M,Q',cs,x,y,rfl,hP,λ_ z=>absurd (decide_eq_true (congrArg V.int z)) h,⟨L1,L4⟩,⟨N1,N5⟩,⟨M0,M4⟩,⟨Q0,Q3⟩,hc,cp,⟨c1,c3⟩,oc,hp,hb,kp,np⟩
  clear hP f7 L1 L4 N1 N5 M0 M4 Q0 Q3 hc cp c1 c3 oc hp hb kp
  rintro σ9 H9 ⟨c,P,L,N,M,Q',cs,x,y,rfl,hP,f7,⟨L1,L4⟩,⟨N1,N5⟩,⟨M0,M4⟩,⟨Q0,Q3⟩,hc,cp,⟨c1,c3⟩,oc,hp,hb,kp,_⟩
  refine dD (t:=hV _ _ _) (TabI H a p ad wy 1 4 true 260) (λR hR=>?_) ?_
  ·refine ⟨_,rfl,rfl,_,rfl,bf (λh=>?_) (λh=>?_)⟩
   ·refine ⟨(by show 4<=sizeLine; decide),λt10 n10=>?_⟩
    have s10:=mY.new (o:=.tup [.int 4,.int 5,.int 4,.int 1]) n10
    have h10:(upd H9 t10 (.tup [.int 4,.int 5,.int 4,.int 1])) t10=some (.tup [.int 4,.int 5,.int 4,.int 1]):=ac
    generalize upd H9 t10 (.tup [.int 4,.int 5,.int 4,.int 1])=H10 at *
    refine ⟨t10,_,rfl,SqT.of h10,rfl,_,_,rfl,_,_,rfl,_,_,rfl,_,_,rfl,rfl,?_⟩
    refine ⟨_,rfl,p,3,5,x,y,_,rfl,by decide,by decide,by decide,by decide,s10 _ _ hp,hb,by decide,λc' cs' x' y' H' n' h' lc' oc' hp' hb' kp'=>?_⟩
    exact hR _ _ ⟨c',P,4,5,4,1,cs',x',y',rfl,hP,f7,⟨by decide,by decide⟩,⟨by decide,by decide⟩,⟨by decide,by decide⟩,⟨by decide,by decide⟩,h',(ah (s10 _ _ hp) n').symm,⟨by omega,by omega⟩,oc',hp',hb'.mono (by decide),λc o e=>kp' _ _ (s10 _ _ (kp c o e)) (ah e np),np⟩
   ·exact hR _ _ ⟨c,P,L,N,M,Q',cs,x,y,rfl,hP,f7,⟨L1,by omega⟩,⟨N1,N5⟩,⟨M0,M4⟩,⟨Q0,Q3⟩,hc,cp,⟨c1,c3⟩,oc,hp,hb.mono (by decide),kp,np⟩
  clear hP f7 L1 L4 N1 N5 M0 M4 Q0 Q3 hc cp c1 c3 oc hp hb kp
  rintro σ9 H9 ⟨c,P,L,N,M,Q',cs,x,y,rfl,hP,f7,⟨L1,L4⟩,⟨N1,N5⟩,⟨M0,M4⟩,⟨Q0,Q3⟩,hc,cp,⟨c1,c3⟩,oc,hp,hb,kp,_⟩
  have sH9:mY H H9:=kp
  have f7:=f7 rfl
  clear hp hb cp kp
  refine ⟨Nat.zero_le _,λrw nrw=>?_⟩
  have s10:=mY.new (o:=.lst []) nrw
  have h10:(upd H9 rw (.lst [])) rw=some (.lst []):=ac
  generalize upd H9 rw (.lst [])=H10 at *
  refine ⟨_,rfl,N,rfl,by omega,by omega,dG (n:=N.toNat) (λi σ H'=>∃ (x2 x11 x12:Option V) (ws:List V) (rows:List (List (List ak))),σ=[some (.ref a),some (.int ad),x2,some (.int wy),some (.int P),some (.int L),some (.int N),some (.ref c),some (.int M),some (.int Q'),some (.ref rw),x11,x12]/\mY H9 H'/\H' rw=some (.lst ws)/\Paired (oF [rw] P H') ws rows/\rows.length=i/\∀ row ∈ rows,oz P L (110+15*i) cs row) ?_ ?_ ?_⟩
  ·exact ⟨_,none,none,[],[],rfl,s10,h10,.nil,rfl,λrow hr=>by cases hr⟩
  ·rintro i σ H11 hi ⟨x2,x11,x12,ws,rows,rfl,s11,h11,prs,lr,okr⟩ N0 B0 hN0
   have sH11:=sH9.trans s11
   refine ⟨_,rfl,_,rfl,_,_,rfl,rfl,_,rfl,_,_,rfl,rfl,a,ns,_,rfl,sH11.seq hS,hlen,by omega,by omega,λp' x12' y12 np' hb12=>?_⟩
   have s12:=mY.new (o:=.lst [.int x12',.int y12]) np'
   have hp12:(upd H11 p' (.lst [.int x12',.int y12])) p'=some (.lst [.int x12',.int y12]):=ac
   generalize upd H11 p' (.lst [.int x12',.int y12])=H12 at *
   have hc11:=s11 _ _ hc
   have cp':c ≠ p':=ah hc11 np'
   have rwp':rw ≠ p':=ah h11 np'
   refine ⟨_,rfl,_,rfl,_,rfl,_,rfl,_,rfl,_,rfl,rfl,_,rfl,p',c,P,L,M,Q',x12',y12,_,100,cs,rfl,hP,(λz=>f7 (by have:=of_decide_eq_true z; injection this)),L1,L4,M0,M4,Q0,Q3,s12 _ _ hc11,cp',c1,c3,hp12,hb12,by decide,λr es row x13 y13 H13 nr hr13 pr13 ok13 hp13 hb13 kp13=>?_⟩
   have s13:mY H11 H13:=λc o e=>kp13 _ _ (s12 _ _ e) (ah e np')
   have pr13':Paired (nB H11 r P H13) es row:=ap (λ_ _=>nB.from λl z=>s12.free z) pr13
   dsimp only
   have hrw13:=s13 _ _ h11
   have again:∀ (Z:VK),0<i->(∀ (r:Addr) (es:List V) (row:List (List ak)) (H':Hp),mY H11 H'->H11 r=none->H' r=some (.lst es)->Paired (nB H11 r P H') es row->oz P L (110+15*(i+1)) cs row->Z (.ref r) H')->
     tCall lE [] E0 (bv (tVar 4) (bv (tVar 5) (bv (tVar 7) (bv (tVar 10) (bv (tVar 2) di))))) [some (.ref a),some (.int ad),some (.ref p'),some (.int wy),some (.int P),some (.int L),some (.int N),some (.ref c),some (.int M),some (.int Q'),some (.ref rw),some (.int (0+(i:Int))),some (.ref r)] H13 Z:=λZ hi0 hZ=>by
    refine ⟨_,rfl,_,rfl,_,rfl,_,rfl,_,rfl,p',c,rw,P,L,x13,y13,_,110+15*i,cs,ws,rows,rfl,hP,L1,L4,s13 _ _ hc11,cp',c1,c3,hrw13,rwp',ap (λ_ _ z=>z.row.fresh np' s13) prs,(λz=>by rw [z] at lr; simp at lr; omega),by omega,by omega,by omega,okr,hp13,hb13,by decide,λr2 es2 row2 x14 y14 H14 nr2 hr2 pr2 ok2 hp14 hb14 kp14=>?_⟩
    exact hZ r2 es2 row2 H14 (λc o e=>kp14 _ _ (s13 _ _ e) (ah e np')) (s13.free nr2) hr2 (ap (λ_ _=>nB.from λl z=>s13.free z) pr2) (ok2.mono (by omega))
   refine gm (t:=hV _ _ _) (λσ' H'=>∃ (r:Addr) (es:List V) (row:List (List ak)),σ'=[some (.ref a),some (.int ad),some (.ref p'),some (.int wy),some (.int P),some (.int L),some (.int N),some (.ref c),some (.int M),some (.int Q'),some (.ref rw),some (.int (0+(i:Int))),some (.ref r)]/\mY H11 H'/\H11 r=none/\H' r=some (.lst es)/\Paired (nB H11 r P H') es row/\oz P L (110+15*(i+1)) cs row) (λR hR=>?_) ?_
   ·have plain:=hR _ _ ⟨r,es,row,rfl,s13,s12.free nr,hr13,pr13',ok13.mono (by omega)⟩
    refine ⟨_,rfl,_,_,rfl,rfl,_,rfl,bf (λhk=>?_) (λhk=>bx plain)⟩
    have hi0:0<i:=by have:=of_decide_eq_true hk; omega
    refine ⟨_,rfl,rfl,_,rfl,bf (λh4=>bH ?_) (λh4=>?_)⟩
    ·exact again _ hi0 λr2 es2 row2 H14 z1 z2 z3 z4 z5=>hR _ _ ⟨r2,es2,row2,rfl,z1,z2,z3,z4,z5⟩
    ·refine ⟨_,rfl,rfl,_,rfl,bf (λh5=>?_) (λh5=>plain)⟩
     exact again _ hi0 λr2 es2 row2 H14 z1 z2 z3 z4 z5=>hR _ _ ⟨r2,es2,row2,rfl,z1,z2,z3,z4,z5⟩
   clear again pr13 pr13' ok13 nr hr13
   rintro σ' H14 ⟨r,es,row,rfl,s14,nr,hr14,pr14,ok14⟩
   refine dD (t:=hV _ _ _) (λσ' H'=>∃ (r:Addr) (es:List V) (row:List (List ak)),σ'=[some (.ref a),some (.int ad),some (.ref p'),some (.int wy),some (.int P),some (.int L),some (.int N),some (.ref c),some (.int M),some (.int Q'),some (.ref rw),some (.int (0+(i:Int))),some (.ref r)]/\mY H11 H'/\H11 r=none/\H' r=some (.lst es)/\Paired (nB H11 r P H') es row/\oz P L (110+15*(i+1)) cs row) (λR hR=>?_) ?_
   ·refine ⟨_,rfl,rfl,_,rfl,bf (λh6=>?_) (λh6=>hR _ _ ⟨r,es,row,rfl,s14,nr,hr14,pr14,ok14⟩)⟩
    refine ⟨_,rfl,r,P,L,_,cs,es,row,rfl,hr14,ap (λ_ _=>nB.ent) pr14,ok14,c3,λr2 es2 row2 H15 nr2 s15 hr2 pr2 ok2=>?_⟩
    exact hR _ _ ⟨r2,es2,row2,rfl,s14.trans s15,s14.free nr2,hr2,ap (λ_ _=>nB.from λl z=>s14.free z) pr2,ok2⟩
   clear pr14 ok14 nr hr14 s14
   rintro σ' H14 ⟨r,es,row,rfl,s14,nr,hr14,pr14,ok14⟩
   have hrw14:=s14 _ _ h11
   have rrw:r ≠ rw:=(ah h11 nr).symm
   have lws:ws.length=i:=by rw [Paired.length prs,lr]
   refine ⟨_,rfl,.inl ⟨rfl,_,SqL.of hrw14⟩,_,rfl,rw,_,_,rfl,rfl,hrw14,by rw [lws,sizeLine_eq]; omega,?_⟩
   have ka:m5 [rw] H11 (upd H14 rw (.lst (ws++[.ref r]))):=(m5.of s14).trans (m5.put hrw14 (by simp))
   have kb:m5 [rw] H14 (upd H14 rw (.lst (ws++[.ref r]))):=m5.put hrw14 (by simp)
   refine hN0 _ _ ⟨_,_,_,ws++[.ref r],rows++[row],rfl,λc o e=>?_,ac,aH ?_ (ap (λ_ _=>oF.keep ka) prs),by rw [length_append,lr]; rfl,λrow' hr'=>?_⟩
   ·rw [am (ah e nrw)]
    exact s14 _ _ (s11 _ _ e)
   ·refine oF.keep kb ⟨r,es,rfl,by simpa using rrw,hr14,ap (λv e z=>?_) pr14⟩
    obtain ⟨l,ts,rfl,l0,_,hl,pe⟩:=z
    exact ⟨l,ts,rfl,by simpa using (ah h11 l0).symm,hl,pe⟩
   ·rcases List.mem_append.mp hr' with z | z
    ·exact (okr row' z).mono (by omega)
    ·rw [List.mem_singleton.mp z]
     exact ok14
  ·rintro σ H11 ⟨x2,x11,x12,ws,rows,rfl,s11,h11,prs,lr,okr⟩
   refine ⟨_,rfl,_,rfl,_,rfl,_,rfl,(by show 4<=sizeLine; decide),λt nt=>?_⟩
   have s12:=mY.new (o:=.tup [.int P,.int L,.ref c,.ref rw]) nt
   exact q t c rw P L cs ws rows _ ((sH9.trans s11).trans s12) ac (s12 _ _ (s11 _ _ hc)) (s12 _ _ h11) (ap (λ_ _ z=>z.row.same s12) prs) ⟨hP,L1,L4,c1,c3,oc,by omega,by omega,λrow hr=>(okr row hr).mono (by omega)⟩
theorem nd_12:(["first", "second"]:List Str).Nodup:=by decide +kernel
theorem nd_13:(["product", "fraction", "numbers"]:List Str).Nodup:=by decide +kernel
def cnt (k:List Int) (ts:List ak):Nat:=ts.countP λq=>decide (q.1=k)
theorem fm (k:List Int) (a b:List ak):cnt k (a++b)=cnt k a+cnt k b:=List.countP_append
theorem cnt_one_le (k:List Int) (q:ak):cnt k [q]<=1:=by unfold cnt; rw [countP_singleton]; split<;>omega
theorem cnt_one (q:ak):cnt q.1 [q]=1:=by unfold cnt; rw [countP_singleton,decide_eq_true rfl]; rfl
theorem cnt_take (k:List Int) (ts:List ak) (i:Nat):cnt k (ts.take i)<=cnt k ts:=(take_sublist i ts).countP_le
theorem kE (k:List Int):∀ {ts:List ak},(ts.map (·.1)).Nodup->cnt k ts<=1
 | [],_=>by simp [cnt]
 | q::r,h=>by
  obtain ⟨h1,h2⟩:=List.nodup_cons.mp (show (q.1::r.map (·.1)).Nodup from h)
  have e:cnt k (q::r)=cnt k [q]+cnt k r:=fm k [q] r
  rw [e]
  by_cases z:q.1=k
  ·have:cnt k r=0:=by
    unfold cnt
    rw [List.countP_eq_zero]
    intro p hp e'
    exact h1 (List.mem_map.mpr ⟨p,hp,(of_decide_eq_true e').trans z.symm⟩)
   have:=cnt_one_le k q
   omega
  ·have:cnt k [q]=0:=by unfold cnt; rw [countP_singleton,decide_eq_false z]; rfl
   have:=kE k h2
   omega
theorem gath_cnt {P:Int} {ts:List ak} {z:Nat} (h:∀ q ∈ ts,TOk P z q):∀ i,i<=ts.length->∀ p ∈ bN (ts.take i),TOk P ((z+1)*cnt p.1 (ts.take i)) p
 | 0,_,p,hp=>by simp [bN] at hp
 | i+1,hi,p,hp=>by
  obtain ⟨q,eq⟩:∃ q,ts[i]? = some q:=⟨_,getElem?_eq_getElem (by omega)⟩
  have hq:=h q (mem_of_getElem? eq)
  have ih:=gath_cnt h i (by omega)
  have et:ts.take (i+1)=ts.take i++[q]:=by rw [take_add_one,eq]; rfl
  rw [dm eq] at hp
  rw [et,fm]
  rcases dn hp with w | w
  ·rw [w,show cnt (q.1,_).1 [q]=1 from cnt_one q]
   have e1:(z+1)*(cnt q.1 (ts.take i)+1)=(z+1)*cnt q.1 (ts.take i)+z+1:=by rw [Nat.mul_add]; omega
   show TOk P ((z+1)*(cnt q.1 (ts.take i)+1)) _
   rw [e1]
   cases e:bo (bN (ts.take i)) q.1 with
   | none=>exact ⟨hq.1,hq.2.1,hq.2.2.mono (by omega)⟩
   | some y=>
    have hy:=ih _ (bh e)
    refine ⟨lG hy.1 hq.1,λh0=>?_,?_⟩
    ·show (fpl y q.2).2=1
     rw [mE (hy.2.1 h0) (hq.2.1 h0)]
    ·exact fpl_sz hy.1 hq.1 hy.2.2 hq.2.2
  ·obtain ⟨a,b,c⟩:=ih p w
   exact ⟨a,b,c.mono (Nat.mul_le_mul_left _ (by omega))⟩
theorem gath_n {P:Int} {ts:List ak} {z n y:Nat} (h:∀ q ∈ ts,TOk P z q) (hn:∀ k,cnt k ts<=n) (hy:(z+1)*n<=y) (i:Nat) (hi:i<=ts.length):∀ p ∈ bN (ts.take i),TOk P y p:=λp hp=>by
 obtain ⟨a,b,c⟩:=gath_cnt h i hi p hp
 exact ⟨a,b,c.mono (Nat.le_trans (Nat.mul_le_mul_left _ (Nat.le_trans (cnt_take _ _ _) (hn _))) hy)⟩
theorem kn (k:List Int) (f:ak->ak->Int × Int) {L:Nat}:∀ {ps qs:List ak},(ps.map (·.1)).Nodup->(∀ p ∈ ps,p.1.length=L)->(∀ q ∈ qs,q.1.length=L)->cnt k (ps.flatMap λa=>qs.map λb=>(aU a.1 b.1,f a b))<=qs.length
 | ps,[],_,_,_=>by
  have:(ps.flatMap λa=>([]:List ak).map λb=>(aU a.1 b.1,f a b))=[]:=by simp
  rw [this]; exact Nat.le_refl _
 | ps,b::r,hn,h1,h2=>by
  have ih:=kn k f hn h1 λq hq=>h2 q (mem_cons_of_mem _ hq)
  have sp:∀ ps:List ak,cnt k (ps.flatMap λa=>(b::r).map λb=>(aU a.1 b.1,f a b))=cnt k (ps.map λa=>(aU a.1 b.1,f a b))+cnt k (ps.flatMap λa=>r.map λb=>(aU a.1 b.1,f a b)):=λps=>by
   induction ps with
   | nil=>rfl
   | cons a t iht=>
    rw [flatMap_cons,fm,iht,flatMap_cons,fm,map_cons]
    have e1:cnt k ((aU a.1 b.1,f a b)::r.map λb=>(aU a.1 b.1,f a b))=cnt k [(aU a.1 b.1,f a b)]+cnt k (r.map λb=>(aU a.1 b.1,f a b)):=fm k [_] _
    have e2:cnt k ((a::t).map λa=>(aU a.1 b.1,f a b))=cnt k [(aU a.1 b.1,f a b)]+cnt k (t.map λa=>(aU a.1 b.1,f a b)):=fm k [_] _
    rw [e1,e2]
    omega
  rw [sp ps]
  have one:cnt k (ps.map λa=>(aU a.1 b.1,f a b))<=1:=by
   refine kE k ?_
   rw [map_map,show (ps.map ((λx=>x.1) ∘ λa=>(aU a.1 b.1,f a b)))=(ps.map (·.1)).map λx=>aU x b.1 by rw [map_map]; rfl]
   refine List.pairwise_map.mpr (hn.imp_of_mem λ{x y} hx hy hxy z=>hxy ?_)
   obtain ⟨p,hp,rfl⟩:=List.mem_map.mp hx
   obtain ⟨q,hq,rfl⟩:=List.mem_map.mp hy
   have hb:=h2 b mem_cons_self
   exact jp ((h1 p hp).trans hb.symm) ((h1 q hq).trans hb.symm) z
  rw [length_cons]
  omega
theorem cnt_trms (k:List Int) {L:Nat} {ps qs:List ak} (hn:(ps.map (·.1)).Nodup) (h1:∀ p ∈ ps,p.1.length=L) (h2:∀ q ∈ qs,q.1.length=L):cnt k (gL ps qs)<=qs.length:=kn k (λa b=>(a.2.1*b.2.1,a.2.2*b.2.2)) hn h1 h2
theorem trms_ok2 {P:Int} {ps qs:List ak} {y z:Nat} (h1:∀ p ∈ ps,OkN P p.2/\Sz y p.2) (h2:∀ p ∈ qs,OkN P p.2/\Sz z p.2):∀ q ∈ gL ps qs,TOk P (y+z) q:=λq hq=>by
 obtain ⟨a,ha,hb⟩:=List.mem_flatMap.mp hq
 obtain ⟨b,mb,rfl⟩:=List.mem_map.mp hb
 obtain ⟨oa,sa⟩:=h1 a ha
 obtain ⟨ob,sb⟩:=h2 b mb
 refine ⟨Int.mul_pos oa.den ob.den,λh0=>?_,db sa.1 sb.1,db sa.2 sb.2⟩
 rcases oa with ⟨z,_⟩ | ⟨_,_,_,ea⟩
 ·exact absurd z h0
 rcases ob with ⟨z,_⟩ | ⟨_,_,_,eb⟩
 ·exact absurd z h0
 show a.2.2*b.2.2=1
 rw [ea,eb]; rfl
def spTimes (K:Frag):Sp:=λvs H Q _=>∃ (a b:Addr) (ns ms:List Int),vs=[.ref a,.ref b]/\SqT K H a (ns.map V.int)/\SqT K H b (ms.map V.int)/\ns.length<=1000/\∀ l H',mY H H'->H' l=some (.tup ((List.zipWith (· + ·) ns ms).map V.int))->Q (.ref l) H'
theorem ia:mZ ["one", "other"] ["one", "other"] (al cr):=.i
theorem ok_times {f:Addr} {fd:FuncData} (F:Fun K "product_times" "product_times" cr f fd) (T:Blt mg):nk P w K mg base CX0 1 f fd ["one", "other"] (spTimes K):=by
 refine F.o ia λ_ _ _ _ H _ Q _ hr h=>?_
 ·obtain ⟨a,b,ns,ms,rfl,ha,hb,hn,q⟩:=h
  refine ⟨_,(aj (ar (cF K T (by exact aX (N:=["first", "second"]) (src:=[none,none]) rfl rfl rfl (by exact (lP K true true rfl rfl T.zip (aa (pv 0) (aa (pv 1) af)))) (λ_ _ _=>by exact ⟨by exact (bB K (i:=0) (j:=1) rfl rfl nd_12 rfl rfl rfl rfl),bj,by exact (ao aG (pv 0) (pv 1))⟩))))),?_⟩
  refine ⟨_,rfl,_,rfl,a,b,rfl,⟨_,iP ha⟩,⟨_,iP hb⟩,comp_zip (v2 λi j=>.int (i+j)) rfl (iP ha) (iP hb) (by rw [length_map]; exact Nat.le_of_lt (fu hn)) (λi x y H1 R hx hy sm hR=>?_) (λacc H1 hacc sm hl=>?_)⟩
  ·obtain ⟨z,_,rfl⟩:=cD hx
   obtain ⟨z',_,rfl⟩:=cD hy
   exact ⟨_,rfl,_,rfl,_,_,rfl,rfl,hR⟩
  ·rw [zip_v2,zw_map V.int] at hl
   exact ⟨acc,_,rfl,SqL.of hl,λl n=>q l _ (sm.trans (mY.new n)) ac⟩
def spFPr:Sp:=λvs H Q _=>∃ x:V,vs=[x]/\Q (.int 0) H
def spRPr (CR:Addr):Sp:=λvs H Q _=>∃ (x dx:Addr) (p:Int),vs=[.ref x]/\H x=some (.ins CR dx [("modulus",.int p)])/\Q (.int p) H
def Fr (H:Hp) (t:Addr) (x:Int × Int):Prop:=H t=some (.tup [.int x.1,.int x.2])
def spTB (CF CR:Addr):Sp:=λvs H Q _=>∃ (x:Addr) (P:Int) (u:V) (a:Int × Int),vs=[.ref x,u]/\nZ CF CR H x P/\At P H u a/\∀ t H',mY H H'->Fr H' t a->Q (.ref t) H'
def spFPlus:Sp:=λvs H Q _=>∃ (s t:Addr) (a b:Int × Int),vs=[.ref s,.ref t]/\Fr H s a/\Fr H t b/\0<a.2/\0<b.2/\Sz 2900 a/\Sz 2900 b/\∀ r,H r=none->Q (.ref r) (upd H r (.tup [.int (fpl a b).1,.int (fpl a b).2]))
def TermR (H:Hp) (v:V) (q:ak):Prop:=∃ t k,v=.ref t/\H t=some (.tup [.ref k,.int q.2.1,.int q.2.2])/\H k=some (.tup (q.1.map V.int))
def og (H:Hp) (vs:List V) (qs:List ak):Prop:=Paired (TermR H) vs qs
theorem TermR.mono {H H':Hp} {v:V} {q:ak} (k:∀ t xs,H t=some (.tup xs)->H' t=some (.tup xs)) (h:TermR H v q):TermR H' v q:=by
 obtain ⟨t,c,e,h1,h2⟩:=h
 exact ⟨t,c,e,k _ _ h1,k _ _ h2⟩
theorem og.mono {H H':Hp} (k:∀ t xs,H t=some (.tup xs)->H' t=some (.tup xs)):∀ {vs:List V} {qs:List ak},og H vs qs->og H' vs qs
 | _,_,.nil=>.nil
 | _,_,.cons q r=>.cons (q.mono k) (og.mono k r)
theorem og.snoc {H:Hp} {v:V} {q:ak} (h:TermR H v q):∀ {vs:List V} {qs:List ak},og H vs qs->og H (vs++[v]) (qs++[q])
 | _,_,.nil=>.cons h .nil
 | _,_,.cons q r=>.cons q (og.snoc h r)
theorem og.at_ {H:Hp}:∀ {vs:List V} {qs:List ak} {i:Nat} {v:V},og H vs qs->vs[i]? = some v->∃ q,qs[i]? = some q/\TermR H v q
 | _,_,0,_,.cons q _,e=>⟨_,rfl,by rw [<- Option.some.inj e]; exact q⟩
 | _,_,i+1,_,.cons _ r,e=>og.at_ (i:=i) r e
def spTerms (CF CR CG:Addr):Sp:=λvs H Q _=>∃ (g x l1 l2:Addr) (P L:Int) (ts1 ts2:List V) (ps1 ps2:List ak),vs=[.ref g,.ref l1,.ref l2]/\nq P/\gf CG H g x L/\nZ CF CR H x P/\H l1=some (.lst ts1)/\nj P H ts1 ps1/\H l2=some (.lst ts2)/\nj P H ts2 ps2/\ps1.length<=6/\ps2.length<=6/\(∀ p ∈ ps1,Sz 300 p.2/\p.1.length<=10)/\(∀ p ∈ ps2,Sz 300 p.2)/\
 ∀ (d:Addr) (rs:List V) (H':Hp),H d=none->mY H H'->H' d=some (.lst rs)->og H' rs (gL ps1 ps2)->Q (.ref d) H'
def spGath (CF CR CG:Addr):Sp:=λvs H Q _=>∃ (g x l:Addr) (P L:Int) (ts:List V) (qs:List ak),vs=[.ref g,.ref l]/\nq P/\gf CG H g x L/\nZ CF CR H x P/\H l=some (.lst ts)/\og H ts qs/\qs.length<=60/\(∀ q ∈ qs,TOk P 2900 q)/\(∀ i,i<=qs.length->∀ p ∈ bN (qs.take i),TOk P 2900 p)/\
 ∀ (d:Addr) (rs:List V) (out:List ak) (H':Hp),H d=none->mY H H'->H' d=some (.lst rs)->nj P H' rs out->nO P (vm P qs) out->Q (.ref d) H'
def spTimesS (CF CR CG:Addr):Sp:=λvs H Q _=>∃ (g x l1 l2:Addr) (P L:Int) (n:Nat) (ts1 ts2:List V) (ps1 ps2:List ak),vs=[.ref g,.ref l1,.ref l2]/\nq P/\gf CG H g x L/\nZ CF CR H x P/\H l1=some (.lst ts1)/\nj P H ts1 ps1/\H l2=some (.lst ts2)/\nj P H ts2 ps2/\ps1.length<=6/\ps2.length<=2/\(ps1.map (·.1)).Nodup/\(∀ p ∈ ps1,OkN P p.2/\Sz 300 p.2/\p.1.length=n/\p.1.length<=10)/\(∀ p ∈ ps2,OkN P p.2/\Sz 300 p.2/\p.1.length=n)/\
 ∀ (d:Addr) (rs:List V) (out:List ak) (H':Hp),H d=none->mY H H'->H' d=some (.lst rs)->nj P H' rs out->nO P (bd P ps1 ps2) out->Q (.ref d) H'
theorem fQ:mZ ["self"] ["self"] (al aT):=.i
theorem ok_fpr {f:Addr} {fd:FuncData} (F:Fun K "prime" "Fractions.prime" aT f fd):nk P w K mg base CX0 1 f fd ["self"] spFPr:=by
 refine F.o fQ λ_ _ _ _ H _ Q _ hr h=>?_
 ·obtain ⟨x,rfl,q⟩:=h
  exact ⟨_,(aj (ar ae)),q⟩
theorem jz:mZ ["self"] ["self"] (al bt):=.i
theorem ok_rpr {f CR:Addr} {fd:FuncData} (F:Fun K "prime" "Rests.prime" bt f fd) (cl:Cls K CR) (nM:oC K CR "modulus"):nk P w K mg base CX0 1 f fd ["self"] (spRPr CR):=by
 refine F.o jz λ_ _ _ _ H _ Q _ hr h=>?_
 ·obtain ⟨x,dx,p,rfl,hx,q⟩:=h
  exact ⟨_,(aj (ar (gY (pv 0) rfl))),⟨_,rfl,x,CR,dx,_,_,rfl,hx,cl,nM,rfl,q⟩⟩
theorem gM:mZ ["numbers", "number"] ["numbers", "number"] (al bV):=.i
theorem ok_tb {f CF CR:Addr} {fd:FuncData} (F:Fun K "top_and_bottom" "top_and_bottom" bV f fd) (xy:MtB P w K mg base 1 CF "prime" spFPr) (xz:MtB P w K mg base 1 CR "prime" (spRPr CR)):nk P w K mg base CX0 2 f fd ["numbers", "number"] (spTB CF CR):=by
 refine F.o gM λ_ _ _ _ H _ Q _ hr h=>?_
 ·obtain ⟨x,P,u,a,rfl,hN,hu,q⟩:=h
  refine ⟨_,(ag (aJ (aw br (lM (g7 xy hr.m (pv 0)) (g7 xz hr.m (pv 0))) ae (az _))
(aj (ar (pv 1)))
aB)
(aj (ar (aL (aa (pv 1) (aa ae af)))))),?_⟩
  rcases hN with ⟨h0,dx,e⟩ | ⟨h0,dx,e⟩
  ·rcases hu with ⟨_,t,rfl,ht⟩ | ⟨z,_⟩
   ·exact .inl ⟨_,rfl,x,dx,_,rfl,e,rfl,.ref x,rfl,rfl,_,rfl,bH ⟨_,rfl,q t H (mY.refl _) ht⟩⟩
   ·exact absurd h0 z
  ·rcases hu with ⟨z,_⟩ | ⟨_,rfl,h1⟩
   ·exact absurd z h0
   ·refine .inr ⟨_,rfl,x,dx,_,rfl,e,mM (by decide +kernel) _,x,dx,P,rfl,e,rfl,_,rfl,?_⟩
    rw [decide_eq_false (show ¬ V.int P=V.int 0 from λz=>h0 (by injection z))]
    refine bx ⟨_,rfl,(by show 2<=sizeLine; decide),λt nt=>q t _ (mY.new nt) ?_⟩
    show upd H t (.tup [.int a.1,.int 1]) t=some (.tup [.int a.1,.int a.2])
    rw [h1,ac]
theorem oS:mZ ["one", "other", "common", "share"] ["one", "other"] (al cv):=.i
theorem ok_fpl {f:Addr} {fd:FuncData} (F:Fun K "fraction_plus" "fraction_plus" cv f fd) (pX:FnB P w K mg base 1 "greatest_divisor" spGcd):nk P w K mg base CX0 2 f fd ["one", "other"] spFPlus:=by
 refine F.o oS λ_ _ _ _ H _ Q _ hr h=>?_
 ·obtain ⟨s,t,a,b,rfl,hs,ht,ha,hb,sa,sb,q⟩:=h
  refine ⟨_,(ag (aJ (aw br (aA (ay K rfl) (pv 0) ae (λ_ _=>rfl)) (aA (ay K rfl) (pv 1) ae (λ_ _=>rfl)) (az _))
(aj (ar (aL (aa (ao aG (aA (ay K rfl) (pv 0) ae (λ_ _=>rfl)) (aA (ay K rfl) (pv 1) ae (λ_ _=>rfl))) (aa (aA (ay K rfl) (pv 0) ae (λ_ _=>rfl)) af)))))
aB)
(ag (aq (i:=2) oS.nd rfl (Or.inl rfl) (au pX hr.m (aa (aA (ay K rfl) (pv 0) ae (λ_ _=>rfl)) (aa (aA (ay K rfl) (pv 1) ae (λ_ _=>rfl)) af))))
(ag (aq (i:=3) oS.nd rfl (Or.inl rfl) (ao bw (aA (ay K rfl) (pv 1) ae (λ_ _=>rfl)) (pv 2)))
(aj (ar (aL (aa (ao aG (ao bD (aA (ay K rfl) (pv 0) ae (λ_ _=>rfl)) (pv 3)) (ao bD (aA (ay K rfl) (pv 1) ae (λ_ _=>rfl)) (ao bw (aA (ay K rfl) (pv 0) ae (λ_ _=>rfl)) (pv 2)))) (aa (ao bD (aA (ay K rfl) (pv 0) ae (λ_ _=>rfl)) (pv 3)) af)))))))),?_⟩
  unfold fpl at q
  refine ⟨_,rfl,s,_,_,_,rfl,rfl,SqT.of hs,rfl,_,rfl,t,_,_,_,rfl,rfl,SqT.of ht,rfl,rfl,_,rfl,bf (λh=>?_) (λh=>?_)⟩
  ·have h0:a.2=b.2:=by have:=of_decide_eq_true h; injection this
   rw [if_pos h0] at q
   exact ⟨_,rfl,s,_,_,_,rfl,rfl,SqT.of hs,rfl,_,rfl,t,_,_,_,rfl,rfl,SqT.of ht,rfl,_,_,rfl,rfl,_,rfl,s,_,_,_,rfl,rfl,SqT.of hs,rfl,(by show 2<=sizeLine; decide),λr nr=>q r nr⟩
  ·have h0:¬ a.2=b.2:=λz=>h (decide_eq_true (congrArg V.int z))
   rw [if_neg h0] at q
   obtain ⟨e1,e2,hg,u0,v0⟩:=gG ha hb
   have gle:(Int.gcd a.2 b.2)<=b.2.natAbs:=Nat.le_of_dvd (by omega) (Nat.gcd_dvd_right a.2.natAbs b.2.natAbs)
   have gsm:(Int.gcd a.2 b.2)<2 ^ 6000:=Nat.lt_of_le_of_lt gle (Nat.lt_trans sb.2 gP)
   have cd:∀ i:Int,CDivA i (Int.gcd a.2 b.2:Int):=λi=>⟨by omega,by rw [Int.natAbs_natCast]; exact gsm⟩
   have hu:(a.2.fdiv (Int.gcd a.2 b.2:Int)).natAbs<=a.2.natAbs:=by
    conv=>rhs; rw [e1]
    rw [Int.natAbs_mul]
    exact Nat.le_mul_of_pos_left _ (by omega)
   have hv:(b.2.fdiv (Int.gcd a.2 b.2:Int)).natAbs<=b.2.natAbs:=by
    conv=>rhs; rw [e2]
    rw [Int.natAbs_mul]
    exact Nat.le_mul_of_pos_left _ (by omega)
   have su:=Nat.lt_of_le_of_lt hu sa.2
   have sv:=Nat.lt_of_le_of_lt hv sb.2
   refine ⟨_,rfl,s,_,_,_,rfl,rfl,SqT.of hs,rfl,_,rfl,t,_,_,_,rfl,rfl,SqT.of ht,rfl,a.2,b.2,rfl,?_⟩
   refine ⟨_,rfl,t,_,_,_,rfl,rfl,SqT.of ht,rfl,_,rfl,_,_,rfl,rfl,cd _,?_⟩
   refine ⟨_,rfl,s,_,_,_,rfl,rfl,SqT.of hs,rfl,_,rfl,_,_,rfl,rfl,du sa.1 sv,?_⟩
   refine ⟨_,rfl,t,_,_,_,rfl,rfl,SqT.of ht,rfl,_,rfl,s,_,_,_,rfl,rfl,SqT.of hs,rfl,_,rfl,_,_,rfl,rfl,cd _,_,_,rfl,rfl,du sb.1 su,_,_,rfl,rfl,?_⟩
   exact ⟨_,rfl,s,_,_,_,rfl,rfl,SqT.of hs,rfl,_,rfl,_,_,rfl,rfl,du sa.2 sv,(by show 2<=sizeLine; decide),λr nr=>q r nr⟩
theorem n0:mZ ["ring", "one", "other", "terms", "product", "number", "first", "second", "factor", "fraction"] ["ring", "one", "other"] (al cx):=.i
theorem ok_terms {f CF CR CG:Addr} {fd:FuncData} (F:Fun K "product_terms" "product_terms" cx f fd) (tu:MtB P w K mg base 1 CG "numbers" (jH CG)) (qC:FnB P w K mg base 2 "top_and_bottom" (spTB CF CR)) (rR:FnB P w K mg base 1 "product_times" (spTimes K)):nk P w K mg base CX0 3 f fd ["ring", "one", "other"] (spTerms CF CR CG):=by
 refine F.o n0 λ_ _ _ _ H _ Q _ hr h=>?_
 ·obtain ⟨g,x,l1,l2,P,L,ts1,ts2,ps1,ps2,rfl,hP,hg,hN,h1,p1,h2,p2,n1,n2,ok1,ok2,q⟩:=h
  refine ⟨_,(ag (aq (i:=3) n0.nd rfl (Or.inl rfl) (aQ af))
(ag (bp PassesOwn.never rfl (aM K rfl (pv 1)) (bB K (i:=4) (j:=5) rfl rfl n0.nd rfl rfl rfl rfl)
(ag (aq (i:=6) n0.nd rfl (Or.inl rfl) (au qC hr.m (aa (g7 tu hr.m (pv 0)) (aa (pv 5) af))))
(aj (bp PassesOwn.never rfl (aM K rfl (pv 2)) (bB K (i:=7) (j:=8) rfl rfl n0.nd rfl rfl rfl rfl)
(ag (aq (i:=9) n0.nd rfl (Or.inl rfl) (au qC hr.m (aa (g7 tu hr.m (pv 0)) (aa (pv 8) af))))
(aj (cE (bmA K rfl (pv 3) (aa (aL (aa (au rR hr.m (aa (pv 4) (aa (pv 7) af))) (aa (ao bD (aA (ay K rfl) (pv 6) ae (λ_ _=>rfl)) (aA (ay K rfl) (pv 9) ae (λ_ _=>rfl))) (aa (ao bD (aA (ay K rfl) (pv 6) ae (λ_ _=>rfl)) (aA (ay K rfl) (pv 9) ae (λ_ _=>rfl))) af)))) af)))))))))
(aj (ar (pv 3))))),?_⟩
  have t1:ts1.length=ps1.length:=Paired.length p1
  have t2:ts2.length=ps2.length:=Paired.length p2
  obtain ⟨dxg,hg'⟩:=id hg
  refine ⟨Nat.zero_le _,λd hd=>?_⟩
  have s0:=mY.new (o:=.lst []) hd
  refine ⟨_,rfl,l1,rfl,⟨_,SqL.of (s0 _ _ h1)⟩,bX (xs:=ts1) (λi σ H'=>∃ (x4 x5 x6 x7 x8 x9:Option V) (rs:List V),σ=[some (.ref g),some (.ref l1),some (.ref l2),some (.ref d),x4,x5,x6,x7,x8,x9]/\mY H H'/\H' d=some (.lst rs)/\og H' rs (gL (ps1.take i) ps2)) ?_ ?_ ?_ ?_⟩
  ·exact ⟨none,none,none,none,none,none,[],rfl,s0,ac,.nil⟩
  ·rintro i σ H' _ ⟨x4,x5,x6,x7,x8,x9,rs,rfl,sm,_⟩
   exact SqL.of (sm _ _ h1)
  ·rintro i v σ H1 hx ⟨x4,x5,x6,x7,x8,x9,rs,rfl,sm,hd1,tr⟩ N0 B0 hN0
   obtain ⟨p,ep,t,k,u,rfl,ht,hk,hu⟩:=p1.at_ hx
   have mp:p ∈ ps1:=mem_of_getElem? ep
   obtain ⟨sp,lp⟩:=ok1 p mp
   have hi:i<ts1.length:=(List.getElem?_eq_some_iff.mp hx).1
   refine ⟨t,_,rfl,SqT.of (sm _ _ ht),rfl,_,_,rfl,_,_,rfl,rfl,?_⟩
   refine ⟨_,rfl,g,dxg,_,rfl,sm _ _ hg',rfl,g,x,L,rfl,⟨dxg,sm _ _ hg'⟩,_,rfl,x,P,u,p.2,rfl,hN.mono λo e=>sm _ _ e,hu.same sm,λtf H2 s2 hf=>?_⟩
   have sm2:=sm.trans s2
   have hd2:=s2 _ _ hd1
   have tr2:=tr.mono λt xs e=>s2 _ _ e
   refine ⟨_,rfl,l2,rfl,⟨_,SqL.of (sm2 _ _ h2)⟩,bX (xs:=ts2) (λj σ H'=>∃ (x7 x8 x9:Option V) (rs:List V),σ=[some (.ref g),some (.ref l1),some (.ref l2),some (.ref d),some (.ref k),some u,some (.ref tf),x7,x8,x9]/\mY H H'/\Fr H' tf p.2/\H' d=some (.lst rs)/\og H' rs (gL (ps1.take i) ps2++mG p (ps2.take j))) ?_ ?_ ?_ ?_⟩
   ·exact ⟨_,_,_,rs,rfl,sm2,hf,hd2,by rw [take_zero]; show og H2 rs (gL (ps1.take i) ps2++[]); rw [append_nil]; exact tr2⟩
   ·rintro j σ H' _ ⟨x7,x8,x9,rs,rfl,sm',_⟩
    exact SqL.of (sm' _ _ h2)
   ·rintro j v' σ H3 hx' ⟨x7,x8,x9,rs',rfl,sm3,hf3,hd3,tr3⟩ N1 B1 hN1
    obtain ⟨p',ep',t',k',u',rfl,ht',hk',hu'⟩:=p2.at_ hx'
    have mp':p' ∈ ps2:=mem_of_getElem? ep'
    have sp':=ok2 p' mp'
    have hj:j<ts2.length:=(List.getElem?_eq_some_iff.mp hx').1
    refine ⟨t',_,rfl,SqT.of (sm3 _ _ ht'),rfl,_,_,rfl,_,_,rfl,rfl,?_⟩
    refine ⟨_,rfl,g,dxg,_,rfl,sm3 _ _ hg',rfl,g,x,L,rfl,⟨dxg,sm3 _ _ hg'⟩,_,rfl,x,P,u',p'.2,rfl,hN.mono λo e=>sm3 _ _ e,hu'.same sm3,λtg H4 s4 hf4=>?_⟩
    have sm4:=sm3.trans s4
    have hd4:=s4 _ _ hd3
    refine ⟨_,rfl,.inl ⟨rfl,_,SqL.of hd4⟩,_,rfl,_,rfl,k,k',p.1,p'.1,rfl,SqT.of (sm4 _ _ hk),SqT.of (sm4 _ _ hk'),by omega,λc H5 s5 hc=>?_⟩
    have hf5:=s5 _ _ (s4 _ _ hf3)
    have hg5:=s5 _ _ hf4
    have m1:IntMulOk p.2.1 p'.2.1:=du (sp.mono (by decide)).1 (sp'.mono (by decide)).1
    have m2:IntMulOk p.2.2 p'.2.2:=du (sp.mono (by decide)).2 (sp'.mono (by decide)).2
    refine ⟨_,rfl,tf,_,_,_,rfl,rfl,SqT.of hf5,rfl,_,rfl,tg,_,_,_,rfl,rfl,SqT.of hg5,rfl,_,_,rfl,rfl,m1,?_⟩
    refine ⟨_,rfl,tf,_,_,_,rfl,rfl,SqT.of hf5,rfl,_,rfl,tg,_,_,_,rfl,rfl,SqT.of hg5,rfl,_,_,rfl,rfl,m2,?_⟩
    refine ⟨(by show 3<=sizeLine; decide),λt7 n7=>?_⟩
    have s7:=mY.new (o:=.tup [.ref c,.int (p.2.1*p'.2.1),.int (p.2.2*p'.2.2)]) n7
    have hd7:=s7 _ _ (s5 _ _ hd4)
    have lr:rs'.length<=36:=by
     have e:=Paired.length tr3
     rw [length_append,trms_len] at e
     unfold mG at e
     rw [length_map,length_take,length_take] at e
     have h6:min i ps1.length*ps2.length<=5*6:=Nat.mul_le_mul (by omega) n2
     omega
    refine ⟨d,_,_,rfl,rfl,hd7,by rw [sizeLine_eq]; omega,?_⟩
    have k8:∀ c' o,(upd H5 t7 (.tup [.ref c,.int (p.2.1*p'.2.1),.int (p.2.2*p'.2.2)])) c'=some o->c' ≠ d->upd (upd H5 t7 (.tup [.ref c,.int (p.2.1*p'.2.1),.int (p.2.2*p'.2.2)])) d (.lst (rs' ++ [.ref t7])) c'=some o:=λc' o e hc=>by rw [am hc]; exact e
    have tk8:∀ c' xs,(upd H5 t7 (.tup [.ref c,.int (p.2.1*p'.2.1),.int (p.2.2*p'.2.2)])) c'=some (.tup xs)->upd (upd H5 t7 (.tup [.ref c,.int (p.2.1*p'.2.1),.int (p.2.2*p'.2.2)])) d (.lst (rs' ++ [.ref t7])) c'=some (.tup xs):=λc' xs e=>k8 c' _ e (bq e hd7 (by intro z; cases z))
    refine hN1 _ _ ⟨_,_,_,rs' ++ [.ref t7],rfl,λc' o e=>k8 c' o (s7 _ _ (s5 _ _ (sm4 _ _ e))) (ah e hd),tk8 _ _ (s7 _ _ hf5),ac,?_⟩
    have e9:mG p (ps2.take (j+1))=mG p (ps2.take j)++[(aU p.1 p'.1,(p.2.1*p'.2.1,p.2.2*p'.2.2))]:=by
     unfold mG; rw [take_add_one,ep',map_append]; rfl
    rw [e9,<- append_assoc]
    exact (og.snoc (q:=(aU p.1 p'.1,(p.2.1*p'.2.1,p.2.2*p'.2.2))) ⟨t7,c,rfl,ac,s7 _ _ hc⟩ (((tr3.mono λt xs e=>s4 _ _ e).mono λt xs e=>s5 _ _ e).mono λt xs e=>s7 _ _ e)).mono tk8
   ·rintro σ H3 ⟨x7,x8,x9,rs',rfl,sm3,hf3,hd3,tr3⟩
    refine hN0 _ _ ⟨_,_,_,_,_,_,rs',rfl,sm3,hd3,?_⟩
    rw [t2,take_length] at tr3
    have e9:gL (ps1.take (i+1)) ps2=gL (ps1.take i) ps2++mG p ps2:=by
     unfold gL; rw [take_add_one,ep,List.flatMap_append]; simp
    rw [e9]
    exact tr3
  ·rintro σ H1 ⟨x4,x5,x6,x7,x8,x9,rs,rfl,sm,hd1,tr⟩
   rw [t1,take_length] at tr
   exact ⟨_,rfl,q d rs H1 hd sm hd1 tr⟩
theorem of2_go {CF CR pP x:Addr} {P a b:Int} {H:Hp} {σ:L2.St} {R:VK} {ta:TE} {t:TA} (hP:nq P) (hN:nZ CF CR H x P) (hb:0<b) (hb1:P ≠ 0->b=1) (hs:b.natAbs<2 ^ 6000) (ha:∀ Z:VK,Z (.ref x) H->ta σ H Z) (ht:∀ Z:List V->Hp->Prop,Z [.int a,.int b] H->t σ H Z)
  (hR:∀ r H',mY H H'->At P H' r (val P (a,b))->R r H') :
  tOrE (fg CF "of" (fh pP) [] E0 ta t) (fg CR "of" (gh CR pP) [] E0 ta t) σ H R:=by
 unfold val at hR
 rcases hN with ⟨h0,dx,e⟩ | ⟨h0,dx,e⟩
 ·rw [if_pos h0] at hR
  refine .inl (ha _ ⟨x,dx,[],rfl,e,rfl,ht _ ⟨.ref x,a,b,rfl,λz=>absurd z (by omega),λ_=>⟨hs,λr nr=>?_⟩⟩⟩)
  exact hR _ _ (mY.new nr) (.inl ⟨h0,r,rfl,ac⟩)
 ·rw [if_neg h0] at hR
  have e1:=hb1 h0
  subst e1
  rcases hP with z | ⟨h2,h9,hp⟩
  ·exact absurd z h0
  have e1:(1:Int) % P=1:=Int.emod_eq_of_lt (by decide) (by omega)
  refine .inr (ha _ ⟨x,dx,_,rfl,e,mM (by decide +kernel) _,ht _ ⟨x,dx,P,a,1,rfl,e,h2,h9,hp,(λz=>absurd (e1.symm.trans z) (by decide)),λ_ r r0 r1 hr=>?_⟩⟩)
  rw [Int.mul_one,Int.emod_eq_of_lt r0 r1] at hr
  rw [hr]
  exact hR _ _ (mY.refl H) (.inr ⟨h0,rfl,rfl⟩)
def FrV (H:Hp) (v:V) (x:Int × Int):Prop:=∃ t,v=.ref t/\Fr H t x
theorem FrV.mono {H H':Hp} {v:V} {x:Int × Int} (k:∀ t xs,H t=some (.tup xs)->H' t=some (.tup xs)) (h:FrV H v x):FrV H' v x:=by
 obtain ⟨t,e,h1⟩:=h
 exact ⟨t,e,k _ _ h1⟩
theorem kv_at {H:Hp} {R:V->Int × Int->Prop}:∀ {kvs:List (List Key × V)} {m:List ak} {as:List Addr} {i:Nat} {x y:V},nG R kvs m->Paired (λ(a:Addr) (q:ak)=>H a=some (.tup (q.1.map V.int))) as m->((as.map V.ref).zip (kvs.map (·.2)))[i]? = some (x,y)->∃ a q,m[i]? = some q/\x=.ref a/\H a=some (.tup (q.1.map V.int))/\R y q.2
 | _,_,_,0,_,_,.cons q _,.cons p _,e=>by
  have e':=Option.some.inj e
  injection e' with e1 e2
  exact ⟨_,_,rfl,e1.symm,p,by rw [<- e2]; exact q.2⟩
 | _,_,_,i+1,_,_,.cons _ r,.cons _ s,e=>kv_at (i:=i) r s e
 | _,_,_,_,_,_,.nil,.nil,e=>by simp at e
theorem oA:mZ ["ring", "terms", "found", "product", "top", "bottom", "new", "numbers"] ["ring", "terms"] (al fN):=.i
theorem ok_gath {f CF CR CG pP:Addr} {fd:FuncData} (F:Fun K "gathered" "gathered" fN f fd) (tu:MtB P w K mg base 1 CG "numbers" (jH CG)) (rS:FnB P w K mg base 2 "fraction_plus" spFPlus) (wk:FnB P w K mg base 5 "sum_of" (spSum CF CR CG))
  (wf:kg P w K mg base 2 CF "of" [] (fh pP)) (xA:kg P w K mg base 2 CR "of" [] (gh CR pP)):nk P w K mg base CX0 6 f fd ["ring", "terms"] (spGath CF CR CG):=by
 refine F.o oA λ_ _ _ _ H _ Q _ hr h=>?_
 ·obtain ⟨g,x,l,P,L,ts,qs,rfl,hP,hg,hN,hl,hts,hn,hok,hgk,q⟩:=h
  have hB:=hP.b
  refine ⟨_,(ag (aq (i:=2) oA.nd rfl (Or.inl rfl) jI)
(ag (bp PassesOwn.never rfl (aM K rfl (pv 1)) (f8 rfl (by exact aI (by exact (aD (i:=3) oA.nd rfl (Or.inl rfl))) (by exact aI (by exact (aD (i:=4) oA.nd rfl (Or.inl rfl))) (by exact aI (by exact (aD (i:=5) oA.nd rfl (Or.inl rfl))) dW))))
(ag (aq (i:=6) oA.nd rfl (Or.inl rfl) (aL (aa (pv 4) (aa (pv 5) af))))
(aj (mh (hu1 hr) (pv 2) (pv 3) (pe_ifExp (pt_cmp (pc_din (hu1 hr) (pv 3) (pv 2))) (au rS hr.m (aa (dL (hu1 hr) (pv 2) (pv 3) (λ_ _=>rfl)) (aa (pv 6) af))) (pv 6)) rfl))))
(ag (aq (i:=7) oA.nd rfl (Or.inr rfl) (g7 tu hr.m (pv 0)))
(aj (ar (au wk hr.m (aa (pv 0) (aa (by exact aX (N:=["product", "fraction", "numbers"]) (src:=[none,none,some 7]) rfl rfl rfl (by exact (kpi_items K rfl (pv 2))) (λ_ _ _=>by exact ⟨by exact (bB K (i:=0) (j:=1) rfl rfl nd_13 rfl rfl rfl rfl),bj,by exact (aL (aa (pv 0) (aa (lM (js wf hr.m fc (pv 2) (aa (aA (ay K rfl) (pv 1) ae (λ_ _=>rfl)) (aa (aA (ay K rfl) (pv 1) ae (λ_ _=>rfl)) af))) (js xA hr.m fc (pv 2) (aa (aA (ay K rfl) (pv 1) ae (λ_ _=>rfl)) (aa (aA (ay K rfl) (pv 1) ae (λ_ _=>rfl)) af)))) af)))⟩)) af)))))))),?_⟩
  have lt:ts.length=qs.length:=Paired.length hts
  obtain ⟨dxg,hg'⟩:=id hg
  intro d hd
  have dl:d ≠ l:=λz=>by rw [z,hl] at hd; cases hd
  refine ⟨_,rfl,l,rfl,⟨_,SqL.of (by rw [am dl.symm]; exact hl)⟩,eZ (xs:=ts) (λi σ H'=>∃ (x3 x4 x5 x6:Option V) (kvs:List (List Key × V)),σ=[some (.ref g),some (.ref l),some (.ref d),x3,x4,x5,x6,none]/\mY H H'/\H' d=some (.dT kvs)/\nG (FrV H') kvs (bN (qs.take i))) ?_ ?_ ?_ ?_⟩
  ·exact ⟨none,none,none,none,[],rfl,mY.new hd,ac,.nil⟩
  ·rintro i σ H' _ ⟨x3,x4,x5,x6,kvs,rfl,sm,_⟩
   exact SqL.of (sm _ _ hl)
  ·rintro i v σ H1 hx ⟨x3,x4,x5,x6,kvs,rfl,sm,hd1,dr⟩
   obtain ⟨p,ep,t,k,rfl,ht,hk⟩:=hts.at_ hx
   have mp:p ∈ qs:=mem_of_getElem? ep
   have op:=hok p mp
   have hi:i<ts.length:=(List.getElem?_eq_some_iff.mp hx).1
   have okm:=hgk i (by omega)
   refine ⟨t,_,rfl,SqT.of (sm _ _ ht),rfl,_,_,rfl,_,_,rfl,_,_,rfl,rfl,?_⟩
   refine ⟨_,rfl,_,rfl,(by show 2<=sizeLine; decide),λnw nn=>?_⟩
   have s2:=mY.new (o:=.tup [.int p.2.1,.int p.2.2]) nn
   have hw2:(upd H1 nw (.tup [.int p.2.1,.int p.2.2])) nw=some (.tup [.int p.2.1,.int p.2.2]):=ac
   have hd2:=s2 _ _ hd1
   have dr2:nG (FrV (upd H1 nw (.tup [.int p.2.1,.int p.2.2]))) kvs (bN (qs.take i)):=dr.mono λv x z=>z.mono λt xs e=>s2 _ _ e
   have sm2:=sm.trans s2
   generalize upd H1 nw (.tup [.int p.2.1,.int p.2.2])=H2 at *
   have hk2:H2 k=some (.tup ((kI p.1).map kV)):=by rw [kl]; exact sm2 _ _ hk
   have hlen:kvs.length<sizeLine:=by
    have h1:kvs.length=(bN (qs.take i)).length:=Paired.length dr2
    have h2:=gp qs i
    rw [h1,sizeLine_eq]
    omega
   have fin:∀ r3 H3 y3,mY H2 H3->Fr H3 r3 y3->iC (bN (qs.take i)) p=cW (bN (qs.take i)) p.1 y3->∃ (x3 x4 x5 x6:Option V) (kvs':List (List Key × V)),[some (V.ref g),some (.ref l),some (.ref d),some (.ref k),some (.int p.2.1),some (.int p.2.2),some (.ref nw),none]=[some (.ref g),some (.ref l),some (.ref d),x3,x4,x5,x6,none]/\mY H (upd H3 d (.dT (bU kvs (kI p.1) (.ref r3))))/\(upd H3 d (.dT (bU kvs (kI p.1) (.ref r3)))) d=some (.dT kvs')/\nG (FrV (upd H3 d (.dT (bU kvs (kI p.1) (.ref r3))))) kvs' (bN (qs.take (i+1))):=λr3 H3 y3 s3 a3 eg=>by
    have d3:H3 d=some (.dT kvs):=s3 _ _ hd2
    have keep:∀ c o,H3 c=some o->c ≠ d->upd H3 d (.dT (bU kvs (kI p.1) (.ref r3))) c=some o:=λc o e hc=>by rw [am hc]; exact e
    have tk3:∀ t xs,H3 t=some (.tup xs)->upd H3 d (.dT (bU kvs (kI p.1) (.ref r3))) t=some (.tup xs):=λt xs e=>keep t _ e (bq e d3 (by intro z; cases z))
    refine ⟨_,_,_,_,_,rfl,λc o e=>keep c o (s3 _ _ (sm2 c o e)) (ah e hd),ac,?_⟩
    rw [dm ep,eg]
    exact nG.put ⟨r3,rfl,tk3 _ _ a3⟩ (dr2.mono λv x z=>(z.mono λt xs e=>s3 _ _ e).mono tk3)
   have put:∀ r3 H3,mY H2 H3->DPut H3 d (.ref k) r3 (upd H3 d (.dT (bU kvs (kI p.1) r3))):=λr3 H3 s3=>DPut.t (k:=kI p.1) (s3 _ _ hd2) (s3 _ _ hk2) hlen
   refine ⟨_,rfl,_,rfl,d,_,rfl,DGet.t hd2 hk2,_,rfl,?_⟩
   rcases dr2.val p.1 with ⟨e1,e2⟩ | ⟨v,y,e1,e2,ra⟩
   ·rw [e1]
    refine bx ⟨_,rfl,_,rfl,_,rfl,d,_,rfl,put _ H2 (mY.refl _),fin nw H2 p.2 (mY.refl _) hw2 ?_⟩
    unfold iC
    rw [e2]
   ·rw [e1]
    obtain ⟨tv,rfl,hv⟩:=ra
    have oy:=okm _ (bh e2)
    refine bH ⟨_,rfl,_,rfl,d,_,rfl,(by rw [<- e1]; exact DGet.t hd2 hk2),_,rfl,tv,nw,y,p.2,rfl,hv,hw2,oy.1,op.1,oy.2.2,op.2.2,λr nr=>?_⟩
    refine ⟨_,rfl,_,rfl,d,_,rfl,put _ _ (mY.new nr),fin r _ (fpl y p.2) (mY.new nr) ac ?_⟩
    unfold iC
    rw [e2]
  ·rintro σ H1 ⟨x3,x4,x5,x6,kvs,rfl,sm,hd1,dr⟩
   rw [lt,take_length] at dr
   have okm:∀ p ∈ bN qs,TOk P 2900 p:=λp hp=>hgk qs.length (Nat.le_refl _) p (by rw [take_length]; exact hp)
   have evm:vm P (bN qs)=acc P (vm P qs):=by
    have:=gath_vm hB.1 hok qs.length (Nat.le_refl _)
    rw [take_length] at this
    exact this
   have gl:(bN qs).length<=60:=by
    have:=gp qs qs.length
    rw [take_length] at this
    omega
   have ndv:((vm P (bN qs)).map (·.1)).Nodup:=by rw [evm]; exact fj P _
   have okv:∀ p ∈ vm P (bN qs),OkN P p.2/\Sz 2900 p.2:=λp hp=>by
    obtain ⟨q',hq,rfl⟩:=List.mem_map.mp hp
    have h:=okm q' hq
    exact ⟨val_ok hB.1 h.1,val_sz hP h.1 (by decide) h.2.2⟩
   have isv:∀ out,nO P (vm P (bN qs)) out->nO P (vm P qs) out:=λout h=>by
    unfold nO at h ⊢
    rw [ft ndv λp hp=>(okv p hp).1,evm] at h
    exact h
   generalize bN qs=m at *
   refine ⟨_,rfl,g,dxg,_,rfl,sm _ _ hg',rfl,g,x,L,rfl,⟨dxg,sm _ _ hg'⟩,?_⟩
   refine ⟨_,rfl,_,rfl,.inr (.inr (.inl ⟨rfl,.inr ⟨_,hd1⟩⟩)),d,kvs,rfl,rfl,hd1,λvw nv=>?_⟩
   have s2:=mY.new (o:=li vw d) nv
   refine ⟨vw,d,kvs,rfl,ac,s2 _ _ hd1,λo as pk=>?_⟩
   have hd2:=s2 _ _ hd1
   have dr2:nG (FrV (upd H1 vw (li vw d))) kvs m:=dr.mono λv x z=>z.mono λt xs e=>s2 _ _ e
   have sm2:=sm.trans s2
   generalize upd H1 vw (li vw d)=H2 at *
   have tp:=dr2.tups pk
   have la:as.length=m.length:=Paired.length tp
   have lk:kvs.length=m.length:=Paired.length dr2
   have lkv:((as.map V.ref).zip (kvs.map (·.2))).length=m.length:=by
    rw [List.length_zip,length_map,length_map,la,lk,Nat.min_self]
   have keep:∀ c u,H2 c=some u->c ≠ d->upd H2 d (.frz o (.dT kvs)) c=some u:=λc u e hc=>by rw [am hc]; exact e
   have tk:∀ t xs,H2 t=some (.tup xs)->upd H2 d (.frz o (.dT kvs)) t=some (.tup xs):=λt xs e=>keep t _ e (bq e hd2 (by intro z; cases z))
   have smF:mY H (upd H2 d (.frz o (.dT kvs))):=λc u e=>keep c u (sm2 c u e) (ah e hd)
   have hfz:upd H2 d (.frz o (.dT kvs)) d=some (.frz o (.dT kvs)):=ac
   generalize hHF:upd H2 d (.frz o (.dT kvs))=HF at *
   refine be (n:=m.length) (σ0:=[none,none,some (.ref x)]) rfl (λacc i ws σ H'=>∃ a b:Option V,σ=[a,b,some (.ref x)]/\mY HF H'/\nj P H' ws (vm P (m.take i))) (by rw [sizeLine_eq]; omega) (λacc hacc=>⟨none,none,rfl,mY.new hacc,.nil⟩) ?_ ?_ ?_ ?_
   ·rintro acc i ws σ H' hacc hi hz ⟨a,b,rfl,sm',_⟩
    exact ⟨sm' _ _ hfz,by rw [lkv]; exact hi⟩
   ·rintro acc ws σ H' hacc hz ⟨a,b,rfl,sm',_⟩
    exact ⟨sm' _ _ hfz,by rw [lkv]; exact Nat.le_refl _⟩
   ·rintro acc i ws σ H9 x' H' hacc hi hz hzl ⟨a,b,rfl,sm',pr⟩ ⟨pt,kx,ky,rfl,npt,rfl,hkv⟩
    obtain ⟨ka,q',eq',rfl,hka,ty,rfl,hty⟩:=kv_at dr2 tp hkv
    have mq:q' ∈ m:=mem_of_getElem? eq'
    have oq:=okm q' mq
    have s9:=mY.new (o:=.tup [.ref ka,.ref ty]) npt
    have hka9:=s9 _ _ (sm' _ _ (tk _ _ hka))
    have hty9:=s9 _ _ (sm' _ _ (tk _ _ hty))
    have sF9:=sm'.trans s9
    refine ⟨pt,_,rfl,SqT.of ac,rfl,_,_,rfl,_,_,rfl,rfl,?_⟩
    refine ⟨_,rfl,of2_go hP (hN.mono λo e=>sF9 _ _ (smF _ _ e)) oq.1 oq.2.1 (Nat.lt_trans oq.2.2.2 gP) (λZ z=>⟨_,rfl,z⟩) (λZ z=>⟨_,rfl,ty,_,_,_,rfl,rfl,SqT.of hty9,rfl,_,rfl,ty,_,_,_,rfl,rfl,SqT.of hty9,rfl,z⟩) λr3 H3 s4 a3=>?_⟩
    refine ⟨by show 2<=sizeLine; decide,λt' nt=>?_⟩
    have s5:=mY.new (o:=.tup [.ref ka,r3]) nt
    have hz4:=s5 _ _ (s4 _ _ (s9 _ _ hz))
    have keep4:∀ c o,(upd H3 t' (.tup [.ref ka,r3])) c=some o->c ≠ acc->upd (upd H3 t' (.tup [.ref ka,r3])) acc (.lst (ws++[.ref t'])) c=some o:=λc o e hc=>by rw [am hc]; exact e
    have tk4:∀ c xs,(upd H3 t' (.tup [.ref ka,r3])) c=some (.tup xs)->upd (upd H3 t' (.tup [.ref ka,r3])) acc (.lst (ws++[.ref t'])) c=some (.tup xs):=λc xs e=>keep4 c _ e (bq e hz4 (by intro z; cases z))
    have s45:=s4.trans s5
    refine ⟨ws,hz4,by rw [sizeLine_eq]; omega,_,ac,by rw [length_append,length_singleton]; omega,_,_,rfl,λc o e=>keep4 c o (s45 _ _ (sF9 c o e)) (ah e hacc),?_⟩
    have e9:vm P (m.take (i+1))=vm P (m.take i)++[(q'.1,val P q'.2)]:=by
     unfold vm; rw [take_add_one,eq',map_append]; rfl
    rw [e9]
    exact (nj.snoc (p:=(q'.1,val P q'.2)) ⟨t',ka,r3,rfl,ac,s45 _ _ hka9,a3.same s5⟩ ((pr.mono λt xs e=>s9 _ _ e).mono λt xs e=>s45 _ _ e)).mono tk4
   ·rintro acc ws σ H' hacc hz hzl ⟨a,b,rfl,sm',pr⟩
    rw [take_length] at pr
    have sH:=smF.trans sm'
    refine ⟨g,x,acc,P,L,ws,vm P m,rfl,hP,⟨dxg,sH _ _ hg'⟩,hN.mono λo e=>sH _ _ e,hz,pr,by unfold vm; rw [length_map]; omega,iD ndv okv,λd' rs out H3 nd' s3 hd' po is=>?_⟩
    exact q d' rs out H3 (sH.free nd') (sH.trans s3) hd' po (isv out is)
theorem sc_times:mZ ["ring", "one", "other"] ["ring", "one", "other"] (al mQ):=.i
theorem ok_timesS {f CF CR CG:Addr} {fd:FuncData} (F:Fun K "times" "times" mQ f fd) (uu:FnB P w K mg base 6 "gathered" (spGath CF CR CG)) (rV:FnB P w K mg base 3 "product_terms" (spTerms CF CR CG)):nk P w K mg base CX0 7 f fd ["ring", "one", "other"] (spTimesS CF CR CG):=by
 refine F.o sc_times λ_ _ _ _ H _ Q _ hr h=>?_
 ·obtain ⟨g,x,l1,l2,P,L,n,ts1,ts2,ps1,ps2,rfl,hP,hg,hN,h1,p1,h2,p2,n1,n2,nd,ok1,ok2,q⟩:=h
  refine ⟨_,(aj (ar (au uu hr.m (aa (pv 0) (aa (au rV hr.m (aa (pv 0) (aa (pv 1) (aa (pv 2) af)))) af))))),?_⟩
  refine ⟨_,rfl,_,rfl,_,rfl,_,rfl,g,x,l1,l2,P,L,ts1,ts2,ps1,ps2,rfl,hP,hg,hN,h1,p1,h2,p2,n1,by omega,λp hp=>⟨(ok1 p hp).2.1,(ok1 p hp).2.2.2⟩,λp hp=>(ok2 p hp).2.1,λd rs H1 nd' s1 hd tr=>?_⟩
  obtain ⟨dxg,hg'⟩:=hg
  have h6:ps1.length*ps2.length<=6*2:=Nat.mul_le_mul n1 n2
  have tok:=trms_ok2 (λp hp=>⟨(ok1 p hp).1,(ok1 p hp).2.1⟩) (λp hp=>⟨(ok2 p hp).1,(ok2 p hp).2.1⟩)
  refine ⟨g,x,d,P,L,rs,gL ps1 ps2,rfl,hP,⟨dxg,s1 _ _ hg'⟩,hN.mono λo e=>s1 _ _ e,hd,tr,by rw [trms_len]; omega,λq hq=>⟨(tok q hq).1,(tok q hq).2.1,(tok q hq).2.2.mono (by decide)⟩,gath_n tok (n:=2) (λk=>Nat.le_trans (cnt_trms k nd (λp hp=>(ok1 p hp).2.2.1) λp hp=>(ok2 p hp).2.2) n2) (by decide),λd' rs' out H2 nd' s2 hd' po is=>?_⟩
  rw [vm_trms] at is
  exact q d' rs' out H2 (s1.free nd') (s1.trans s2) hd' po is
theorem nd_14:(["entry", "ring", "one"]:List Str).Nodup:=by decide +kernel
theorem nd_15:(["_law_row"]:List Str).Nodup:=by decide +kernel
def EMul (P:Int) (n:Nat) (e:List ak):Prop:=e.length<=6/\(e.map (·.1)).Nodup/\∀ p ∈ e,OkN P p.2/\Sz 250 p.2/\p.1.length=n/\p.1.length<=10
def MMul (P:Int) (n:Nat) (m:List ak):Prop:=m.length<=2/\∀ p ∈ m,OkN P p.2/\Sz 31 p.2/\p.1.length=n
def jM (CF CR CG:Addr):Sp:=λvs H Q _=>∃ (g x r l:Addr) (P L:Int) (n:Nat) (es ts:List V) (row:List (List ak)) (m:List ak),vs=[.ref g,.ref r,.ref l]/\nq P/\gf CG H g x L/\nZ CF CR H x P/\H r=some (.lst es)/\Paired (ou P H) es row/\H l=some (.lst ts)/\nj P H ts m/\row.length<=60/\(∀ e ∈ row,EMul P n e)/\MMul P n m/\
 ∀ (d:Addr) (es':List V) (out:List (List ak)) (H':Hp),H d=none->mY H H'->H' d=some (.lst es')->Paired (nB H d P H') es' out->out.length=row.length->(∀ (i:Nat) (e:List ak),out[i]? = some e->∃ a,row[i]? = some a/\nO P (bd P a m) e)->Q (.ref d) H'
theorem lD:mZ ["ring", "row", "one"] ["ring", "row", "one"] (al eX):=.i
theorem ok_rowtimes {f CF CR CG:Addr} {fd:FuncData} (F:Fun K "row_times" "row_times" eX f fd) (wY:FnB P w K mg base 7 "times" (spTimesS CF CR CG)):nk P w K mg base CX0 8 f fd ["ring", "row", "one"] (jM CF CR CG):=by
 refine F.o lD λ_ _ _ _ H _ Q _ hr h=>?_
 ·obtain ⟨g,x,r,l,P,L,n,es,ts,row,m,rfl,hP,⟨dxg,hg⟩,hN,h1,p1,hl,pm,hn,ok,⟨m2,om⟩,q⟩:=h
  have l1:es.length=row.length:=Paired.length p1
  refine ⟨_,(aj (ar (by exact aX (N:=["entry", "ring", "one"]) (src:=[none,some 0,some 2]) rfl rfl rfl (by exact (aM K rfl (pv 1))) (λ_ _ _=>by exact ⟨by exact (bM (i:=0) nd_14 rfl rfl),bj,by exact (au wY hr.m (aa (pv 1) (aa (pv 0) (aa (pv 2) af))))⟩)))),?_⟩
  refine ⟨_,rfl,r,rfl,⟨_,SqL.of h1⟩,kh (P:=P) (rest:=[some (.ref g),some (.ref l)]) rfl (λi e=>∃ a,row[i]? = some a/\nO P (bd P a m) e) h1 (by omega) (λi v H1 R e1 sm k=>?_) λd es' out H1 nd sm hd pr lr rel=>q d es' out H1 nd sm hd pr (by omega) rel⟩
  obtain ⟨a,ea,la,ts1,rfl,ha,pa⟩:=aO p1 e1
  obtain ⟨e6,en,eo⟩:=ok a (mem_of_getElem? ea)
  exact ⟨_,rfl,_,rfl,_,rfl,g,x,la,l,P,L,n,ts1,ts,a,m,rfl,hP,⟨dxg,sm _ _ hg⟩,hN.mono λo e=>sm _ _ e,sm _ _ ha,pa.mono λt xs e=>sm _ _ e,sm _ _ hl,pm.mono λt xs e=>sm _ _ e,e6,m2,en,λp hp=>⟨(eo p hp).1,(eo p hp).2.1.mono (by decide),(eo p hp).2.2⟩,λp hp=>⟨(om p hp).1,(om p hp).2.1.mono (by decide),(om p hp).2.2⟩,λd rs out H2 nd s2 hd po is=>k d rs out H2 s2 nd hd po ⟨a,ea,is⟩⟩
def EntS (P L:Int) (h c:Int) (e:List ak):Prop:=ow P L 45 e/\e.length<=3/\∀ q ∈ e,q.1.sum+c=h
def spSpread:Sp:=λvs H Q _=>∃ (p c:Addr) (P L h a b:Int) (k:Nat) (cs:List Int),vs=[.int P,.int L,.ref c,.int h,.ref p]/\nq P/\1<=L/\L<=4/\H c=some (.lst (cs.map V.int))/\c ≠ p/\cs.length<=3/\H p=some (.lst [.int a,.int b])/\nE a b k/\k<=50000/\
 ∀ (r:Addr) (es:List V) (row:List (List ak)) (a' b':Int) (H':Hp),H r=none->H' r=some (.lst es)->Paired (nB H r P H') es row->Paired (EntS P L h) cs row->H' p=some (.lst [.int a',.int b'])->nE a' b' (k+300)->(∀ c o,H c=some o->c ≠ p->H' c=some o)->Q (.ref r) H'
def SpOk (P L d:Int) (q:ak):Prop:=OkN P q.2/\Sz 14 q.2/\(q.1.length:Int)=L/\(∀ e ∈ q.1,0<=e)/\q.1.sum=d
theorem ent_spread {P L d:Int} (hP:nq P) {n:Nat} {ps out:List ak} (hn:ps.length<=n) (ok:∀ q ∈ ps,SpOk P L d q) (is:nO P ps out):ow P L (15*n) out/\out.length<=n/\∀ q ∈ out,q.1.sum=d:=by
 obtain ⟨c,l,fr⟩:=canon_n hP (S:=14) (n:=n) (by decide) (λq hq=>⟨(ok q hq).1,(ok q hq).2.1,(ok q hq).2.2.1,(ok q hq).2.2.2.1⟩) hn is
 refine ⟨c,l,λq hq=>?_⟩
 obtain ⟨r,hr,e⟩:=fr q hq
 rw [<- e]
 exact (ok r hr).2.2.2.2
theorem lN {P L d:Int} (hP:nq P) {ps:List ak} (hn:ps.length<=3) (ok:∀ q ∈ ps,SpOk P L d q):iz P ps:=sumOk_n hP (S:=14) (n:=3) (by decide) (λq hq=>⟨(ok q hq).1,(ok q hq).2.1⟩) hn (by decide) (by decide)
theorem oh:mZ ["_law_prime_here", "_law_letters", "_law_columns_here", "_law_height", "_law_bag_here", "_law_row", "_law_column", "_law_some", "_law_k"] ["_law_prime_here", "_law_letters", "_law_columns_here", "_law_height", "_law_bag_here"] (al bP):=.i
set_option maxHeartbeats 4000000 in
theorem ok_spread {f:Addr} {fd:FuncData} (F:Fun K "_law_spread_row" "_law_spread_row" bP f fd) (T:Blt mg) (pO:FnB P w K mg base 1 "_law_take" bQ) (p5:FnB P w K mg base 4 "_law_number" fB) (pW:FnB P w K mg base 2 "_law_product" l6) (qf:FnB P w K mg base 4 "_law_sum" mv) :
  nk P w K mg base CX0 5 f fd ["_law_prime_here", "_law_letters", "_law_columns_here", "_law_height", "_law_bag_here"] spSpread:=by
 refine F.o oh λ_ _ _ _ H _ Q _ hr h=>?_
 ·obtain ⟨p,c,P,L,h,a,b,k,cs,rfl,hP,L1,L4,hc,cp,c3,hp,hb,hk,q⟩:=h
  have hB:=hP.b
  refine ⟨_,(ag (aq (i:=5) oh.nd rfl (Or.inl rfl) (aQ af))
(ag (bp PassesOwn.never rfl (aM K rfl (pv 2)) (aD (i:=6) oh.nd rfl (Or.inl rfl))
(ag (aq (i:=7) oh.nd rfl (Or.inl rfl) (aQ af))
(ag (aJ (pt_chain jO jO ae (ao aS (pv 3) (pv 6)) ae)
(aj (bp PassesOwn.never rfl (bu rfl T.range (aa (au pO hr.m (aa (pv 4) (aa ae af))) af)) (aD (i:=8) oh.nd rfl (Or.inl rfl))
(aj (cE (bmA K rfl (pv 7) (aa (aL (aa (au pW hr.m (aa (pv 1) (aa (ao aS (pv 3) (pv 6)) (aa (pv 4) af)))) (aa (au p5 hr.m (aa (pv 0) (aa (pv 4) (aa fH af)))) af))) af))))))
aB)
(aj (cE (bmA K rfl (pv 5) (aa (au qf hr.m (aa (pv 0) (aa (pv 7) af))) af)))))))
(aj (ar (pv 5))))),?_⟩
  refine ⟨Nat.zero_le _,λr nr=>?_⟩
  have rp:r ≠ p:=(ah hp nr).symm
  have hr3:(upd H r (.lst [])) r=some (.lst []):=ac
  have s3:=mY.new (o:=.lst []) nr
  have hp3:=s3 _ _ hp
  generalize upd H r (.lst [])=H3 at *
  refine ⟨_,rfl,c,rfl,⟨_,SqL.of (s3 _ _ hc)⟩,bX (xs:=cs.map V.int) (λj σ H'=>∃ (es:List V) (row:List (List ak)) (a b:Int) (x6 x7 x8:Option V),σ=[some (.int P),some (.int L),some (.ref c),some (.int h),some (.ref p),some (.ref r),x6,x7,x8]/\
    H' r=some (.lst es)/\Paired (nB H r P H') es row/\Paired (EntS P L h) (cs.take j) row/\H' p=some (.lst [.int a,.int b])/\nE a b (k+60*j)/\∀ c o,H c=some o->c ≠ p->H' c=some o) ?_ ?_ ?_ ?_⟩
  ·exact ⟨[],[],a,b,none,none,none,rfl,hr3,.nil,by rw [take_zero]; exact .nil,hp3,hb,λc o e _=>s3 c o e⟩
  ·rintro j σ H' _ ⟨es,row,a,b,x6,x7,x8,rfl,_,_,_,_,_,kp⟩
   exact SqL.of (kp _ _ hc cp)
  ·rintro j v σ H4 hx ⟨es,row,a4,b4,x6,x7,x8,rfl,hr4,pr4,ok4,hp4,hb4,kp4⟩ N0 B0 hN0
   obtain ⟨cj,ecj,rfl⟩:=cD hx
   have jl:j<cs.length:=(List.getElem?_eq_some_iff.mp ecj).1
   have lrow:row.length=j:=by rw [<- Paired.length ok4,length_take]; omega
   have les:es.length=row.length:=Paired.length pr4
   refine ⟨Nat.zero_le _,λso ns=>?_⟩
   have sp:so ≠ p:=(ah hp4 ns).symm
   have sr:so ≠ r:=(ah hr4 ns).symm
   have s5:=mY.new (o:=.lst []) ns
   have hs5:(upd H4 so (.lst [])) so=some (.lst []):=ac
   have hp5:=s5 _ _ hp4
   generalize upd H4 so (.lst [])=H5 at *
   dsimp only
   refine gm (t:=hV _ _ _) (λσ' H'=>∃ (ts:List V) (ps:List ak) (a b:Int) (x8:Option V),σ'=[some (.int P),some (.int L),some (.ref c),some (.int h),some (.ref p),some (.ref r),some (.int cj),some (.ref so),x8]/\H' so=some (.lst ts)/\nj P H' ts ps/\ps.length<=3/\(∀ q ∈ ps,SpOk P L (h-cj) q)/\H' p=some (.lst [.int a,.int b])/\nE a b (k+60*j+50)/\∀ c o,H4 c=some o->c ≠ p->H' c=some o) (λR hR=>?_) ?_
   ·refine ⟨_,rfl,_,rfl,_,_,rfl,rfl,_,_,rfl,rfl,_,rfl,?_⟩
    have none5:∀ c o,H4 c=some o->c ≠ p->H5 c=some o:=λc o e _=>s5 c o e
    by_cases h1:0<=h-cj
    ·rw [decide_eq_true h1]
     refine bH ⟨_,_,rfl,rfl,_,rfl,?_⟩
     by_cases h2:h-cj<=6
     ·rw [decide_eq_true h2]
      refine bH ⟨_,rfl,p,a4,b4,_,_,rfl,hp5,hb4,by omega,by omega,aC (by omega) (by omega),λn6 a6 b6 n60 n61 hb6=>?_⟩
      have k6:∀ c o,H5 c=some o->c ≠ p->upd H5 p (.lst [.int a6,.int b6]) c=some o:=λc o e hc=>by rw [am hc]; exact e
      have hp6:(upd H5 p (.lst [.int a6,.int b6])) p=some (.lst [.int a6,.int b6]):=ac
      have hs6:=k6 _ _ hs5 sp
      generalize upd H5 p (.lst [.int a6,.int b6])=H6 at *
      refine ⟨n6,rfl,by omega,by omega,dG (n:=n6.toNat) (λm σ H'=>∃ (ts:List V) (ps:List ak) (a b:Int) (x8:Option V),σ=[some (.int P),some (.int L),some (.ref c),some (.int h),some (.ref p),some (.ref r),some (.int cj),some (.ref so),x8]/\H' so=some (.lst ts)/\nj P H' ts ps/\ps.length=m/\(∀ q ∈ ps,SpOk P L (h-cj) q)/\H' p=some (.lst [.int a,.int b])/\nE a b (k+60*j+1+12*m)/\∀ c o,H6 c=some o->c ≠ p->c ≠ so->H' c=some o) ?_ ?_ ?_⟩
      ·exact ⟨[],[],a6,b6,_,rfl,hs6,.nil,rfl,λq hq=>absurd hq (by simp),hp6,hb6,λc o e _ _=>e⟩
      ·rintro m σ H7 hm ⟨ts,ps,a7,b7,y8,rfl,hs7,pr7,ln7,ok7,hp7,hb7,kp7⟩ N1 B1 hN1
       refine ⟨_,rfl,.inl ⟨rfl,_,SqL.of hs7⟩,?_⟩
       refine ⟨_,rfl,_,rfl,_,rfl,_,_,rfl,rfl,_,rfl,p,L,_,a7,b7,_,rfl,L1,L4,h1,by omega,hp7,hb7,by omega,λt es9 a9 b9 H9 le9 nn9 sm9 ht9 hp9 hb9 kp9=>?_⟩
       refine ⟨_,rfl,_,rfl,p,P,a9,b9,_,rfl,hP,hp9,hb9,by omega,λv x a10 b10 H10 av ox sx hp10 hb10 kp10=>?_⟩
       have sx14:=l3 hP ox sx
       refine ⟨(by show 2<=sizeLine; decide),λt11 n11=>?_⟩
       have s11:=mY.new (o:=.tup [.ref t,v]) n11
       have h11:(upd H10 t11 (.tup [.ref t,v])) t11=some (.tup [.ref t,v]):=ac
       generalize upd H10 t11 (.tup [.ref t,v])=H11 at *
       have ka:m5 [p] H9 H11:=(m5.bag hp9 kp10 (by simp)).trans (.of s11)
       have kb:m5 [p] H7 H11:=(m5.bag hp7 kp9 (by simp)).trans ka
       have hs11:=kb.2 _ _ hs7 (by simp [sp])
       refine ⟨so,_,_,rfl,rfl,hs11,by rw [Paired.length pr7,ln7,sizeLine_eq]; omega,?_⟩
       have kc:m5 [so] H11 (upd H11 so (.lst (ts++[.ref t11]))):=m5.put hs11 (by simp)
       refine hN1 _ _ ⟨ts++[.ref t11],ps++[(es9,x)],a10,b10,_,rfl,ac,nj.snoc ⟨t11,t,v,rfl,kc.1 _ _ h11,kc.1 _ _ (ka.1 _ _ ht9),((av.mono λt xs e=>s11 _ _ e).mono kc.1)⟩ ((pr7.mono kb.1).mono kc.1),by rw [length_append,ln7]; rfl,λq hq=>?_,by rw [am sp.symm]; exact s11 _ _ hp10,hb10.mono (by omega),λc o e hc hcs=>?_⟩
       ·rcases List.mem_append.mp hq with z | z
        ·exact ok7 q z
        ·rw [List.mem_singleton.mp z]
         exact ⟨ox,sx14,le9,nn9,by show es9.sum=h-cj; omega⟩
       ·rw [am hcs]
        exact s11 _ _ (kp10 c o (kp9 c o (kp7 c o e hc hcs) hc) hc)
      ·rintro σ H7 ⟨ts,ps,a7,b7,y8,rfl,hs7,pr7,ln7,ok7,hp7,hb7,kp7⟩
       exact hR _ _ ⟨ts,ps,a7,b7,_,rfl,hs7,pr7,by omega,ok7,hp7,hb7.mono (by omega),λc o e hc=>kp7 c o (k6 c o (s5 c o e) hc) hc (ah e ns)⟩
     ·rw [decide_eq_false h2]
      exact bx (hR _ _ ⟨[],[],a4,b4,_,rfl,hs5,.nil,by decide,λq hq=>absurd hq (by simp),hp5,hb4.mono (by omega),none5⟩)
    ·rw [decide_eq_false h1]
     exact bx ⟨_,rfl,bx (hR _ _ ⟨[],[],a4,b4,_,rfl,hs5,.nil,by decide,λq hq=>absurd hq (by simp),hp5,hb4.mono (by omega),none5⟩)⟩
   rintro σ' H6 ⟨ts,ps,a6,b6,x8',rfl,hs6,pr6,ln6,ok6,hp6,hb6,kp6⟩
   have hr6:=kp6 _ _ hr4 rp
   refine ⟨_,rfl,.inl ⟨rfl,_,SqL.of hr6⟩,?_⟩
   refine ⟨_,rfl,_,rfl,so,P,ts,ps,rfl,hP,hs6,pr6,by omega,lN hP ln6 ok6,λd rs out H7 nd s7 hd po is=>?_⟩
   have hr7:=s7 _ _ hr6
   have dr:d ≠ r:=(ah hr6 nd).symm
   refine ⟨r,_,_,rfl,rfl,hr7,by rw [les,lrow,sizeLine_eq]; omega,?_⟩
   have ka:m5 [p,r] H4 (upd H7 r (.lst (es++[.ref d]))):=((m5.bag hp4 kp6 (by simp)).trans (.of s7)).trans (m5.put hr7 (by simp))
   have kb:m5 [p,r] H7 (upd H7 r (.lst (es++[.ref d]))):=m5.put hr7 (by simp)
   refine hN0 _ _ ⟨es++[.ref d],row++[out],a6,b6,_,_,_,rfl,ac,aH ?_ (ap (λ_ _=>nB.keep hp ka) pr4),?_,by rw [am rp.symm]; exact s7 _ _ hp6,hb6.mono (by omega),λc o e hc=>?_⟩
   ·exact ⟨d,rs,rfl,bb (λc o e hc=>kp6 c o (kp4 c o e hc) hc) hp6 nd,dr,by rw [am dr]; exact hd,po.mono kb.1⟩
   ·rw [take_add_one,ecj]
    obtain ⟨z1,z2,z3⟩:=ent_spread hP ln6 ok6 is
    exact aH ⟨z1,z2,λq hq=>by rw [z3 q hq]; omega⟩ ok4
   ·rw [am (ah e nr)]
    exact s7 _ _ (kp6 c o (kp4 c o e hc) hc)
  rintro σ H4 ⟨es,row,a4,b4,x6,x7,x8,rfl,hr4,pr4,ok4,hp4,hb4,kp4⟩
  rw [length_map] at ok4 hb4
  rw [take_length] at ok4
  exact ⟨_,rfl,q r es row a4 b4 H4 nr hr4 pr4 ok4 hp4 (hb4.mono (by omega)) kp4⟩
def RowF (H0:Hp) (d:Addr) (P:Int) (H:Hp) (v:V) (row:List (List ak)):Prop:=∃ r es,v=.ref r/\H0 r=none/\r ≠ d/\H r=some (.lst es)/\Paired (nB H0 d P H) es row
theorem RowF.keepA {H0:Hp} {av:List Addr} {d:Addr} {P:Int} {H H':Hp} {v:V} {row:List (List ak)} (hav:∀ a ∈ av,a=d\/H0 a ≠ none) (k:m5 av H H') (h:RowF H0 d P H v row):RowF H0 d P H' v row:=by
 obtain ⟨r,es,rfl,h0,rd,hr,pe⟩:=h
 refine ⟨r,es,rfl,h0,rd,k.2 _ _ hr λz=>?_,ap (λ_ _=>nB.keepA hav k) pe⟩
 rcases hav r z with e | e
 ·exact rd e
 ·exact e h0
def spCopied:Sp:=λvs H Q _=>∃ (t:Addr) (P:Int) (ws:List V) (rows:List (List (List ak))),vs=[.ref t]/\H t=some (.lst ws)/\Paired (ot P H) ws rows/\ws.length<=60/\(∀ row ∈ rows,row.length<=60)/\
 ∀ (d:Addr) (ws':List V) (H':Hp),H d=none->mY H H'->H' d=some (.lst ws')->Paired (RowF H d P H') ws' rows->Q (.ref d) H'
theorem ju:mZ ["_law_table_here"] ["_law_table_here"] (al cZ):=.i
theorem ok_copied {f:Addr} {fd:FuncData} (F:Fun K "_law_copied" "_law_copied" cZ f fd) (T:Blt mg):nk P w K mg base CX0 1 f fd ["_law_table_here"] spCopied:=by
 refine F.o ju λ_ _ _ _ H _ Q _ hr h=>?_
 ·obtain ⟨t,P,ws,rows,rfl,ht,pw,hw,hrl,q⟩:=h
  have lw:ws.length=rows.length:=Paired.length pw
  refine ⟨_,(aj (ar (by exact aX (N:=["_law_row"]) (src:=[none]) rfl rfl rfl (by exact (aM K rfl (pv 0))) (λ_ _ _=>by exact ⟨by exact (bM (i:=0) nd_15 rfl rfl),bj,by exact (by exact aX (N:=["_law_entry"]) (src:=[none]) rfl rfl rfl (by exact (aM K rfl (pv 0))) (λ_ _ _=>by exact ⟨by exact (bM (i:=0) nd_8 rfl rfl),bj,by exact (jK K T (pv 0))⟩))⟩)))),?_⟩
  refine ⟨_,rfl,t,rfl,⟨_,SqL.of ht⟩,be (n:=ws.length) (σ0:=[none]) rfl (λacc i zs σ H'=>∃ u:Option V,σ=[u]/\mY H H'/\Paired (RowF H acc P H') zs (rows.take i)) (by rw [sizeLine_eq]; omega) (λacc hacc=>⟨none,rfl,mY.new hacc,by rw [take_zero]; exact .nil⟩) ?_ ?_ ?_ ?_⟩
  ·rintro acc i zs σ H' hacc hi hz ⟨u,rfl,sm,_⟩
   exact ⟨ws,ws[i],SqL.of (sm _ _ ht),by simp [hi]⟩
  ·rintro acc zs σ H' hacc hz ⟨u,rfl,sm,_⟩
   exact ⟨ws,SqL.of (sm _ _ ht),Nat.le_refl _⟩
  ·rintro acc i zs σ H1 x H' hacc hi hz hzl ⟨u,rfl,sm,pz⟩ ⟨rfl,gx⟩
   have hx:=gx ws (SqL.of (sm _ _ ht))
   obtain ⟨row,er,r,es,rfl,hr',pe⟩:=aO pw hx
   have l60:=hrl row (mem_of_getElem? er)
   have le:es.length=row.length:=Paired.length pe
   refine ⟨_,rfl,r,rfl,⟨_,SqL.of (sm _ _ hr')⟩,mU (row:=row) rfl (sm _ _ hr') (ap (λ_ _ z=>z.same sm) pe) (by omega) λr2 es2 H2 n2 s2 h2 p2=>?_⟩
   have hz2:=s2 _ _ hz
   have ra:r2 ≠ acc:=(ah hz n2).symm
   have k2:m5 [acc] H2 (upd H2 acc (.lst (zs++[.ref r2]))):=m5.put hz2 (by simp)
   refine ⟨zs,hz2,by rw [sizeLine_eq]; omega,_,ac,by rw [length_append,length_singleton]; omega,_,rfl,(sm.trans s2).put hacc,?_⟩
   rw [take_add_one,er]
   refine aH ⟨r2,es2,rfl,sm.free n2,ra,by rw [am ra]; exact h2,ap (λv e z=>?_) p2⟩ (ap (λ_ _=>RowF.keepA (av:=[acc]) (λa h=>.inl (by simpa using h)) ((m5.of s2).trans k2)) pz)
   obtain ⟨l,ts,rfl,nl,_,hl,pl⟩:=z
   have la:l ≠ acc:=(ah hz nl).symm
   exact ⟨l,ts,rfl,sm.free nl,la,by rw [am la]; exact hl,pl.mono k2.1⟩
  ·rintro acc zs σ H1 hacc hz hzl ⟨u,rfl,sm,pz⟩
   rw [lw,take_length] at pz
   exact q acc zs H1 hacc sm hz pz
def spBack:Sp:=λvs H Q _=>∃ P:Int,vs=[.int P,.int 1]/\2<=P/\P<=9973/\Q (.int 1) H
def spMade17:Sp:=λvs H Q _=>∃ P m:Int,vs=[.int P,.int m,.int 1]/\nq P/\1<=m/\m<=10/\∀ r H',mY H H'->At P H' r (if P=0 then (m,1) else (m % P,1))->Q r H'
theorem oM:mZ ["_law_prime_here", "_law_number_here", "_law_found", "_law_bit"] ["_law_prime_here", "_law_number_here"] (al eU):=.i
theorem ok_back {f:Addr} {fd:FuncData} (F:Fun K "_law_back" "_law_back" eU f fd) (T:Blt mg):nk P w K mg base CX0 1 f fd ["_law_prime_here", "_law_number_here"] spBack:=by
 refine F.o oM λ_ _ _ _ H _ Q _ hr h=>?_
 ·obtain ⟨P,rfl,h2,h9,q⟩:=h
  refine ⟨_,(ag (aq (i:=2) oM.nd rfl (Or.inl rfl) ae)
(ag (bp PassesOwn.never rfl (bu rfl T.range (aa ae af)) (aD (i:=3) oM.nd rfl (Or.inl rfl))
(ag (aJ (aw br (ao op_and (ao op_shr (ao aS (pv 0) ae) (pv 3)) ae) ae (az _))
(aj (aq (i:=2) oM.nd rfl (Or.inl rfl) (ao aY (ao bc (pv 2) (pv 1)) (pv 0))))
aB)
(aj (aq (i:=1) oM.nd rfl (Or.inl rfl) (ao aY (ao bc (pv 1) (pv 1)) (pv 0))))))
(aj (ar (pv 2))))),?_⟩
  have e1:(1:Int)*1 % P=1:=by rw [Int.one_mul]; exact Int.emod_eq_of_lt (by decide) (by omega)
  refine ⟨_,rfl,by decide,by decide,ie (n:=14) (λi σ H'=>∃ x3:Option V,σ=[some (.int P),some (.int 1),some (.int 1),x3]/\H'=H) ⟨none,rfl,rfl⟩ ?_ ?_⟩
  ·rintro i σ H2 hi ⟨x3,rfl,rfl⟩
   have sq:∀ (u:Option V),∃ x3:Option V,[some (V.int P),some (V.int (1*1 % P)),some (V.int 1),u]=[some (.int P),some (.int 1),some (.int 1),x3]/\H2=H2:=λu=>⟨u,by rw [e1],rfl⟩
   refine dD (t:=hV _ _ _) (λσ' H'=>σ'=[some (.int P),some (.int 1),some (.int 1),some (.int (0+(i:Int)))]/\H'=H2) (λR hR=>?_) ?_
   ·refine ⟨_,rfl,_,_,rfl,rfl,_,rfl,_,_,rfl,rfl,(by show (0:Int)<=0+(i:Int); omega),_,_,rfl,rfl,rfl,_,rfl,bf (λh=>?_) (λh=>?_)⟩
    ·refine ⟨_,rfl,_,rfl,_,_,rfl,rfl,.inl ⟨by decide,by decide⟩,_,rfl,_,_,rfl,rfl,(by show (0:Int)<P; omega),?_⟩
     refine hR _ _ ⟨?_,rfl⟩
     show [some (V.int P),some (V.int 1),some (V.int (1*1 % P)),some (V.int (0+(i:Int)))]=_
     rw [e1]
    ·exact hR _ _ ⟨rfl,rfl⟩
   rintro σ' H3 ⟨rfl,rfl⟩
   refine ⟨_,rfl,_,rfl,_,_,rfl,rfl,.inl ⟨by decide,by decide⟩,_,rfl,_,_,rfl,rfl,(by show (0:Int)<P; omega),?_⟩
   exact sq _
  ·rintro σ H2 ⟨x3,rfl,rfl⟩
   exact ⟨_,rfl,q⟩
theorem lX:mZ ["_law_prime_here", "_law_top", "_law_bottom"] ["_law_prime_here", "_law_top", "_law_bottom"] (al eR):=.i
theorem ok_made {f:Addr} {fd:FuncData} (F:Fun K "_law_made" "_law_made" eR f fd) (pV:FnB P w K mg base 1 "_law_low" jV) (ue:FnB P w K mg base 1 "_law_back" spBack):nk P w K mg base CX0 2 f fd ["_law_prime_here", "_law_top", "_law_bottom"] spMade17:=by
 refine F.o lX λ_ _ _ _ H _ Q _ hr h=>?_
 ·obtain ⟨P,m,rfl,hP,m1,m9,q⟩:=h
  refine ⟨_,(ag (aJ (aw br (pv 0) ae (az _))
(aj (ar (au pV hr.m (aa (pv 1) (aa (pv 2) af)))))
aB)
(aj (ar (ao aY (ao bc (pv 1) (au ue hr.m (aa (pv 0) (aa (ao aY (pv 2) (pv 0)) af)))) (pv 0))))),?_⟩
  refine ⟨_,rfl,rfl,_,rfl,bf (λh=>?_) (λh=>?_)⟩
  ·have h0:P=0:=by have:=of_decide_eq_true h; injection this
   rw [if_pos h0] at q
   refine ⟨_,rfl,_,rfl,m,1,rfl,by decide,Nat.one_lt_two_pow (by decide),λt nt=>?_⟩
   have e:nrm m 1=(m,1):=(gj m 1 (by decide)).mpr Int.gcd_one
   refine q _ _ (mY.new nt) (.inl ⟨h0,t,rfl,?_⟩)
   rw [ac,e]
  ·have h0:P ≠ 0:=λz=>h (decide_eq_true (congrArg V.int z))
   rw [if_neg h0] at q
   have hb:=hP.b
   have e1:(1:Int) % P=1:=Int.emod_eq_of_lt (by decide) (by omega)
   refine ⟨_,rfl,_,rfl,_,rfl,_,rfl,_,_,rfl,rfl,(by show (0:Int)<P; omega),P,(by show [V.int P,V.int ((1:Int) % P)]=[V.int P,V.int 1]; rw [e1]),by omega,hb.2.1,?_⟩
   refine ⟨_,_,rfl,rfl,.inl ⟨by omega,by omega⟩,_,rfl,_,_,rfl,rfl,(by show (0:Int)<P; omega),?_⟩
   refine q _ H (mY.refl H) (.inr ⟨h0,?_,rfl⟩)
   show V.int (m*1 % P)=V.int (m % P)
   rw [Int.mul_one]
def iR (i:Nat):List ak->List (Nat × ak)
 | []=>[]
 | q::_=>[(i,q)]
def bE:Nat->List (List ak)->List (Nat × ak)
 | _,[]=>[]
 | i,e::r=>iR i e++bE (i+1) r
def gA:Nat->List (List ak)->List (Nat × ak)
 | _,[]=>[]
 | i,e::r=>e.map (λq=>(i,q))++gA (i+1) r
def ky (x:Nat × ak):List Int × Int:=(x.2.1,-(x.1:Int))
def Top (fs:List (Nat × ak)) (x:Nat × ak):Prop:=x ∈ fs/\∀ y ∈ fs,tgt (ky y) (ky x)=false
def Flat (row:List (List ak)):Prop:=∀ e ∈ row,∀ q t,e=q::t->∀ r ∈ t,HT.lexLt r.1 q.1=true
theorem kX (e:List ak):∀ (a:List (List ak)) (k:Nat),bE k (a++[e])=bE k a++iR (k+a.length) e
 | [],k=>by show iR k e++[]=[]++iR (k+0) e; rw [append_nil]; rfl
 | x::a,k=>by
  show iR k x++bE (k+1) (a++[e])=iR k x++bE (k+1) a++iR (k+(a.length+1)) e
  rw [kX e a (k+1),append_assoc,show k+1+a.length=k+(a.length+1) by omega]
theorem fsts_len:∀ (a:List (List ak)) (k:Nat),(bE k a).length<=a.length
 | [],_=>Nat.le_refl _
 | x::a,k=>by
  show (iR k x++bE (k+1) a).length<=a.length+1
  have:=fsts_len a (k+1)
  rw [length_append]
  cases x with
  | nil=>show 0+_<=_; omega
  | cons q t=>show 1+_<=_; omega
theorem dq {x:Nat × ak}:∀ {row:List (List ak)} {k:Nat},x ∈ bE k row->∃ i t,x.1=k+i/\row[i]? = some (x.2::t)
 | [],_,h=>by cases h
 | e::r,k,h=>by
  rcases List.mem_append.mp (show x ∈ iR k e++bE (k+1) r from h) with z | z
  ·cases e with
   | nil=>cases z
   | cons q t=>
    rw [List.mem_singleton.mp z]
    exact ⟨0,t,rfl,rfl⟩
  ·obtain ⟨i,t,e1,e2⟩:=dq z
   exact ⟨i+1,t,by omega,e2⟩
theorem fsts_of {q:ak} {t:List ak}:∀ {row:List (List ak)} {k i:Nat},row[i]? = some (q::t)->(k+i,q) ∈ bE k row
 | [],_,i,h=>by simp at h
 | e::r,k,0,h=>by
  have:e=q::t:=by simpa using h
  subst this
  exact mem_append_left _ (by show _ ∈ [(k,q)]; simp)
 | e::r,k,i+1,h=>by
  have z:=fsts_of (k:=k+1) (show r[i]? = some (q::t) from h)
  rw [show k+(i+1)=k+1+i by omega]
  exact mem_append_right _ z
theorem alls_mem {x:Nat × ak}:∀ {row:List (List ak)} {k:Nat},x ∈ gA k row->∃ i e,x.1=k+i/\row[i]? = some e/\x.2 ∈ e
 | [],_,h=>by cases h
 | e::r,k,h=>by
  rcases List.mem_append.mp (show x ∈ e.map (λq=>(k,q))++gA (k+1) r from h) with z | z
  ·obtain ⟨q,hq,rfl⟩:=List.mem_map.mp z
   exact ⟨0,e,rfl,rfl,hq⟩
  ·obtain ⟨i,t,e1,e2,e3⟩:=alls_mem z
   exact ⟨i+1,t,by omega,e2,e3⟩
theorem mP {q:ak} {e:List ak} (hq:q ∈ e):∀ {row:List (List ak)} {k i:Nat},row[i]? = some e->(k+i,q) ∈ gA k row
 | [],_,i,h=>by simp at h
 | a::r,k,0,h=>by
  have:a=e:=by simpa using h
  subst this
  exact mem_append_left _ (List.mem_map.mpr ⟨q,hq,rfl⟩)
 | a::r,k,i+1,h=>by
  have z:=mP hq (k:=k+1) (show r[i]? = some e from h)
  rw [show k+(i+1)=k+1+i by omega]
  exact mem_append_right _ z
theorem lg (e:List ak):∀ (a:List (List ak)) (k:Nat),gA k (a++[e])=gA k a++e.map λq=>(k+a.length,q)
 | [],k=>by show e.map _++[]=[]++_; rw [append_nil]; rfl
 | x::a,k=>by
  show x.map _++gA (k+1) (a++[e])=x.map _++gA (k+1) a++e.map λq=>(k+(a.length+1),q)
  rw [lg e a (k+1),append_assoc,show k+1+a.length=k+(a.length+1) by omega]
theorem top_alls {row:List (List ak)} {x:Nat × ak} (hF:Flat row) (h:Top (gA 0 row) x):Top (bE 0 row) x:=by
 obtain ⟨hm,ht⟩:=h
 obtain ⟨i,e,e1,e2,e3⟩:=alls_mem hm
 refine ⟨?_,λy hy=>?_⟩
 ·cases e with
  | nil=>cases e3
  | cons q t=>
   rcases List.mem_cons.mp e3 with z | z
   ·have:=fsts_of (k:=0) e2
    rw [<- e1,<- z] at this
    exact this
   ·have lx:=hF _ (mem_of_getElem? e2) q t rfl x.2 z
    have f:=ht (0+i,q) (mP (by simp) e2)
    rw [jJ] at f
    have ne:¬ (ky (0+i,q)).1=(ky x).1:=λw=>by
     have w':q.1=x.2.1:=w
     rw [w',gD] at lx
     cases lx
    rw [if_neg ne] at f
    have f':HT.lexLt x.2.1 q.1=false:=f
    rw [lx] at f'
    cases f'
 ·obtain ⟨j,t,f1,f2⟩:=dq hy
  have z:=mP (q:=y.2) (by simp) (k:=0) f2
  rw [<- f1] at z
  exact ht y z
theorem top_one {row:List (List ak)} {x y:Nat × ak} (hx:Top (bE 0 row) x) (hy:Top (bE 0 row) y):x=y:=by
 have ek:ky x=ky y:=by
  by_cases h:ky x=ky y
  ·exact h
  ·have:=tgt_total h (hy.2 x hx.1)
   rw [hx.2 y hy.1] at this
   cases this
 have e1:x.1=y.1:=by
  have:-(x.1:Int) = -(y.1:Int):=congrArg Prod.snd ek
  omega
 obtain ⟨i,t,a1,a2⟩:=dq hx.1
 obtain ⟨j,u,b1,b2⟩:=dq hy.1
 have:i=j:=by omega
 subst this
 rw [a2] at b2
 injection b2 with b2
 injection b2 with b2
 exact Prod.ext e1 b2
theorem g6:∀ {b a c:List Int},a.length=b.length->c.length=b.length->HT.lexLt (aU a b) (aU c b)=HT.lexLt a c
 | [],[],[],_,_=>rfl
 | z::b,x::a,y::c,h1,h2=>by
  show HT.lexLt ((x+z)::aU a b) ((y+z)::aU c b)=_
  rw [HT.lexLt_cons,HT.lexLt_cons,g6 (by simpa using h1) (by simpa using h2)]
  by_cases e:x=y
  ·rw [if_pos e,if_pos (by omega)]
  ·rw [if_neg e,if_neg (by omega)]
   exact decide_eq_decide.mpr (by omega)
 | [],_::_,_,h,_=>by simp at h
 | [],[],_::_,_,h=>by simp at h
 | _::_,[],_,h,_=>by simp at h
 | _::_,_::_,[],_,h=>by simp at h
def shf (P:Int) (b:List Int) (n:Int × Int) (q:ak):ak:=(aU q.1 b,fC P q.2 n)
theorem fsts_map (f:ak->ak):∀ (row:List (List ak)) (k:Nat),bE k (row.map λe=>e.map f)=(bE k row).map λx=>(x.1,f x.2)
 | [],_=>rfl
 | e::r,k=>by
  show iR k (e.map f)++bE (k+1) (r.map λe=>e.map f)=(iR k e++bE (k+1) r).map _
  rw [fsts_map f r (k+1),map_append]
  cases e<;>rfl
theorem top_map {P:Int} {b:List Int} {n:Int × Int} {fs:List (Nat × ak)} {x:Nat × ak} (hl:∀ y ∈ fs,y.2.1.length=b.length) (h:Top fs x):Top (fs.map λx=>(x.1,shf P b n x.2)) (x.1,shf P b n x.2):=by
 refine ⟨List.mem_map.mpr ⟨x,h.1,rfl⟩,λy hy=>?_⟩
 obtain ⟨z,hz,rfl⟩:=List.mem_map.mp hy
 have t:=h.2 z hz
 rw [jJ] at t ⊢
 show (if aU z.2.1 b=aU x.2.1 b then decide (-(x.1:Int) < -(z.1:Int)) else HT.lexLt (aU x.2.1 b) (aU z.2.1 b))=false
 have t':(if z.2.1=x.2.1 then decide (-(x.1:Int) < -(z.1:Int)) else HT.lexLt x.2.1 z.2.1)=false:=t
 rw [g6 (hl x h.1) (hl z hz)]
 by_cases e:z.2.1=x.2.1
 ·rw [if_pos e] at t'
  rw [if_pos (by rw [e])]
  exact t'
 ·rw [if_neg e] at t'
  rw [if_neg λw=>e (jp (hl z hz) (hl x h.1) w)]
  exact t'
theorem times_is {P L:Int} (hP:nq P) {S:Nat} (hS:14<=S) {e out:List ak} {b:List Int} {n:Int × Int} (c:ow P L S e) (hb:mC P L b n) (is:nO P (bd P e [(b,n)]) out):out=e.map (shf P b n):=by
 have ln:∀ q ∈ e,q.1.length=b.length:=λq hq=>by have:=(c.2 q hq).2.2.2.1; have:=hb.len; omega
 obtain ⟨nd,ok⟩:=eI hP hS c hb
 have e1:acc P (bd P e [(b,n)])=bd P e [(b,n)]:=ft nd λq hq=>(ok q hq).1
 have e3:bd P e [(b,n)]=e.map (shf P b n):=kL P e (b,n)
 refine isSum_is is ?_ (λp hp=>(ok p (by rw [e3]; exact hp)).2.2.1) λk=>by rw [e1,e3]
 rw [pairwise_map]
 refine c.1.imp_of_mem λ{x y} hx hy h=>?_
 unfold iF at *
 rw [jA] at *
 show (if (aU y.1 b).sum=(aU x.1 b).sum then HT.lexLt (aU y.1 b) (aU x.1 b) else decide ((aU y.1 b).sum<(aU x.1 b).sum))=true
 have h':(if y.1.sum=x.1.sum then HT.lexLt y.1 x.1 else decide (y.1.sum<x.1.sum))=true:=h
 rw [g6 (ln y hy) (ln x hx),fo (ln y hy),fo (ln x hx)]
 by_cases z:y.1.sum=x.1.sum
 ·rw [if_pos z] at h'
  rw [if_pos (by omega)]
  exact h'
 ·rw [if_neg z] at h'
  rw [if_neg (by omega)]
  have:=of_decide_eq_true h'
  exact decide_eq_true (by omega)
def EntT (P L h c:Int) (e:List ak):Prop:=ow P L 200 e/\e.length<=3/\∀ q ∈ e,q.1.sum+c=h
def RowT (P L:Int) (cs:List Int) (row:List (List ak)):Prop:=∃ h,Paired (EntT P L h) cs row
theorem RowT.len {P L:Int} {cs:List Int} {row:List (List ak)} (h:RowT P L cs row):row.length=cs.length:=by
 obtain ⟨h,p⟩:=h
 exact (Paired.length p).symm
theorem eS {α β:Type} {R:α->β->Prop}:∀ {xs:List α} {ys:List β} {y:β},Paired R xs ys->y ∈ ys->∃ x ∈ xs,R x y
 | _,_,y,.cons q r,hy=>by
  rcases List.mem_cons.mp hy with rfl | hy
  ·exact ⟨_,by simp,q⟩
  ·obtain ⟨x,hx,h⟩:=eS r hy
   exact ⟨x,by simp [hx],h⟩
theorem RowT.ent {P L:Int} {cs:List Int} {row:List (List ak)} (h:RowT P L cs row) {e:List ak} (he:e ∈ row):ow P L 200 e/\e.length<=3:=by
 obtain ⟨h,p⟩:=h
 obtain ⟨c,_,z⟩:=eS p he
 exact ⟨z.1,z.2.1⟩
theorem RowT.flat {P L:Int} {cs:List Int} {row:List (List ak)} (h:RowT P L cs row):Flat row:=by
 intro e he q t eq r hr
 obtain ⟨h,p⟩:=h
 obtain ⟨c,_,z1,_,z3⟩:=eS p he
 subst eq
 have f:=(List.pairwise_cons.mp z1.1).1 r hr
 unfold iF at f
 rw [jA] at f
 have s1:=z3 q (by simp)
 have s2:=z3 r (by simp [hr])
 rw [if_pos (show (hk r).1=(hk q).1 by show r.1.sum=q.1.sum; omega)] at f
 exact f
theorem RowT.lens {P L:Int} {cs:List Int} {row:List (List ak)} (h:RowT P L cs row) {b:List Int} (hb:(b.length:Int)=L):∀ y ∈ bE 0 row,y.2.1.length=b.length:=λy hy=>by
 obtain ⟨i,t,e1,e2⟩:=dq hy
 have:=((h.ent (mem_of_getElem? e2)).1.2 y.2 (by simp)).2.2.2.1
 omega
theorem oz.t {P L:Int} {cs:List Int} {row:List (List ak)} (h:oz P L 200 cs row):RowT P L cs row:=by
 obtain ⟨h,p,_⟩:=h
 exact ⟨h,ap (λc e z=>⟨z.1,z.2.1,λq hq=>(z.2.2 q hq).1⟩) p⟩
theorem rowT_spread {P L h:Int} {cs:List Int} {row:List (List ak)} (p:Paired (EntS P L h) cs row):RowT P L cs row:=
 ⟨h,ap (λc e z=>⟨⟨z.1.1,λq hq=>⟨(z.1.2 q hq).1,(z.1.2 q hq).2.1.mono (by decide),(z.1.2 q hq).2.2⟩⟩,z.2.1,z.2.2⟩) p⟩
theorem nd_16:(["place", "entry"]:List Str).Nodup:=by decide +kernel
def dR (P:Int) (row:List (List ak)):PyData:=.list (row.map (dS P))
def Lay (n:Nat) (d:PyData):Prop:=d.canLay0=true/\d.depth<=n
theorem lay_all {n:Nat}:∀ {ds:List PyData},(∀ d ∈ ds,Lay n d)->PyData.canLayAll0 ds=true/\PyData.depthAll ds<=n
 | [],_=>⟨rfl,by simp [PyData.depthAll]⟩
 | d::r,h=>by
  obtain ⟨a,b⟩:=h d mem_cons_self
  obtain ⟨c,e⟩:=lay_all λd hd=>h d (mem_cons_of_mem _ hd)
  refine ⟨by simp only [PyData.canLayAll0,a,c,Bool.and_true],?_⟩
  simp only [PyData.depthAll]
  omega
theorem jR {n:Nat} {ds:List PyData} (h:∀ d ∈ ds,Lay n d):Lay (n+1) (.list ds):=by
 obtain ⟨a,b⟩:=lay_all h
 refine ⟨by simp only [PyData.canLay0,a],?_⟩
 simp only [PyData.depth]
 omega
theorem Lay.sh {n:Nat} {d:PyData} (h:Lay n d) (k:n<=64):SeqAt.shaped d=true:=by
 unfold SeqAt.shaped
 rw [Bool.and_eq_true]
 exact ⟨h.1,decide_eq_true (Nat.le_trans h.2 k)⟩
theorem lay_dS (P:Int) (e:List ak):Lay 3 (dS P e):=jR λd hd=>by
 obtain ⟨p,_,rfl⟩:=List.mem_map.mp hd
 exact dP_ok P p
theorem lay_dR (P:Int) (row:List (List ak)):Lay 4 (dR P row):=jR λd hd=>by
 obtain ⟨p,_,rfl⟩:=List.mem_map.mp hd
 exact lay_dS P p
theorem drs_ents {K:Frag} {P:Int} {H:Hp}:∀ {es:List V} {row:List (List ak)},Paired (ou P H) es row->DRs K H (row.map (dS P)) es
 | _,_,.nil=>.nil
 | _,_,.cons ⟨l,ts,e,h1,h2⟩ r=>by
  rw [e]
  exact .cons (gn h1 h2) (drs_ents r)
theorem dr_dR {K:Frag} {P:Int} {H:Hp} {r:Addr} {es:List V} {row:List (List ak)} (hr:H r=some (.lst es)) (h:Paired (ou P H) es row):DR K H (dR P row) (.ref r):=.lst (SqL.of hr) (drs_ents h)
theorem dr_row {K:Frag} {P:Int} {H:Hp} {v:V} {row:List (List ak)} (h:ot P H v row):DR K H (dR P row) v:=by
 obtain ⟨r,es,rfl,hr,pe⟩:=h
 exact dr_dR hr pe
theorem jj {n:Nat} {d:PyData} (h:Lay n d):PyData.eqv d d=true:=SeqAt.eqv_refl d h.1
def Ld3 (P:Int) (H:Hp) (v:V) (x:Nat × ak):Prop:=∃ (t k:Addr) (u:V),v=.ref t/\H t=some (.tup [.int (x.1:Int),.ref k,u])/\H k=some (.tup (x.2.1.map V.int))/\At P H u x.2.2
theorem Ld3.mono {P:Int} {H H':Hp} {v:V} {x:Nat × ak} (k:∀ t xs,H t=some (.tup xs)->H' t=some (.tup xs)) (h:Ld3 P H v x):Ld3 P H' v x:=by
 obtain ⟨t,c,u,rfl,h1,h2,h3⟩:=h
 exact ⟨t,c,u,rfl,k _ _ h1,k _ _ h2,h3.mono k⟩
theorem Ld3.key {P:Int} {H:Hp} {v:V} {x:Nat × ak} (h:Ld3 P H v x):hJ H v=ky x:=by
 obtain ⟨t,c,u,rfl,h1,h2,h3⟩:=h
 exact key3_is h1 h2
def d3 (P:Int) (x:Nat × ak):PyData:=.tuple [.int (x.1:Int),ef x.2.1,dN P x.2.2]
theorem Ld3.dr {K:Frag} {P:Int} {H:Hp} {v:V} {x:Nat × ak} (h:Ld3 P H v x):DR K H (d3 P x) v:=by
 obtain ⟨t,c,u,rfl,h1,h2,h3⟩:=h
 exact .tup (SqT.of h1) (.cons (.int _) (.cons (dM (SqT.of h2)) (.cons (fF h3) .nil)))
theorem fW (P:Int) (x:Nat × ak):Lay 3 (d3 P x):=by
 have z:=dP_ok P x.2
 obtain ⟨z1,z2⟩:=z
 unfold Lay d3
 unfold dP at z1 z2
 simp only [PyData.canLay0,PyData.canLayAll0,PyData.depth,PyData.depthAll,Bool.and_true,Bool.true_and] at *
 exact ⟨z1,by omega⟩
theorem drs_d3 {K:Frag} {P:Int} {H:Hp}:∀ {ws:List V} {fs:List (Nat × ak)},Paired (Ld3 P H) ws fs->DRs K H (fs.map (d3 P)) ws
 | _,_,.nil=>.nil
 | _,_,.cons q r=>.cons q.dr (drs_d3 r)
theorem lay_d3s (P:Int) (fs:List (Nat × ak)):Lay 4 (.list (fs.map (d3 P))):=jR λd hd=>by
 obtain ⟨p,_,rfl⟩:=List.mem_map.mp hd
 exact fW P p
def spTH:Sp:=λvs H Q _=>∃ (i:Int) (k:Addr),vs=[.int i,.ref k]/\∀ t,H t=none->Q (.ref t) (upd H t (.tup [.ref k,.int (-i)]))
abbrev lamQ:Str:=("lead" ++ ".<locals>.") ++ "<lambda>"
abbrev TabL (H:Hp) (P0:Addr):Prop:=oN H P0 ⟨22,27,22,72⟩ lamQ
def mT (P0 C:Addr):Sp:=λvs H Q E=>∃ (c r:Addr) (P:Int) (es:List V) (row:List (List ak)),vs=[.ref c,.ref r]/\H r=some (.lst es)/\Paired (ou P H) es row/\row.length<=60/\TabL H P0/\
 (bE 0 row=[]->∀ H',mY H H'->E (.ref C) none H')/\∀ v x H',Top (bE 0 row) x->Ld3 P H' v x->nU P0 H H'->TabL H' P0->Q v H'
theorem jL:mZ ["place", "product"] ["place", "product"] (al dc):=.i
theorem ok_th {f:Addr} {fd:FuncData} (F:Fun K "term_height" "term_height" dc f fd):nk P w K mg base CX0 1 f fd ["place", "product"] spTH:=by
 refine F.o jL λ_ _ _ _ H _ Q _ hr h=>?_
 ·obtain ⟨i,k,rfl,q⟩:=h
  refine ⟨_,(aj (ar (aL (aa (pv 1) (aa (pe_un un_neg (pv 0)) af))))),?_⟩
  exact ⟨_,rfl,_,rfl,_,rfl,(by show 2<=sizeLine; decide),λt nt=>q t nt⟩
theorem sc_lead:mZ ["columns", "row", "firsts"] ["columns", "row"] (al s_lead):=.i
set_option maxHeartbeats 2000000 in
theorem ok_lead {f c0 P0 pQ:Addr} {fd:FuncData} (F:Fun K "lead" "lead" s_lead f fd) (hcode:∀ oc od fd' osl,K.lookup f=some ⟨oc,od,.func fd',osl⟩->fd'.code=.ref c0) (hC:CodeHd base c0 P0) (hB:BmB mg base) (T:Blt mg) (sM:FnB P w K mg base 1 "term_height" spTH) (ANoRow:mg "NoRow"=some (.ref pQ)) (xc:XCl K pQ) :
  nk P w K mg base (CXE P w) 12 f fd ["columns", "row"] (mT P0 pQ):=by
 refine F.okXC hcode sc_lead (λvs H Q E h=>?_) (λA outer s H vs Q E hr h=>?_)
 ·obtain ⟨c,r,P,es,row,rfl,_⟩:=h
  rfl
 obtain ⟨c,r,P,es,row,rfl,hr',pr,l60,hT,qE,q⟩:=h
 have les:es.length=row.length:=Paired.length pr
 refine ⟨_,(ag (mS (i:=2) sc_lead.nd rfl (Or.inl rfl) (N:=["place", "entry"]) (src:=[none,none]) rfl rfl rfl (by exact (jm K rfl rfl T.enum (aa (pv 1) af))) (λ_ _ _=>by exact ⟨by exact (bB K (i:=0) (j:=1) rfl rfl nd_16 rfl rfl rfl rfl),(cV (aw (jY K rfl hr.units) (pv 1) (aQ af) (az _))),by exact (aL (aa (pv 0) (aa (aA (ay K rfl) (aA (aE K rfl) (pv 1) ae (λ_ _=>rfl)) ae (λ_ _=>rfl)) (aa (aA (ay K rfl) (aA (aE K rfl) (pv 1) ae (λ_ _=>rfl)) ae (λ_ _=>rfl)) af))))⟩))
(ag (aJ (aw (keqD K rfl hr.units) (pv 2) (aQ af) (az _))
(aj (gO xc.ek ANoRow (aa lF af)))
aB)
(aj (ar (pe_maxL (k:=2) (N:=["first"]) (x := "first") T (pv 2) rfl hC hB .i hr.m rfl (λ_ _ _ _ _ _ hr=>by exact (au sM hr.m (aa (aA (ay K rfl) (pv 0) ae (λ_ _=>rfl)) (aa (aA (ay K rfl) (pv 0) ae (λ_ _=>rfl)) af))))))))),?_⟩
 refine ⟨_,rfl,r,rfl,⟨_,SqL.of hr'⟩,be (n:=es.length) (σ0:=[none,none]) rfl (λacc j ws σ H'=>∃ u v:Option V,σ=[u,v]/\mY H H'/\Paired (Ld3 P H') ws (bE 0 (row.take j))) (by rw [sizeLine_eq]; omega) (λacc hacc=>⟨none,none,rfl,mY.new hacc,.nil⟩) ?_ ?_ ?_ ?_⟩
 ·rintro acc j ws σ H' hacc hj hz ⟨u,v,rfl,sm,_⟩
  exact ⟨es,es[j],SqL.of (sm _ _ hr'),by simp [hj]⟩
 ·rintro acc ws σ H' hacc hz ⟨u,v,rfl,sm,_⟩
  exact ⟨es,SqL.of (sm _ _ hr'),Nat.le_refl _⟩
 ·rintro acc j ws σ H9 x H' hacc hj hz hzl ⟨u,v,rfl,s9,pw⟩ ⟨pp,x1,rfl,npp,rfl,gx⟩
  have hx:=gx es (SqL.of (s9 _ _ hr'))
  obtain ⟨e,ee,l,ts,rfl,hl,pe⟩:=aO pr hx
  have jl:j<row.length:=(List.getElem?_eq_some_iff.mp ee).1
  have s10:=mY.new (o:=.tup [.int (j:Int),.ref l]) npp
  have h10:(upd H9 pp (.tup [.int (j:Int),.ref l])) pp=some (.tup [.int (j:Int),.ref l]):=ac
  generalize upd H9 pp (.tup [.int (j:Int),.ref l])=H10 at *
  refine ⟨pp,_,rfl,SqT.of h10,rfl,_,_,rfl,_,_,rfl,rfl,?_⟩
  refine ⟨_,rfl,Nat.zero_le _,λl4 n4=>?_⟩
  have s4:=mY.new (o:=.lst []) n4
  have h4:(upd H10 l4 (.lst [])) l4=some (.lst []):=ac
  generalize upd H10 l4 (.lst [])=H4 at *
  have sb:mY H9 H4:=s10.trans s4
  have sm4:mY H H4:=s9.trans sb
  have fe:bE 0 (row.take (j+1))=bE 0 (row.take j)++iR j e:=by
   rw [take_add_one,ee]
   show bE 0 (row.take j++[e])=_
   rw [kX,length_take,show 0+min j row.length=j by omega]
  have lw:ws.length<=j:=by
   rw [Paired.length pw]
   have:=fsts_len (row.take j) 0
   rw [length_take] at this
   omega
  refine ⟨dS P e,dS P [],gn (sm4 _ _ hl) (pe.mono λt xs e=>sm4 _ _ e),gn h4 .nil,bA _ _,bA _ _,_,rfl,?_⟩
  rw [iZ]
  have pw4:Paired (Ld3 P H4) ws (bE 0 (row.take j)):=ap (λ_ _ z=>z.mono λt xs e=>sb _ _ e) pw
  cases e with
  | nil=>exact bx ⟨_,sb _ _ hz,by omega,_,_,rfl,sm4,by rw [fe]; show Paired (Ld3 P H4) ws (bE 0 (row.take j)++[]); rw [append_nil]; exact pw4⟩
  | cons q0 t0=>
   cases pe with
   | cons pq pt=>
    obtain ⟨t,k,n,rfl,g1,g2,g3⟩:=pq
    refine bH ⟨_,rfl,_,rfl,l,_,_,_,rfl,rfl,SqL.of (sm4 _ _ hl),cC (j:=0) rfl,t,_,_,_,rfl,rfl,SqT.of (sm4 _ _ g1),rfl,_,rfl,l,_,_,_,rfl,rfl,SqL.of (sm4 _ _ hl),cC (j:=0) rfl,t,_,_,_,rfl,rfl,SqT.of (sm4 _ _ g1),rfl,(by show 3<=sizeLine; decide),λtn ntn=>?_⟩
    have s5:=mY.new (o:=.tup [.int (j:Int),.ref k,n]) ntn
    have h5:(upd H4 tn (.tup [.int (j:Int),.ref k,n])) tn=some (.tup [.int (j:Int),.ref k,n]):=ac
    generalize upd H4 tn (.tup [.int (j:Int),.ref k,n])=H5 at *
    have hz5:=s5 _ _ (sb _ _ hz)
    have ka:m5 [acc] H5 (upd H5 acc (.lst (ws++[.ref tn]))):=m5.put hz5 (by simp)
    refine ⟨ws,hz5,by rw [sizeLine_eq]; omega,_,ac,by rw [length_append,length_singleton]; omega,_,_,rfl,(sm4.trans s5).put hacc,?_⟩
    rw [fe]
    exact aH ⟨tn,k,n,rfl,ka.1 _ _ h5,ka.1 _ _ (s5 _ _ (sm4 _ _ g2)),(g3.mono λt xs e=>s5 _ _ (sm4 _ _ e)).mono ka.1⟩ (ap (λ_ _ z=>(z.mono λt xs e=>s5 _ _ e).mono ka.1) pw4)
 ·rintro acc ws σ H1 hacc hz hzl ⟨u,v,rfl,s1,pw⟩
  rw [les,take_length] at pw
  refine ⟨_,rfl,Nat.zero_le _,λl4 n4=>?_⟩
  have s4:=mY.new (o:=.lst []) n4
  have h4:(upd H1 l4 (.lst [])) l4=some (.lst []):=ac
  generalize upd H1 l4 (.lst [])=H4 at *
  have sm4:mY H H4:=s1.trans s4
  have hz4:=s4 _ _ hz
  have pw4:Paired (Ld3 P H4) ws (bE 0 row):=ap (λ_ _ z=>z.mono λt xs e=>s4 _ _ e) pw
  refine ⟨.list ((bE 0 row).map (d3 P)),.list [],.lst (SqL.of hz4) (drs_d3 pw4),.lst (SqL.of h4) .nil,(lay_d3s P _).sh (by decide),by decide,_,rfl,?_⟩
  cases hf:bE 0 row with
  | nil=>
   refine bH ⟨by show 1<=sizeLine; decide,qE hf _ sm4⟩
  | cons x0 xr=>
   refine bx ?_
   have hT4:=hT.same sm4
   have lw:ws.length=(bE 0 row).length:=Paired.length pw4
   have l0:0<ws.length:=by rw [lw,hf]; simp
   obtain ⟨tps,hP0,_⟩:=id hT4
   refine ⟨_,rfl,acc,ws,hJ H4,rfl,SqL.of hz4,l0,hT4,λH2 kp y hy=>?_,λy H' ey hT' kp=>?_⟩
   ·obtain ⟨x,hx,pxy⟩:=ji pw4 hy
    have ek:=pxy.key
    obtain ⟨t,k,n,rfl,g1,g2,g3⟩:=pxy
    have g1':=kp.tup hP0 g1
    rw [ek]
    refine ⟨_,rfl,t,_,_,_,rfl,rfl,SqT.of g1',rfl,_,rfl,t,_,_,_,rfl,rfl,SqT.of g1',rfl,_,k,rfl,λt' nt=>⟨mY.new nt,t',k,rfl,SqT.of ac,SqT.of ?_⟩⟩
    exact mY.new nt _ _ (kp.tup hP0 g2)
   ·obtain ⟨x,ex,pxy⟩:=aO pw4 ey
    refine q y x H' ⟨mem_of_getElem? ex,λz hz=>?_⟩ (pxy.mono λt xs e=>kp.tup hP0 e) (λc o e n=>kp c o (sm4 _ _ e) n) hT'
    obtain ⟨j,jl,ej⟩:=getElem_of_mem hz
    have jw:j<ws.length:=by omega
    have pj:Ld3 P H4 ws[j] z:=dh pw4 (getElem?_eq_getElem jw) (by rw [getElem?_eq_getElem jl,ej])
    have tp:tgt (hJ H4 (ws.getD j .non)) (hJ H4 (ws.getD (argBest (λi j=>tgt (hJ H4 (ws.getD i .non)) (hJ H4 (ws.getD j .non))) (ws.length-1)) .non))=false:=iG (λi=>hJ H4 (ws.getD i .non)) (ws.length-1) j (by omega)
    have e1:ws.getD j .non=ws[j]:=by rw [getD_eq_getElem?_getD,getElem?_eq_getElem jw]; rfl
    have e2:ws.getD (argBest (λi j=>tgt (hJ H4 (ws.getD i .non)) (hJ H4 (ws.getD j .non))) (ws.length-1)) .non=y:=by
     rw [getD_eq_getElem?_getD]
     have ey':ws[argBest (λi j=>tgt (hJ H4 (ws.getD i .non)) (hJ H4 (ws.getD j .non))) (ws.length-1)]? = some y:=ey
     rw [ey']
     rfl
    rw [e2,e1,pj.key,pxy.key] at tp
    exact tp
theorem nd_17:(["_law_column"]:List Str).Nodup:=by decide +kernel
def Fnd (P:Int) (H:Hp) (fs:List (Nat × ak)) (v:V):Prop:=(fs=[]/\v=.non)\/∃ x,Top fs x/\Ld3 P H v x
theorem Fnd.mono {P:Int} {H H':Hp} {fs:List (Nat × ak)} {v:V} (k:∀ t xs,H t=some (.tup xs)->H' t=some (.tup xs)) (h:Fnd P H fs v):Fnd P H' fs v:=by
 rcases h with h | ⟨x,t,l⟩
 ·exact .inl h
 ·exact .inr ⟨x,t,l.mono k⟩
def spLLead:Sp:=λvs H Q _=>∃ (r:Addr) (P:Int) (es:List V) (row:List (List ak)),vs=[.ref r]/\H r=some (.lst es)/\Paired (ou P H) es row/\∀ v H',mY H H'->Fnd P H' (gA 0 row) v->Q v H'
theorem top_new (y:Nat × ak):Top ([]++[y]) y:=⟨by simp,λz hz=>by
 have:z=y:=by simpa using hz
 rw [this]
 exact i3 _⟩
theorem top_up {fs:List (Nat × ak)} {x y:Nat × ak} (h:Top fs x) (t:tgt (ky y) (ky x)=true):Top (fs++[y]) y:=⟨by simp,λz hz=>by
 rcases List.mem_append.mp hz with m | m
 ·cases q:tgt (ky z) (ky y) with
  | false=>rfl
  | true=>
   have:=kK q t
   rw [h.2 z m] at this
   cases this
 ·rw [List.mem_singleton.mp m]
  exact i3 _⟩
theorem top_stay {fs:List (Nat × ak)} {x y:Nat × ak} (h:Top fs x) (t:tgt (ky y) (ky x)=false):Top (fs++[y]) x:=⟨mem_append_left _ h.1,λz hz=>by
 rcases List.mem_append.mp hz with m | m
 ·exact h.2 z m
 ·rw [List.mem_singleton.mp m]
  exact t⟩
theorem oK:mZ ["_law_row", "_law_found", "_law_place", "_law_entry", "_law_product_here", "_law_number_here"] ["_law_row"] (al eP):=.i
theorem ok_llead {f:Addr} {fd:FuncData} (F:Fun K "_law_lead" "_law_lead" eP f fd) (T:Blt mg):nk P w K mg base CX0 1 f fd ["_law_row"] spLLead:=by
 refine F.o oK λ_ _ _ _ H _ Q _ hr h=>?_
 ·obtain ⟨r,P,es,row,rfl,hr',pr,q⟩:=h
  refine ⟨_,(ag (aq (i:=1) oK.nd rfl (Or.inl rfl) jr)
(ag (bp PassesOwn.never rfl (jm K rfl rfl T.enum (aa (pv 0) af)) (bB K (i:=2) (j:=3) rfl rfl oK.nd rfl rfl rfl rfl)
(aj (bp PassesOwn.never rfl (aM K rfl (pv 3)) (bB K (i:=4) (j:=5) rfl rfl oK.nd rfl rfl rfl rfl)
(aj (aJ (PW.pt (gB (aw op_isN (pv 1) jr (az _)) (gd (aw (kgtK (K:=K) rfl hr) (aL (aa (pv 4) (aa (ao aS ae (pv 2)) af))) (aL (aa (aA (ay K rfl) (pv 1) ae (λ_ _=>rfl)) (aa (ao aS ae (aA (ay K rfl) (pv 1) ae (λ_ _=>rfl))) af))) (az _)))))
(aj (aq (i:=1) oK.nd rfl (Or.inl rfl) (aL (aa (pv 2) (aa (pv 4) (aa (pv 5) af))))))
aB)))))
(aj (ar (pv 1))))),?_⟩
  refine ⟨_,rfl,r,rfl,⟨_,SqL.of hr'⟩,for_enum (xs:=es) (λj σ H'=>∃ (fv:V) (x2 x3 x4 x5:Option V),σ=[some (.ref r),some fv,x2,x3,x4,x5]/\mY H H'/\Fnd P H' (gA 0 (row.take j)) fv) ⟨.non,none,none,none,none,rfl,mY.refl H,.inl ⟨rfl,rfl⟩⟩ ?_ ?_ ?_⟩
  ·rintro j σ H' _ ⟨fv,x2,x3,x4,x5,rfl,sm,_⟩
   exact SqL.of (sm _ _ hr')
  ·rintro j x σ H1 pp hx ⟨fv,x2,x3,x4,x5,rfl,s1,fd1⟩ npp
   obtain ⟨e,ee,l,ts,rfl,hl,pe⟩:=aO pr hx
   have jl:j<row.length:=(List.getElem?_eq_some_iff.mp ee).1
   have s2:=mY.new (o:=.tup [.int (j:Int),.ref l]) npp
   have h2:(upd H1 pp (.tup [.int (j:Int),.ref l])) pp=some (.tup [.int (j:Int),.ref l]):=ac
   generalize upd H1 pp (.tup [.int (j:Int),.ref l])=H2 at *
   have fd2:Fnd P H2 (gA 0 (row.take j)) fv:=fd1.mono λt xs e=>s2 _ _ e
   refine ⟨pp,_,rfl,SqT.of h2,rfl,_,_,rfl,_,_,rfl,rfl,?_⟩
   have sA:=s1.trans s2
   refine ⟨_,rfl,l,rfl,⟨_,SqL.of (sA _ _ hl)⟩,eZ (xs:=ts) (λi σ H'=>∃ (fv:V) (x4 x5:Option V),σ=[some (.ref r),some fv,some (.int (j:Int)),some (.ref l),x4,x5]/\mY H H'/\Fnd P H' (gA 0 (row.take j)++(e.take i).map λq=>(j,q)) fv) ?_ ?_ ?_ ?_⟩
   ·exact ⟨fv,x4,x5,rfl,sA,by rw [take_zero,map_nil,append_nil]; exact fd2⟩
   ·rintro i σ H' _ ⟨fv,x4,x5,rfl,sm,_⟩
    exact SqL.of (sm _ _ hl)
   ·rintro i x σ H3 hx ⟨fv,x4,x5,rfl,s3,fd3⟩
    obtain ⟨p,ep,t,k,u,rfl,g1,g2,g3⟩:=nj.at_ pe hx
    have g1:=s3 _ _ g1
    have g2:=s3 _ _ g2
    have g3:=g3.mono λt xs e=>s3 _ _ e
    have fe:(e.take (i+1)).map (λq=>(j,q))=(e.take i).map (λq=>(j,q))++[(j,p)]:=by
     rw [take_add_one,ep]
     show ((e.take i)++[p]).map _=_
     rw [map_append]
     rfl
    refine ⟨t,_,rfl,SqT.of g1,rfl,_,_,rfl,_,_,rfl,rfl,?_⟩
    have new:∀ H4,mY H3 H4->∀ t4,H4 t4=none->Ld3 P (upd H4 t4 (.tup [.int (j:Int),.ref k,u])) (.ref t4) (j,p):=λH4 s4 t4 n4=>by
     have s5:=s4.trans (mY.new (o:=.tup [.int (j:Int),.ref k,u]) n4)
     exact ⟨t4,k,u,rfl,ac,s5 _ _ g2,g3.mono λt xs e=>s5 _ _ e⟩
    rcases fd3 with ⟨e0,rfl⟩ | ⟨y,ty,ly⟩
    ·refine ⟨_,rfl,rfl,_,rfl,bH (bH ⟨_,rfl,_,rfl,_,rfl,(by show 3<=sizeLine; decide),λt4 n4=>?_⟩)⟩
     refine ⟨_,_,_,rfl,s3.trans (mY.new n4),.inr ⟨(j,p),?_,new H3 (mY.refl _) t4 n4⟩⟩
     rw [fe,<- append_assoc,e0]
     exact top_new _
    ·have ly':=ly
     obtain ⟨t5,k5,u5,rfl,y1,y2,y3⟩:=ly'
     refine ⟨_,rfl,rfl,_,rfl,bx ⟨_,rfl,_,rfl,_,_,rfl,rfl,(by show 2<=sizeLine; decide),λt6 n6=>?_⟩⟩
     have s6:=mY.new (o:=.tup [.ref k,.int (0-(j:Int))]) n6
     have h6:(upd H3 t6 (.tup [.ref k,.int (0-(j:Int))])) t6=some (.tup [.ref k,.int (-(j:Int))]):=by rw [ac,Int.zero_sub]
     generalize upd H3 t6 (.tup [.ref k,.int (0-(j:Int))])=H6 at *
     refine ⟨_,rfl,t5,_,_,_,rfl,rfl,SqT.of (s6 _ _ y1),rfl,_,rfl,t5,_,_,_,rfl,rfl,SqT.of (s6 _ _ y1),rfl,_,_,rfl,rfl,(by show 2<=sizeLine; decide),λt7 n7=>?_⟩
     have s7:=mY.new (o:=.tup [.ref k5,.int (0-(y.1:Int))]) n7
     have h7:(upd H6 t7 (.tup [.ref k5,.int (0-(y.1:Int))])) t7=some (.tup [.ref k5,.int (-(y.1:Int))]):=by rw [ac,Int.zero_sub]
     generalize upd H6 t7 (.tup [.ref k5,.int (0-(y.1:Int))])=H7 at *
     have sB:=s6.trans s7
     refine ⟨ky (j,p),ky y,⟨t6,k,rfl,SqT.of (s7 _ _ h6),SqT.of (sB _ _ g2)⟩,⟨t7,k5,rfl,SqT.of h7,SqT.of (sB _ _ y2)⟩,_,rfl,?_⟩
     cases tq:tgt (ky (j,p)) (ky y) with
     | true=>
      refine bH ⟨_,rfl,_,rfl,_,rfl,(by show 3<=sizeLine; decide),λt8 n8=>?_⟩
      refine ⟨_,_,_,rfl,(s3.trans sB).trans (mY.new n8),.inr ⟨(j,p),?_,new H7 sB t8 n8⟩⟩
      rw [fe,<- append_assoc]
      exact top_up ty tq
     | false=>
      refine bx ⟨_,_,_,rfl,s3.trans sB,.inr ⟨y,?_,ly.mono λt xs e=>sB _ _ e⟩⟩
      rw [fe,<- append_assoc]
      exact top_stay ty tq
   ·rintro σ H3 ⟨fv,x4,x5,rfl,s3,fd3⟩
    refine ⟨fv,_,_,_,_,rfl,s3,?_⟩
    rw [Paired.length pe,take_length] at fd3
    rw [take_add_one,ee]
    show Fnd P H3 (gA 0 (row.take j++[e])) fv
    rw [lg,length_take,show 0+min j row.length=j by omega]
    exact fd3
  ·rintro σ H3 ⟨fv,x2,x3,x4,x5,rfl,s3,fd3⟩
   rw [Paired.length pr,take_length] at fd3
   exact ⟨_,rfl,q _ _ s3 fd3⟩
def ir (P0:Addr):Sp:=λvs H Q _=>∃ (c:Addr) (cs:List Int),vs=[.ref c]/\H c=some (.lst (cs.map V.int))/\cs.length<=3/\TabL H P0/\∀ H',Q (.bl true) H'
theorem kit_self (K:Frag) (t:Value):kitOne K t t=some true:=by
 unfold kitOne
 rw [if_pos (beq_self_eq_true t)]
theorem kG:∀ (n k:Nat),bE k (List.replicate n [])=[]
 | 0,_=>rfl
 | n+1,k=>by
  rw [List.replicate_succ]
  show []++bE (k+1) (List.replicate n [])=[]
  rw [kG n (k+1)]
  rfl
theorem sc__law_refused:mZ ["_law_columns_here", "e"] ["_law_columns_here"] (al cK):=.i
theorem ok_refused {f P0 pP qw qU pT pQ:Addr} {fd:FuncData} (F:Fun K "_law_refused" "_law_refused" cK f fd) (T:Blt mg) (ug:lR P w K mg base 12 "lead" (mT P0 pQ))
  (ALadderError:mg "LadderError"=some (.ref qw)) (ANoNumber:mg "NoNumber"=some (.ref pP)) (ANoPart:mg "NoPart"=some (.ref qU)) (ANoRing:mg "NoRing"=some (.ref pT)) (ANoRow:mg "NoRow"=some (.ref pQ))
  (nValueError:mg "ValueError" = none) (xc:XCl K pQ) (ml:PySem.W.exmOne K (.ref pQ) (.ref qw)=some true) (kv:kitOne K (.ref pQ) (.type "ValueError")=some true) (ko:PySem.W.kitAny K (.ref pQ) [.ref pP,.ref qU,.ref pT]=some false) :
  nk P w K mg base CX0 13 f fd ["_law_columns_here"] (ir P0):=by
 refine F.o sc__law_refused λ_ _ _ _ H _ Q _ hr h=>?_
 ·obtain ⟨c,cs,rfl,hc,c3,hT,q⟩:=h
  refine ⟨_,(ag (ps_try (i:=1) rfl sc__law_refused.nd rfl ALadderError (psx_expr (pex_fn ug hr.m (by exact (aa (pv 0) (aa (by exact aX (N:=["_law_column"]) (src:=[none]) rfl rfl rfl (by exact (aM K rfl (pv 0))) (λ_ _ _=>by exact ⟨by exact (bM (i:=0) nd_17 rfl rfl),bj,by exact (aQ af)⟩)) af))))) (λ_=>by exact (aj (ar (md (lQ K T (aa (pv 1) (aa (cS (v:=.ref pQ) rfl ANoRow rfl) af))) (md (lQ K T (aa (pv 1) (aa (pe_bltn (v:=.ty "ValueError") rfl nValueError ip rfl) af))) (pe_one (pe_not (lQ K T (aa (pv 1) (aa (aL (aa (cS (v:=.ref pP) rfl ANoNumber rfl) (aa (cS (v:=.ref qU) rfl ANoPart rfl) (aa (cS (v:=.ref pT) rfl ANoRing rfl) af)))) af)))))))))))
(aj (ar fH))),?_⟩
  refine ⟨_,rfl,_,rfl,c,rfl,⟨_,SqL.of hc⟩,kh (P:=0) (rest:=[]) rfl (λi e=>e=[]) hc (by rw [length_map]; omega) (λi v H1 R e1 sm k=>?_) λd es' out H1 nd sm hd pr lr rel=>?_⟩
  ·exact ⟨Nat.zero_le _,λl nl=>k l [] [] _ (mY.new nl) nl ac .nil rfl⟩
  ·have eo:out=List.replicate out.length []:=List.eq_replicate_iff.mpr ⟨rfl,λe he=>by
    obtain ⟨i,hi,ei⟩:=getElem_of_mem he
    exact rel i e (by rw [getElem?_eq_getElem hi,ei])⟩
   have f0:bE 0 out=[]:=by rw [eo]; exact kG _ 0
   have lo:out.length<=3:=by rw [lr,length_map]; exact c3
   refine ⟨c,d,0,es',out,rfl,hd,ap (λ_ _=>nB.ent) pr,by omega,hT.same sm,λ_ H2 s2=>⟨pQ,rfl,ml,λe he=>?_⟩,λv x H' tp=>by rw [f0] at tp; exact absurd tp.1 (by simp)⟩
   have s3:=mY.new (o:=excO e pQ) he
   have hx:(upd H2 e (excO e pQ)) e=some (excO e pQ):=ac
   generalize upd H2 e (excO e pQ)=H3 at *
   refine ⟨_,rfl,e,pQ,_,true,rfl,hx,xc,.inl ⟨rfl,kit_self _ _⟩,_,rfl,bH ?_⟩
   refine ⟨_,rfl,e,pQ,_,true,rfl,hx,xc,.inl ⟨rfl,kv⟩,_,rfl,bH ?_⟩
   refine ⟨_,rfl,(by show 3<=sizeLine; decide),λt nt=>?_⟩
   have s4:=mY.new (o:=.tup [.ref pP,.ref qU,.ref pT]) nt
   exact ⟨e,pQ,_,false,rfl,s4 _ _ hx,xc,.inr ⟨t,_,rfl,ac,rfl,ko⟩,_,rfl,q _⟩
theorem nd_18:(["_law_number_here"]:List Str).Nodup:=by decide +kernel
def spLaw (K:Frag) (P0:Addr):Sp:=λvs H Q _=>∃ (a:Addr) (ns:List Int),vs=[.ref a]/\SqL K H a (ns.map V.int)/\ns.length<=63/\H P0=some (.tbl #[])/\∀ H',Q (.bl true) H'
theorem oE.more {a p:Addr} {P:Int} {H:Hp} {v:V} {e:List ak} (np:H p=none) (h:oE [a] P H v e):oE [a,p] P H v e:=by
 obtain ⟨l,ts,rfl,la,hl,pr⟩:=h
 exact ⟨l,ts,rfl,by simp only [mem_cons,not_mem_nil,or_false] at *; exact λz=>z.elim la (ah hl np),hl,pr⟩
theorem oF.more {a p:Addr} {P:Int} {H:Hp} {v:V} {row:List (List ak)} (np:H p=none) (h:oF [a] P H v row):oF [a,p] P H v row:=by
 obtain ⟨r,es,rfl,ra,hr,pr⟩:=h
 exact ⟨r,es,rfl,by simp only [mem_cons,not_mem_nil,or_false] at *; exact λz=>z.elim ra (ah hr np),hr,ap (λ_ _=>oE.more np) pr⟩
theorem oF.less {av av':List Addr} {P:Int} {H:Hp} {v:V} {row:List (List ak)} (s:∀ a ∈ av',a ∈ av) (h:oF av P H v row):oF av' P H v row:=by
 obtain ⟨r,es,rfl,ra,hr,pr⟩:=h
 exact ⟨r,es,rfl,λm=>ra (s _ m),hr,ap (λ_ _=>oE.less s) pr⟩
theorem ot.keepP {P0:Addr} {tps:Array Value} {P:Int} {H H':Hp} {v:V} {row:List (List ak)} (hP:H P0=some (.tbl tps)) (k:nU P0 H H') (h:ot P H v row):ot P H' v row:=by
 obtain ⟨r,es,rfl,hr,pr⟩:=h
 refine ⟨r,es,rfl,k.lst hP hr,ap (λ_ _ z=>?_) pr⟩
 obtain ⟨l,ts,rfl,hl,pe⟩:=z
 exact ⟨l,ts,rfl,k.lst hP hl,pe.mono λt xs e=>k.tup hP e⟩
theorem nZ.keepP {CF CR P0 x:Addr} {tps:Array Value} {P:Int} {H H':Hp} (hP:H P0=some (.tbl tps)) (k:nU P0 H H') (h:nZ CF CR H x P):nZ CF CR H' x P:=by
 rcases h with ⟨h0,dx,e⟩ | ⟨h0,dx,e⟩
 ·exact .inl ⟨h0,dx,k _ _ e (bq e hP (by intro z; cases z))⟩
 ·exact .inr ⟨h0,dx,k _ _ e (bq e hP (by intro z; cases z))⟩
def df (P m:Int):Int × Int:=if P=0 then (m,1) else (m % P,1)
theorem num17_ok {P m:Int} (hP:nq P) (hm:m=1/\P=2\/m=2/\P ≠ 2):OkN P (df P m)/\Sz 14 (df P m)/\df P m ≠ (0,1):=by
 have hb:=hP.b
 unfold df
 by_cases h0:P=0
 ·rw [if_pos h0]
  have:m=2:=by omega
  subst this
  exact ⟨.inl ⟨h0,by decide,by decide⟩,⟨by decide,by decide⟩,by decide⟩
 ·rw [if_neg h0]
  have e:m % P=m:=Int.emod_eq_of_lt (by omega) (by omega)
  rw [e]
  refine ⟨.inr ⟨h0,by show 0<=m; omega,by show m<P; omega,rfl⟩,⟨by show m.natAbs<2 ^ 14; omega,by show (1:Int).natAbs<2 ^ 14; decide⟩,λz=>?_⟩
  have z':m=0:=congrArg Prod.fst z
  omega
theorem kC:∀ a:List Int,aU a (List.replicate a.length 1)=a.map (· + 1)
 | []=>rfl
 | x::a=>by
  rw [length_cons,List.replicate_succ]
  show (x+1)::aU a (List.replicate a.length 1)=_
  rw [kC a]
  rfl
theorem emul17 {P L:Int} (L4:L<=4) {e:List ak} (h:ow P L 200 e/\e.length<=3):EMul P L.toNat e:=by
 refine ⟨by omega,h.1.nodup,λp hp=>?_⟩
 obtain ⟨o,sz,_,len,_⟩:=h.1.2 p hp
 exact ⟨o,sz.mono (by decide),by omega,by omega⟩
theorem rowmul17 {P L:Int} {cs:List Int} {row out:List (List ak)} {b:List Int} {n:Int × Int} (hP:nq P) (hT:RowT P L cs row) (hb:mC P L b n) (lo:out.length=row.length) (rel:∀ (i:Nat) (e:List ak),out[i]? = some e->∃ a,row[i]? = some a/\nO P (bd P a [(b,n)]) e):out=row.map λe=>e.map (shf P b n):=by
 refine List.ext_getElem? λi=>?_
 rw [getElem?_map]
 cases e1:out[i]? with
 | none=>
  have:row[i]? = none:=by
   rw [List.getElem?_eq_none_iff] at *
   omega
  rw [this]
  rfl
 | some e=>
  obtain ⟨a,ea,is⟩:=rel i e e1
  rw [ea,times_is hP (by decide) (hT.ent (mem_of_getElem? ea)).1 hb is]
  rfl
theorem oj:mZ ["_law_script", "_law_prime_here", "_law_letters", "_law_columns_here", "_law_rows", "_law_ring_here", "_law_asked", "_law_k", "_law_bag_here", "_law_row", "_law_due", "_law_handed", "_law_found", "_law_part", "_law_more"] ["_law_script"] (al s_law):=.i
set_option maxHeartbeats 4000000 in
theorem ok_law {f CF CR CG pT pQ P0:Addr} {fd:FuncData} (F:Fun K "law" "law" s_law f fd) (T:Blt mg) (tD:FnB P w K mg base 7 "_law_table" (spTable K)) (qJ:FnB P w K mg base 2 "_law_bag" (spBag K)) (uh:lR P w K mg base 5 "_law_ring" (l5 CF CR CG pT)) (pO:FnB P w K mg base 1 "_law_take" bQ) (qV:FnB P w K mg base 5 "_law_spread_row" spSpread) (ui:FnB P w K mg base 1 "_law_lead" spLLead) (sN:FnB P w K mg base 1 "_law_copied" spCopied) (ug:lR P w K mg base 12 "lead" (mT P0 pQ)) (tE:FnB P w K mg base 1 "_law_whole" (spWhole K)) (uj:FnB P w K mg base 2 "_law_made" spMade17) (qB:FnB P w K mg base 2 "_law_times" (spLOp fC)) (pY:FnB P w K mg base 1 "_law_nought" gz) (uk:FnB P w K mg base 8 "row_times" (jM CF CR CG)) (sw:FnB P w K mg base 13 "_law_refused" (ir P0)):nk P w K mg base CX0 14 f fd ["_law_script"] (spLaw K P0):=by
 refine F.o oj λ_ _ _ _ H _ Q _ hr h=>?_
 ·obtain ⟨a,ns,rfl,hS,hlen,hP0,q⟩:=h
  refine ⟨_,(ag (e7 (au tD hr.m (aa (pv 0) (aa ae af))) (f8 rfl (by exact aI (by exact (aD (i:=1) oj.nd rfl (Or.inl rfl))) (by exact aI (by exact (aD (i:=2) oj.nd rfl (Or.inl rfl))) (by exact aI (by exact (aD (i:=3) oj.nd rfl (Or.inl rfl))) (by exact aI (by exact (aD (i:=4) oj.nd rfl (Or.inl rfl))) dW))))))
(ag (aq (i:=5) oj.nd rfl (Or.inl rfl) (pe_fnX uh hr.m fc (aa (pv 1) (aa (pv 2) af))))
(ag (aq (i:=6) oj.nd rfl (Or.inl rfl) (jK K T (pv 4)))
(ag (bp PassesOwn.never rfl (lB rfl T.range (aa ae (aa (pl_max T (aa ae (aa (pl_min T (aa ae (aa (ce K T (pv 0)) af))) af))) af))) (aD (i:=7) oj.nd rfl (Or.inl rfl))
(ag (aq (i:=8) oj.nd rfl (Or.inl rfl) (au qJ hr.m (aa (pv 0) (aa (pv 7) af))))
(aj (cE (bmA K rfl (pv 6) (aa (au qV hr.m (aa (pv 1) (aa (pv 2) (aa (pv 3) (aa (ao aG (kpl_min1 T (pv 3) false) (au pO hr.m (aa (pv 8) (aa ae af)))) (aa (pv 8) af)))))) af))))))
(ag (bp PassesOwn.never rfl (aM K rfl (pv 6)) (aD (i:=9) oj.nd rfl (Or.inl rfl))
(ag (aq (i:=10) oj.nd rfl (Or.inl rfl) (au ui hr.m (aa (pv 9) af)))
(ag (aq (i:=11) oj.nd rfl (Or.inl rfl) (aA (aE K rfl) (au sN hr.m (aa (aQ (aa (pv 9) af)) af)) ae (λ_ _=>rfl)))
(aj (aJ (aw op_notN (pv 10) jr (az _))
(ag (aq (i:=12) oj.nd rfl (Or.inl rfl) (pe_fnX ug hr.m fc (aa (pv 3) (aa (pv 11) af))))
(ag (aJ (PW.pt (gB (lC (fT (kpl_is K T (pv 12) T.tuple iu))) (gB (aw (jY K rfl hr.units) (pv 12) (pv 10) (az _)) (gB (lC (fT (au tE hr.m (aa (aA (ay K rfl) (pv 12) ae (λ_ _=>rfl)) af)))) (gd (aw (jY K rfl hr.units) (pv 11) (pv 9) (az _)))))))
(aj (ar fH))
aB)
(ag (aq (i:=13) oj.nd rfl (Or.inl rfl) (aL (aa (cF K T (by exact aX (N:=["_law_letter"]) (src:=[none]) rfl rfl rfl (by exact (bu rfl T.range (aa (pv 2) af))) (λ_ _ _=>by exact ⟨by exact (bM (i:=0) nd_5 rfl rfl),bj,by exact ae⟩))) (aa (au uj hr.m (aa (pv 1) (aa (ao aG ae (dj hW (by rfl) T.int fz (aa (fw op_ne (pv 1) ae (az _)) af))) (aa ae af)))) af))))
(ag (aq (i:=14) oj.nd rfl (Or.inl rfl) (aL (aa (aA (ay K rfl) (pv 10) ae (λ_ _=>rfl)) (aa (cF K T (by exact aX (N:=["_law_number_here"]) (src:=[none]) rfl rfl rfl (by exact (kpi_tup K rfl (aA (ay K rfl) (pv 10) ae (λ_ _=>rfl)))) (λ_ _ _=>by exact ⟨by exact (bM (i:=0) nd_18 rfl rfl),bj,by exact (ao aG (pv 0) ae)⟩))) (aa (au qB hr.m (aa (pv 1) (aa (aA (ay K rfl) (pv 10) ae (λ_ _=>rfl)) (aa (aA (ay K rfl) (pv 13) ae (λ_ _=>rfl)) af)))) af)))))
(aj (aJ (PW.pt (pw_and (aw (jY K rfl hr.units) (aA (ay K rfl) (pv 13) ae (λ_ _=>rfl)) (au pY hr.m (aa (pv 1) af)) (az _)) (pw_and1 (aw (jY K rfl hr.units) (pe_fnX ug hr.m fc (aa (pv 3) (aa (au uk hr.m (aa (pv 5) (aa (pv 11) (aa (aQ (aa (pv 13) af)) af)))) af))) (pv 14) (az _)))))
(aj (ar fH))
aB))))))
aB)))))
(aj (ar (au sw hr.m (aa (pv 3) af))))))))),?_⟩
  refine ⟨_,rfl,a,ns,0,rfl,hS,hlen,by decide,by decide,λt c rw P L cs ws rows H1 s1 ht hc hrw prs ⟨hP,L1,L4,c1,c3,oc,r1,r5,okr⟩=>?_⟩
  refine ⟨t,_,rfl,SqT.of ht,rfl,_,_,rfl,_,_,rfl,_,_,rfl,_,_,rfl,rfl,?_⟩
  refine ⟨_,rfl,_,rfl,P,L,rfl,hP,λh=>absurd ⟨L1,L4⟩ h,λ_ _ g x H2 s2 hN hG=>?_⟩
  have hc:=s2 _ _ hc
  have hrw:=s2 _ _ hrw
  have prs:Paired (ot P H2) ws rows:=ap (λ_ _ z=>z.same s2) prs
  have s12:=s1.trans s2
  have hS2:=s12.seq hS
  have hP02:=s12 _ _ hP0
  refine ⟨_,rfl,rw,ws,rfl,.inl (SqL.of hrw),λas nas=>?_⟩
  have s3:=mY.new (o:=.lst ws) nas
  have h3:(upd H2 as (.lst ws)) as=some (.lst ws):=ac
  have pr3:Paired (oF [as] P (upd H2 as (.lst ws))) ws rows:=ap (λ_ _ z=>ot.fresh nas s3 z) prs
  generalize upd H2 as (.lst ws)=H3 at *
  dsimp only
  refine ⟨_,rfl,a,_,rfl,.inl (s3.seq hS2),_,_,rfl,_,_,rfl,_,_,rfl,⟨by decide,by decide,by omega,by omega⟩,dG (lo:=7) (λi σ H'=>∃ (vs:List V) (rws:List (List (List ak))) (x7 x8:Option V),σ=[some (.ref a),some (.int P),some (.int L),some (.ref c),some (.ref rw),some (.ref g),some (.ref as),x7,x8,none,none,none,none,none,none]/\mY H2 H'/\H' as=some (.lst vs)/\Paired (oF [as] P H') vs rws/\(∀ row ∈ rws,RowT P L cs row)/\rws.length<=5+i) ?_ ?_ ?_⟩
  ·exact ⟨ws,rows,none,none,rfl,s3,h3,pr3,λrow hr=>(okr row hr).t,r5⟩
  ·rintro i σ H4 hi ⟨vs,rws,x7,x8,rfl,s4,h4,pr4,ok4,l4⟩ N0 B0 hN0
   have lm:(ns.map V.int).length=ns.length:=length_map ..
   have lv:vs.length=rws.length:=Paired.length pr4
   refine ⟨_,rfl,_,rfl,a,ns,_,rfl,s4.seq hS2,hlen,by omega,by omega,λp pa pb np hbag=>?_⟩
   have pas:p ≠ as:=(ah h4 np).symm
   have s5:=mY.new (o:=.lst [.int pa,.int pb]) np
   have hp5:(upd H4 p (.lst [.int pa,.int pb])) p=some (.lst [.int pa,.int pb]):=ac
   generalize upd H4 p (.lst [.int pa,.int pb])=H5 at *
   have h5:=s5 _ _ h4
   have s25:mY H2 H5:=s4.trans s5
   refine ⟨_,rfl,.inl ⟨rfl,_,SqL.of h5⟩,?_⟩
   refine ⟨_,rfl,_,rfl,_,rfl,_,rfl,c,cs,rfl,sqvL (SqL.of (s25 _ _ hc)),(λz=>by rw [z] at c1; simp at c1),λm hm hle=>?_⟩
   refine ⟨_,rfl,p,pa,pb,_,_,rfl,hp5,hbag,by decide,by decide,aC (by decide) (by decide),λr6 a6 b6 r60 r66 hb6=>?_⟩
   have kp6:∀ c o,H5 c=some o->c ≠ p->upd H5 p (.lst [.int a6,.int b6]) c=some o:=λc o e hc=>by rw [am hc]; exact e
   have hp6:(upd H5 p (.lst [.int a6,.int b6])) p=some (.lst [.int a6,.int b6]):=ac
   generalize upd H5 p (.lst [.int a6,.int b6])=H6 at *
   have cp:c ≠ p:=ah (s4 _ _ hc) np
   have h6:=kp6 _ _ h5 pas.symm
   refine ⟨_,_,rfl,rfl,_,rfl,p,c,P,L,_,a6,b6,_,cs,rfl,hP,L1,L4,kp6 _ _ (s25 _ _ hc) cp,cp,c3,hp6,hb6,by decide,λr es row a7 b7 H7 nr hr7 pe7 ok7 hp7 hb7 kp7=>?_⟩
   have h7:=kp7 _ _ h6 pas.symm
   refine ⟨as,_,_,rfl,rfl,h7,by rw [lv,sizeLine_eq]; omega,?_⟩
   have ka:m5 [as,p] H4 (upd H7 as (.lst (vs++[.ref r]))):=(((m5.of s5).trans (m5.bag hp5 kp6 (by simp))).trans (m5.bag hp6 kp7 (by simp))).trans (m5.put h7 (by simp))
   have kb:m5 [as] H7 (upd H7 as (.lst (vs++[.ref r]))):=m5.put h7 (by simp)
   refine hN0 _ _ ⟨vs++[.ref r],rws++[row],_,_,rfl,λc' o e=>?_,ac,aH (oF.keep kb ⟨r,es,rfl,by simpa using (ah h6 nr).symm,hr7,ap (λv e z=>?_) pe7⟩) (ap (λ_ _ z=>((z.more np).keep ka).less λa h=>by simp only [List.mem_singleton] at h; rw [h]; simp) pr4),λrow' hr'=>?_,by rw [length_append,length_singleton]; omega⟩
   ·rw [am (ah e nas)]
    have cp':=ah (s4 _ _ e) np
    exact kp7 _ _ (kp6 _ _ (s25 _ _ e) cp') cp'
   ·obtain ⟨l,ts,rfl,nl,_,hl,pl⟩:=z
    exact ⟨l,ts,rfl,by simpa using (ah h6 nl).symm,hl,pl⟩
   ·rcases List.mem_append.mp hr' with z | z
    ·exact ok4 row' z
    ·rw [List.mem_singleton.mp z]
     exact rowT_spread ok7
  ·rintro σ H4 ⟨vs,rws,x7,x8,rfl,s4,h4,pr4,ok4,l4⟩
   have hP04:=s4 _ _ hP02
   have hT4:TabL H4 P0:=⟨#[],hP04,trivial,.inl rfl⟩
   have pr4:Paired (ot P H4) vs rws:=ap (λ_ _=>oF.row) pr4
   have hc4:=s4 _ _ hc
   refine ⟨_,rfl,as,rfl,⟨_,SqL.of h4⟩,bX (xs:=vs) (λi σ H'=>∃ x9 x10 x11 x12 x13 x14:Option V,σ=[some (.ref a),some (.int P),some (.int L),some (.ref c),some (.ref rw),some (.ref g),some (.ref as),x7,x8,x9,x10,x11,x12,x13,x14]/\nU P0 H4 H'/\TabL H' P0) ?_ ?_ ?_ ?_⟩
   ·exact ⟨_,_,_,_,_,_,rfl,λc o e _=>e,hT4⟩
   ·rintro i σ H' _ ⟨x9,x10,x11,x12,x13,x14,rfl,kp,_⟩
    exact SqL.of (kp.lst hP04 h4)
   ·rintro i v σ H5 hx ⟨x9,x10,x11,x12,x13,x14,rfl,kp5,hT5⟩ N1 B1 hN1
    obtain ⟨row,erow,zr⟩:=aO pr4 hx
    obtain ⟨r,es,rfl,hr5,pe5⟩:=zr.keepP hP04 kp5
    have rT:=ok4 row (mem_of_getElem? erow)
    have lrow:row.length<=3:=by rw [rT.len]; exact c3
    refine ⟨_,rfl,r,P,es,row,rfl,hr5,pe5,λdv H6 s6 fnd=>?_⟩
    refine ⟨_,rfl,(by show 1<=sizeLine; decide),λl7 n7=>?_⟩
    have s7:=mY.new (o:=.lst [.ref r]) n7
    have h7:(upd H6 l7 (.lst [.ref r])) l7=some (.lst [.ref r]):=ac
    generalize upd H6 l7 (.lst [.ref r])=H7 at *
    have s57:=s6.trans s7
    have zr7:ot P H7 (.ref r) row:=⟨r,es,rfl,s57 _ _ hr5,ap (λ_ _ z=>z.same s57) pe5⟩
    refine ⟨l7,P,[.ref r],[row],rfl,h7,.cons zr7 .nil,by show 1<=60; decide,λrow' h=>by rw [List.mem_singleton.mp h]; omega,λd8 ws8 H8 n8 s8 hd8 p8=>?_⟩
    cases p8 with
    | cons pz pn=>
     cases pn
     obtain ⟨rh,esh,rfl,nh,_,hrh,peh⟩:=pz
     have peh:Paired (ou P H8) esh row:=ap (λ_ _=>nB.ent) peh
     have s68:mY H6 H8:=s7.trans s8
     have s58:=s6.trans s68
     have kp8:nU P0 H4 H8:=kp5.trans (.of s58)
     have hT8:=hT5.same s58
     refine ⟨d8,_,_,_,rfl,rfl,SqL.of hd8,cC (j:=0) rfl,?_⟩
     rcases fnd with ⟨_,rfl⟩ | ⟨x0,tx,ld⟩
     ·exact ⟨_,rfl,rfl,_,rfl,bx (hN1 _ _ ⟨_,_,_,_,_,_,rfl,kp8,hT8⟩)⟩
     have tf:=top_alls rT.flat tx
     have ld':=ld
     obtain ⟨td,kd,ud,rfl,_,_,_⟩:=ld'
     refine ⟨_,rfl,rfl,_,rfl,bH ?_⟩
     refine ⟨_,rfl,_,rfl,c,rh,P,esh,row,rfl,hrh,peh,by omega,hT8,(λf0=>absurd tf.1 (by rw [f0]; simp)),λfv x1 H9 t1 lf kp9 hT9=>?_⟩
     obtain rfl:x1=x0:=top_one t1 tf
     obtain ⟨tps8,hP8,_⟩:=id hT8
     have ld9:Ld3 P H9 (.ref td) x1:=(ld.mono λt xs e=>s68 _ _ e).mono λt xs e=>kp9.tup hP8 e
     have zr9:ot P H9 (.ref r) row:=ot.keepP hP8 kp9 (ot.same s58 ⟨r,es,rfl,hr5,pe5⟩)
     have zh9:ot P H9 (.ref rh) row:=ot.keepP hP8 kp9 ⟨rh,esh,rfl,hrh,peh⟩
     have kp49:nU P0 H4 H9:=kp8.trans kp9
     have lf':=lf
     obtain ⟨tfv,kf,uf,rfl,f1,_,_⟩:=lf'
     refine ⟨_,rfl,_,true,.tup f1,kit_self _ _,_,rfl,bx ?_⟩
     refine ⟨_,rfl,_,rfl,d3 P x1,d3 P x1,lf.dr,ld9.dr,(fW P x1).sh (by decide),(fW P x1).sh (by decide),_,rfl,?_⟩
     rw [jj (fW P x1)]
     refine bx ⟨_,rfl,tfv,_,_,_,rfl,rfl,SqT.of f1,rfl,_,_,true,false,rfl,.int _,rfl,rfl,_,rfl,bx ?_⟩
     refine ⟨_,rfl,_,rfl,dR P row,dR P row,dr_row zh9,dr_row zr9,(lay_dR P row).sh (by decide),(lay_dR P row).sh (by decide),_,rfl,?_⟩
     rw [jj (lay_dR P row)]
     refine bx ?_
     obtain ⟨i0,t0,_,e0⟩:=dq tf.1
     obtain ⟨xo,xs,_,xl,_⟩:=(rT.ent (mem_of_getElem? e0)).1.2 x1.2 (by simp)
     obtain ⟨m,em,hm⟩:∃ m:Int,(1+if (!decide (V.int P=V.int 2))=true then (1:Int) else 0)=m/\(m=1/\P=2\/m=2/\P ≠ 2):=by
      refine ⟨_,rfl,?_⟩
      by_cases h2:P=2
      ·rw [decide_eq_true (congrArg V.int h2)]
       exact .inl ⟨rfl,h2⟩
      ·rw [decide_eq_false λz=>h2 (by injection z)]
       exact .inr ⟨rfl,h2⟩
     obtain ⟨no,ns14,nnz⟩:=num17_ok hP hm
     refine ⟨_,rfl,L,rfl,by omega,by omega,be (n:=L.toNat) (σ0:=[none]) rfl (λacc i ws σ H'=>∃ u:Option V,σ=[u]/\mY H9 H'/\ws=(List.replicate i (1:Int)).map V.int) (by rw [sizeLine_eq]; omega) (λacc hacc=>⟨none,rfl,mY.new hacc,rfl⟩) ?_ ?_ ?_ ?_⟩
     ·rintro acc i ws σ H' hacc hi hz _
      exact hi
     ·rintro acc ws σ H' hacc hz _
      exact Nat.le_refl _
     ·rintro acc j ws σ H' x H'' hacc hj hz hzl ⟨u,rfl,sm,rfl⟩ ⟨rfl,rfl⟩
      refine ⟨_,hz,(by rw [sizeLine_eq]; omega),_,ac,by rw [length_append,length_singleton]; omega,_,rfl,sm.put hacc,?_⟩
      rw [List.replicate_succ',map_append]
      rfl
     rintro acc ws σ H10 hacc hz hzl ⟨u,rfl,s10,rfl⟩
     refine ⟨acc,_,rfl,SqL.of hz,λc14 n14=>?_⟩
     have s14:=s10.trans (mY.new (o:=.tup ((List.replicate L.toNat (1:Int)).map V.int)) n14)
     have h14:(upd H10 c14 (.tup ((List.replicate L.toNat (1:Int)).map V.int))) c14=some (.tup ((List.replicate L.toNat (1:Int)).map V.int)):=ac
     generalize upd H10 c14 (.tup ((List.replicate L.toNat (1:Int)).map V.int))=H14 at *
     refine ⟨_,rfl,_,rfl,rfl,.inr ⟨_,rfl,_,_,rfl,rfl,P,m,congrArg (λz=>[V.int P,V.int z,V.int 1]) em,hP,by omega,by omega,λu15 H15 s15 a15=>⟨(by show 2<=sizeLine; decide),λt16 n16=>?_⟩⟩⟩
     have s16:=mY.new (o:=.tup [.ref c14,u15]) n16
     have h16:(upd H15 t16 (.tup [.ref c14,u15])) t16=some (.tup [.ref c14,u15]):=ac
     generalize upd H15 t16 (.tup [.ref c14,u15])=H16 at *
     have a16:At P H16 u15 (df P m):=a15.same s16
     have h14:=s16 _ _ (s15 _ _ h14)
     have s16:mY H9 H16:=(s14.trans s15).trans s16
     have ld16:=ld9.mono λt xs e=>s16 _ _ e
     obtain ⟨_,kd,ud,e1,d1,d2,d4⟩:=ld16
     cases e1
     refine ⟨_,rfl,td,_,_,_,rfl,rfl,SqT.of d1,rfl,_,rfl,td,_,_,_,rfl,rfl,SqT.of d1,rfl,kd,rfl,⟨_,SqT.of d2⟩,comp_tup (rest:=[]) (λv=>.int (toI v+1)) rfl (SqT.of d2) (by rw [length_map,sizeLine_eq]; omega) (λi x H R hx sm hR=>?_) (λacc H17 nacc s17 hacc=>?_)⟩
     ·obtain ⟨z,_,rfl⟩:=cD hx
      exact ⟨_,rfl,_,_,rfl,rfl,hR⟩
     refine ⟨acc,_,rfl,SqL.of hacc,λt18 n18=>?_⟩
     have e18:(x1.2.1.map V.int).map (λv=>V.int (toI v+1))=(x1.2.1.map (· + 1)).map V.int:=by
      rw [map_map,map_map]
      rfl
     rw [e18]
     have s18:=s17.trans (mY.new (o:=.tup ((x1.2.1.map (· + 1)).map V.int)) n18)
     have h18:(upd H17 t18 (.tup ((x1.2.1.map (· + 1)).map V.int))) t18=some (.tup ((x1.2.1.map (· + 1)).map V.int)):=ac
     generalize upd H17 t18 (.tup ((x1.2.1.map (· + 1)).map V.int))=H18 at *
     refine ⟨_,rfl,_,rfl,td,_,_,_,rfl,rfl,SqT.of (s18 _ _ d1),rfl,_,rfl,t16,_,_,_,rfl,rfl,SqT.of (s18 _ _ h16),rfl,P,ud,u15,x1.2.2,df P m,rfl,hP,d4.mono λt xs e=>s18 _ _ e,a16.mono λt xs e=>s18 _ _ e,xo,no,xs.mono (by decide),ns14.mono (by decide),λr19 H19 s19 a19=>⟨(by show 3<=sizeLine; decide),λt20 n20=>?_⟩⟩
     have s20:=mY.new (o:=.tup [.int (x1.1:Int),.ref t18,r19]) n20
     have h20:(upd H19 t20 (.tup [.int (x1.1:Int),.ref t18,r19])) t20=some (.tup [.int (x1.1:Int),.ref t18,r19]):=ac
     generalize upd H19 t20 (.tup [.int (x1.1:Int),.ref t18,r19])=H20 at *
     have lm:Ld3 P H20 (.ref t20) (x1.1,(x1.2.1.map (· + 1),fC P x1.2.2 (df P m))):=⟨t20,t18,r19,rfl,h20,s20 _ _ (s19 _ _ h18),a19.same s20⟩
     have s1620:mY H16 H20:=(s18.trans s19).trans s20
     have s920:mY H9 H20:=s16.trans s1620
     have nx:∀ σ' H',mY H20 H'->σ'=[some (.ref a),some (.int P),some (.int L),some (.ref c),some (.ref rw),some (.ref g),some (.ref as),x7,x8,some (.ref r),some (.ref td),some (.ref rh),some (.ref tfv),some (.ref t16),some (.ref t20)]->N1 σ' H':=λσ' H' s e=>hN1 _ _ ⟨_,_,_,_,_,_,e,kp49.trans (.of (s920.trans s)),hT9.same (s920.trans s)⟩
     refine ⟨_,rfl,t16,_,_,_,rfl,rfl,SqT.of (s1620 _ _ h16),rfl,_,rfl,P,rfl,hP,λr21 H21 s21 a21=>⟨dN P (df P m),dN P (0,1),fF ((a16.same s1620).same s21),fF a21,bC _ _,bC _ _,_,rfl,bf (λ_=>?_) (λ_=>bx (nx _ _ s21 rfl))⟩⟩
     have s921:=s920.trans s21
     have g2:nU P0 H4 H21:=kp49.trans (.of s921)
     have s2P:∀ c o,H2 c=some o->c ≠ P0->H21 c=some o:=λc o e n=>g2 _ _ (s4 _ _ e) n
     have zh21:ot P H21 (.ref rh) row:=zh9.same s921
     obtain ⟨_,esh',e1,hrh21,peh21⟩:=zh21
     cases e1
     refine ⟨_,rfl,_,rfl,_,rfl,_,rfl,(by show 1<=sizeLine; decide),λl22 n22=>?_⟩
     have s22:=mY.new (o:=.lst [.ref t16]) n22
     have h22:(upd H21 l22 (.lst [.ref t16])) l22=some (.lst [.ref t16]):=ac
     generalize upd H21 l22 (.lst [.ref t16])=H22 at *
     have s1622:mY H16 H22:=(s1620.trans s21).trans s22
     have lo1:((List.replicate L.toNat (1:Int)).length:Int)=L:=by rw [length_replicate]; omega
     have hby:mC P L (List.replicate L.toNat 1) (df P m):=⟨lo1,λe he=>by rw [(List.mem_replicate.mp he).2]; decide,no,ns14,nnz⟩
     obtain ⟨dxg,hg⟩:=hG
     have ng:g ≠ P0:=bq hg hP02 (by intro z; cases z)
     refine ⟨g,x,rh,l22,P,L,L.toNat,esh',[.ref t16],row,[(List.replicate L.toNat 1,df P m)],rfl,hP,⟨dxg,s22 _ _ (s2P _ _ hg ng)⟩,nZ.keepP hP02 (λc o e n=>s22 _ _ (s2P _ _ e n)) hN,s22 _ _ hrh21,ap (λ_ _ z=>z.same s22) peh21,h22,.cons ⟨t16,c14,u15,rfl,s1622 _ _ h16,s1622 _ _ h14,a16.same s1622⟩ .nil,by omega,λe he=>emul17 L4 (rT.ent he),⟨by show 1<=2; decide,λp hp=>?_⟩,λd23 es23 out H23 n23 s23 hd23 p23 lo rel=>?_⟩
     ·rw [List.mem_singleton.mp hp]
      exact ⟨no,ns14.mono (by decide),length_replicate⟩
     have eo:=rowmul17 hP rT hby lo rel
     have tm:Top (bE 0 out) (x1.1,shf P (List.replicate L.toNat 1) (df P m) x1.2):=by
      rw [eo,fsts_map]
      exact top_map (rT.lens lo1) tf
     have s923:=(s921.trans s22).trans s23
     have hT23:=hT9.same s923
     obtain ⟨tps23,hP23,_⟩:=id hT23
     refine ⟨c,d23,P,es23,out,rfl,hd23,ap (λ_ _=>nB.ent) p23,by omega,hT23,(λf0=>absurd tm.1 (by rw [f0]; simp)),λlv x24 H24 t24 l24 kp24 hT24=>?_⟩
     obtain rfl:=top_one t24 tm
     have ex:shf P (List.replicate L.toNat 1) (df P m) x1.2=(x1.2.1.map (· + 1),fC P x1.2.2 (df P m)):=by
      unfold shf
      rw [show L.toNat=x1.2.1.length by omega,kC]
     rw [ex] at l24
     have lm24:=(lm.mono λt xs e=>((s21.trans s22).trans s23) _ _ e).mono λt xs e=>kp24.tup hP23 e
     refine ⟨_,rfl,d3 P _,d3 P _,l24.dr,lm24.dr,(fW P _).sh (by decide),(fW P _).sh (by decide),_,rfl,?_⟩
     rw [jj (fW P _)]
     exact bx (hN1 _ _ ⟨_,_,_,_,_,_,rfl,(kp49.trans (.of s923)).trans kp24,hT24⟩)
   ·rintro σ H5 ⟨x9,x10,x11,x12,x13,x14,rfl,kp5,hT5⟩
    exact ⟨_,rfl,c,cs,rfl,kp5.lst hP04 hc4,c3,hT5,q⟩
section
variable {P:Program} {w:World} {K:Frag} {mg:Str->Option Value} {base h:Heap} {n:Str} {st:Stmt} {k:Nat} {sp:Sp} {ps:List Str}
theorem fxC {c0 P0:Addr} (X:K.In h) (G:h.Ns mainGlobals mg) (d:nu K n st) (ht:tabIn K n=some (c0,P0)) (o:∀ {f fd},Fun K n n st f fd->(∀ oc od fd' osl,K.lookup f=some ⟨oc,od,.func fd',osl⟩->fd'.code=.ref c0)->nk P w K mg base (CXE P w) k f fd ps sp) (b:BindsOk n st ps):lR P w K mg base k n sp:=
 let ⟨f,fd,a,F⟩:=d
 ⟨f,fd,ps,o F (code_of ht a),mg_of X G a,F.kp,b.b F⟩
theorem lawT {fa c0 P0:Addr} {x:Str} (X:K.In h) (G:h.Ns mainGlobals mg) (d:nu K n st) (e:mg n=some (.ref fa))
  (o:∀ {fd} {base:Heap},Fun K n n st fa fd->K.In base->base.Ns mainGlobals mg->BmB mg base->CodeHd base c0 P0->nk P w K mg base CX0 k fa fd ps sp) (b:BindsOk n st [x]) :
  ∃ fd:FuncData,(∀ (s:Shared) (v:Value),BindsTo s fd ⟨[v],[]⟩ [(x,v)])/\∀ base:Heap,K.In base->base.Ns mainGlobals mg->BmB mg base->CodeHd base c0 P0->nk P w K mg base CX0 k fa fd ps sp:=by
 obtain ⟨f,fd,a,F⟩:=d
 cases e.symm.trans (mg_of X G a)
 obtain ⟨oc,od,kV,doc,pm,an,cdv,ct,osl,rfl,lk,hcd⟩:=id F.ex
 exact ⟨_,λs v=>.of_eq (b kV doc pm an cdv ct v),λbase=>o F⟩
theorem tabIn_of {f c0 P0:Addr} {oc oc':Value} {od od':Option Addr} {osl osl':Array (Option Value)} {fd:FuncData} {vs:Array Value} (a:nsIn K mainGlobals n=some (some (.ref f))) (l:K.lookup f=some ⟨oc,od,.func fd,osl⟩) (hc:fd.code=.ref c0) (lc:K.lookup c0=some ⟨oc',od',.fields vs,osl'⟩) (hv:(vs[11]?:Option Value)=some (.ref P0)):tabIn K n=some (c0,P0):=by
 unfold tabIn
 simp only [a,l,hc,lc,hv]
end
set_option maxHeartbeats 4000000 in
theorem all_mk {l:PySem.W.OpenLaw} {w:World} {K:Frag} {h:Heap} {mg:Str->Option Value} {fa:Addr} (X:K.In h) (G:h.Ns mainGlobals mg) (hfa:mg "law"=some (.ref fa))
  (d0:nu K "term_height" dc) (d1:nu K "lead" s_lead) (d2:nu K "top_and_bottom" bV) (d3:nu K "fraction_plus" cv) (d4:nu K "is_prime" gb) (d5:nu K "greatest_divisor" bJ) (d6:nu K "inverse" gX) (d7:nu K "product_times" cr) (d8:nu K "degree" jP) (d9:nu K "height" jN) (d10:nu K "sum_of" jk) (d11:nu K "times" mQ) (d12:nu K "product_terms" cx) (d13:nu K "gathered" fN) (d14:nu K "row_times" eX) (d15:nu K "_law_cell" eT) (d16:nu K "_law_bag" f9) (d17:nu K "_law_take" eY) (d18:nu K "_law_great" dI) (d19:nu K "_law_signed" cX) (d20:nu K "_law_whole" dU) (d21:nu K "_law_low" fV) (d22:nu K "_law_is_prime" cy) (d23:nu K "_law_prime" dQ) (d24:nu K "_law_numbers" cJ) (d25:nu K "_law_back" eU) (d26:nu K "_law_made" eR) (d27:nu K "_law_plus" eK) (d28:nu K "_law_times" dY) (d29:nu K "_law_nought" cY) (d30:nu K "_law_unit" eA) (d31:nu K "_law_number" cc) (d32:nu K "_law_product" cI) (d33:nu K "_law_key" fX) (d34:nu K "_law_sum" fM) (d35:nu K "_law_sum_times" bW) (d36:nu K "_law_level" dC) (d37:nu K "_law_wide" eJ) (d38:nu K "_law_drawn_row" bY) (d39:nu K "_law_again_row" bT) (d40:nu K "_law_columns" cL) (d41:nu K "_law_table" dB) (d42:nu K "_law_one_part" cw) (d43:nu K "_law_copied" cZ) (d44:nu K "_law_lead" eP) (d45:nu K "_law_ring" eN) (d46:nu K "_law_spread_row" bP) (d47:nu K "_law_refused" cK) (d48:nu K "law" s_law)
  {c0 P0:Addr} (htab:tabIn K "lead"=some (c0,P0))
  {pR:Addr} (sO:nsIn K mainGlobals "Fractions"=some (some (.ref pR))) (sP:plainGet K pR Str.empty=true) (sQ:hasDictIn K pR=true) (sR:plainOver K pR=true) (sS:findIn K (.ref pR) "__setattr__"=some (some (.builtin "object.__setattr__"))) (sT:makesIn K pR=true) (sU:keepIn K (.ref pR)=true)
  (sV:findIn K (.ref pR) "__init__"=some (some (.builtin "object.__init__")))
  {p9:Addr} {uv uw:Option Addr} {ux:Array (Option Value)} {uy uz uA uB sk uC:Value}
  (qK:findIn K (.ref pR) "prime"=some (some (.ref p9))) (qL:isFn K (.ref p9)=true) (qP:K.lookup p9=some ⟨uy,uv,.func (fnOf "prime" "Fractions.prime" (aR aT) (aK aT) (al aT) .none uz uA uB uw sk uC),ux⟩) (qQ:codeIn K sk "Fractions.prime"=true) (qh:keepIn K (.ref p9)=true)
  {qD:Addr} {uO:Value} {uP:Option Addr} {sW:Tok} {vT:Nat} {vi:Array (Option Value)}
  {qk:Addr} {vU rl:Option Addr} {vV:Array (Option Value)} {vW rm rq rA qF rB:Value}
  (rC:findIn K (.ref pR) "of"=some (some (.ref qk))) (rD:isFn K (.ref qk)=true) (rW:K.lookup qk=some ⟨vW,vU,.func (fnOf "of" "Fractions.of" (aR aF) (aK aF) (al aF) (.ref qD) rm rq rA rl qF rB),vV⟩) (rX:codeIn K qF "Fractions.of"=true) (qN:keepIn K (.ref qk)=true)
  (qG:K.lookup qD=some ⟨uO,uP,.seq #[.int 1 sW] vT,vi⟩)
  {qb:Addr} {uQ uR:Option Addr} {uS:Array (Option Value)} {uT uU uV uW sI uX:Value}
  (qR:findIn K (.ref pR) "plus"=some (some (.ref qb))) (qS:isFn K (.ref qb)=true) (qW:K.lookup qb=some ⟨uT,uQ,.func (fnOf "plus" "Fractions.plus" (aR aZ) (aK aZ) (al aZ) .none uU uV uW uR sI uX),uS⟩) (qX:codeIn K sI "Fractions.plus"=true) (qp:keepIn K (.ref qb)=true)
  {pU:Addr} (vj:nsIn K mainGlobals "Rests"=some (some (.ref pU))) (vk:plainGet K pU Str.empty=true) (vn:hasDictIn K pU=true) (vo:plainOver K pU=true) (vp:findIn K (.ref pU) "__setattr__"=some (some (.builtin "object.__setattr__"))) (vq:makesIn K pU=true) (vt:keepIn K (.ref pU)=true)
  (pZ:findIn K (.ref pU) "modulus"=some none)
  {qc:Addr} {uY uZ:Option Addr} {u3:Array (Option Value)} {u4 va vb vc sJ vd:Value}
  (qi:findIn K (.ref pU) "__init__"=some (some (.ref qc))) (qj:isFn K (.ref qc)=true) (qY:K.lookup qc=some ⟨u4,uY,.func (fnOf "__init__" "Rests.__init__" (aR ba) (aK ba) (al ba) .none va vb vc uZ sJ vd),u3⟩) (qZ:codeIn K sJ "Rests.__init__"=true) (qr:keepIn K (.ref qc)=true)
  {qz:Addr} {wl wm:Option Addr} {wo:Array (Option Value)} {wp wq wr wt tV wu:Value}
  (rY:findIn K (.ref pU) "prime"=some (some (.ref qz))) (rZ:isFn K (.ref qz)=true) (sC:K.lookup qz=some ⟨wp,wl,.func (fnOf "prime" "Rests.prime" (aR bt) (aK bt) (al bt) .none wq wr wt wm tV wu),wo⟩) (sD:codeIn K tV "Rests.prime"=true) (qT:keepIn K (.ref qz)=true)
  {sg:Addr} {wJ:Value} {wK:Option Addr} {uD:Tok} {xg:Nat} {wZ:Array (Option Value)}
  {rE:Addr} {xh tF:Option Addr} {xi:Array (Option Value)} {xj tG tH tI si tJ:Value}
  (tK:findIn K (.ref pU) "of"=some (some (.ref rE))) (tL:isFn K (.ref rE)=true) (ul:K.lookup rE=some ⟨xj,xh,.func (fnOf "of" "Rests.of" (aR aV) (aK aV) (al aV) (.ref sg) tG tH tI tF si tJ),xi⟩) (um:codeIn K si "Rests.of"=true) (sK:keepIn K (.ref rE)=true)
  (sj:K.lookup sg=some ⟨wJ,wK,.seq #[.int 1 uD] xg,wZ⟩)
  {qM:Addr} {wL wM:Option Addr} {wN:Array (Option Value)} {wO wP wQ wR uo wS:Value}
  (sE:findIn K (.ref pU) "plus"=some (some (.ref qM))) (sF:isFn K (.ref qM)=true) (sX:K.lookup qM=some ⟨wO,wL,.func (fnOf "plus" "Rests.plus" (aR bF) (aK bF) (al bF) .none wP wQ wR wM uo wS),wN⟩) (sY:codeIn K uo "Rests.plus"=true) (rF:keepIn K (.ref qM)=true)
  {p6:Addr} (wv:nsIn K mainGlobals "Ring"=some (some (.ref p6))) (ww:plainGet K p6 Str.empty=true) (wx:hasDictIn K p6=true) (wz:plainOver K p6=true) (wA:findIn K (.ref p6) "__setattr__"=some (some (.builtin "object.__setattr__"))) (wB:makesIn K p6=true) (wC:keepIn K (.ref p6)=true)
  (rG:findIn K (.ref p6) "kind"=some none)
  (sG:findIn K (.ref p6) "width"=some none)
  {qg:Addr} {vv vx:Option Addr} {vy:Array (Option Value)} {vz vA vB vC sZ vD:Value}
  (qt:findIn K (.ref p6) "__init__"=some (some (.ref qg))) (qu:isFn K (.ref qg)=true) (rH:K.lookup qg=some ⟨vz,vv,.func (fnOf "__init__" "Ring.__init__" (aR bg) (aK bg) (al bg) .none vA vB vC vx sZ vD),vy⟩) (rJ:codeIn K sZ "Ring.__init__"=true) (qH:keepIn K (.ref qg)=true)
  {ql:Addr} {vX vY:Option Addr} {vZ:Array (Option Value)} {v3 v4 v5 v6 tj v7:Value}
  (rK:findIn K (.ref p6) "numbers"=some (some (.ref ql))) (rM:isFn K (.ref ql)=true) (r9:K.lookup ql=some ⟨v3,vX,.func (fnOf "numbers" "Ring.numbers" (aR bn) (aK bn) (al bn) .none v4 v5 v6 vY tj v7),vZ⟩) (se:codeIn K tj "Ring.numbers"=true) (qO:keepIn K (.ref ql)=true)
  {pP:Addr} (tM:nsIn K mainGlobals "NoNumber"=some (some (.ref pP)))
  (tN:excIn K pP iq "ValueError.__new__"=true) (tO:findIn K (.ref pP) "__getattribute__"=some (some (.builtin "BaseException.__getattribute__"))) (tP:findIn K (.ref pP) "__getattr__"=some none) (tQ:findIn K (.ref pP) "__class__"=some (some (.builtin "object.__class__"))) (tR:mroIn K pP (.type "object")=some true) (tS:mroIn K pP (.type "BaseException")=some true) (tT:specialIn K (.builtin "object.__class__") "__get__"=some (some (.builtin "getset_descriptor.__get__"))) (tU:takesIn K (.builtin "object.__class__")=some true)
  {pT:Addr} (uE:nsIn K mainGlobals "NoRing"=some (some (.ref pT)))
  (uF:excIn K pT iq "ValueError.__new__"=true) (uG:findIn K (.ref pT) "__getattribute__"=some (some (.builtin "BaseException.__getattribute__"))) (uH:findIn K (.ref pT) "__getattr__"=some none) (uI:findIn K (.ref pT) "__class__"=some (some (.builtin "object.__class__"))) (uJ:mroIn K pT (.type "object")=some true) (uK:mroIn K pT (.type "BaseException")=some true) (uL:specialIn K (.builtin "object.__class__") "__get__"=some (some (.builtin "getset_descriptor.__get__"))) (uM:takesIn K (.builtin "object.__class__")=some true)
  {pQ:Addr} (vE:nsIn K mainGlobals "NoRow"=some (some (.ref pQ)))
  (vF:excIn K pQ iq "ValueError.__new__"=true) (vG:findIn K (.ref pQ) "__getattribute__"=some (some (.builtin "BaseException.__getattribute__"))) (vH:findIn K (.ref pQ) "__getattr__"=some none) (vJ:findIn K (.ref pQ) "__class__"=some (some (.builtin "object.__class__"))) (vK:mroIn K pQ (.type "object")=some true) (vL:mroIn K pQ (.type "BaseException")=some true) (vM:specialIn K (.builtin "object.__class__") "__get__"=some (some (.builtin "getset_descriptor.__get__"))) (vN:takesIn K (.builtin "object.__class__")=some true)
  {qw:Addr} (sf:nsIn K mainGlobals "LadderError"=some (some (.ref qw)))
  {qU:Addr} (uN:nsIn K mainGlobals "NoPart"=some (some (.ref qU)))
  (ml:PySem.W.exmOne K (.ref pQ) (.ref qw)=some true)
  (kv:kitOne K (.ref pQ) (.type "ValueError")=some true)
  (ko:PySem.W.kitAny K (.ref pQ) [.ref pP,.ref qU,.ref pT]=some false)
  (zn_ValueError:nsIn K mainGlobals "ValueError"=some none)
  {wD:Tok} (qA:nsIn K mainGlobals "LEAST_PRIME"=some (some (.int 2 wD)))
  {ve:Tok} (qd:nsIn K mainGlobals "GREATEST_PRIME"=some (some (.int 9973 ve)))
  {v8:Tok} (qm:nsIn K mainGlobals "MOST_LETTERS"=some (some (.int 4 v8)))
  (z0:nsIn K mainGlobals "len"=some none) (z1:nsIn K mainGlobals "range"=some none) (z2:nsIn K mainGlobals "zip"=some none) (z3:nsIn K mainGlobals "all"=some none) (z4:nsIn K mainGlobals "sum"=some none) (z5:nsIn K mainGlobals "max"=some none) (z6:nsIn K mainGlobals "min"=some none) (z7:nsIn K mainGlobals "abs"=some none) (z8:nsIn K mainGlobals "tuple"=some none) (z9:nsIn K mainGlobals "list"=some none) (z10:nsIn K mainGlobals "int"=some none) (z11:nsIn K mainGlobals "bool"=some none) (z12:nsIn K mainGlobals "isinstance"=some none) (z13:nsIn K mainGlobals "enumerate"=some none) (z14:nsIn K mainGlobals "sorted"=some none) (z15:nsIn K mainGlobals "set"=some none) (z16:nsIn K mainGlobals "str"=some none) :
  ∃ fd:FuncData,(∀ (s:Shared) (v:Value),BindsTo s fd ⟨[v],[]⟩ [("_law_script",v)])/\∀ base:Heap,K.In base->base.Ns mainGlobals mg->BmB mg base->CodeHd base c0 P0->nk l.prog w K mg base CX0 14 fa fd ["_law_script"] (spLaw K P0):=by
 have T:Blt mg:=⟨mg_none_of X G z0,mg_none_of X G z1,mg_none_of X G z2,mg_none_of X G z3,mg_none_of X G z4,mg_none_of X G z5,mg_none_of X G z6,mg_none_of X G z7,mg_none_of X G z8,mg_none_of X G z9,mg_none_of X G z10,mg_none_of X G z11,mg_none_of X G z12,mg_none_of X G z13,mg_none_of X G z14,mg_none_of X G z15,mg_none_of X G z16⟩
 refine lawT X G d48 hfa (λ{_} {base} F48 _ _ hB hC=>?_) (by (repeat intro _); rfl)
 have M {k n sp} (h:FnB l.prog w K mg base k n sp):=h
 have rN:Cls K pR:=⟨sP,sQ,sR,sS⟩
 have xk:=mg_of X G sO
 have vf:=eB (st:=aT) qP qQ qh
 have vg:=vf.binds (ps:=["self"]) λ_ _ _ _ _ _ us hl=>match us,hl with | [_],_=>rfl
 have vh:f6 K pR "prime" p9:=⟨qK,qL,qh⟩
 have tW:=funD_mk (st:=aF) rW rX qN
 have wE:nY K (fnOf "of" "Fractions.of" (aR aF) (aK aF) (al aF) (.ref qD) rm rq rA rl qF rB) ["self", "top", "bottom"] []:=λs us X hl=>match us,hl with | [_,_,_],_=>BindsTo.of_defaults rfl (X _ _ qG) rfl rfl rfl
 have wa:nY K (fnOf "of" "Fractions.of" (aR aF) (aK aF) (al aF) (.ref qD) rm rq rA rl qF rB) ["self", "top", "bottom"] [.int 1 sW]:=λs us X hl=>by
  obtain ⟨z1,z2,rfl⟩:=two_of hl
  exact BindsTo.of_defaults rfl (X _ _ qG) rfl rfl rfl
 have tX:f6 K pR "of" qk:=⟨rC,rD,qN⟩
 have vO:=eB (st:=aZ) qW qX qp
 have vP:=vO.binds (ps:=["self", "one", "other"]) λ_ _ _ _ _ _ us hl=>match us,hl with | [_,_,_],_=>rfl
 have vQ:f6 K pR "plus" qb:=⟨qR,qS,qp⟩
 have qv:Cls K pU:=⟨vk,vn,vo,vp⟩
 have xF:=mg_of X G vj
 have vR:=eB (st:=ba) qY qZ qr
 have vS:=vR.binds (ps:=["self", "prime"]) λ_ _ _ _ _ _ us hl=>match us,hl with | [_,_],_=>rfl
 have xB:f6 K pU "__init__" qc:=⟨qi,qj,qr⟩
 have wT:=eB (st:=bt) sC sD qT
 have wU:=wT.binds (ps:=["self"]) λ_ _ _ _ _ _ us hl=>match us,hl with | [_],_=>rfl
 have wV:f6 K pU "prime" qz:=⟨rY,rZ,qT⟩
 have wb:=funD_mk (st:=aV) ul um sK
 have xv:nY K (fnOf "of" "Rests.of" (aR aV) (aK aV) (al aV) (.ref sg) tG tH tI tF si tJ) ["self", "top", "bottom"] []:=λs us X hl=>match us,hl with | [_,_,_],_=>BindsTo.of_defaults rfl (X _ _ sj) rfl rfl rfl
 have xm:nY K (fnOf "of" "Rests.of" (aR aV) (aK aV) (al aV) (.ref sg) tG tH tI tF si tJ) ["self", "top", "bottom"] [.int 1 uD]:=λs us X hl=>by
  obtain ⟨z1,z2,rfl⟩:=two_of hl
  exact BindsTo.of_defaults rfl (X _ _ sj) rfl rfl rfl
 have wc:f6 K pU "of" rE:=⟨tK,tL,sK⟩
 have w8:=eB (st:=bF) sX sY rF
 have xa:=w8.binds (ps:=["self", "one", "other"]) λ_ _ _ _ _ _ us hl=>match us,hl with | [_,_,_],_=>rfl
 have xb:f6 K pU "plus" qM:=⟨sE,sF,rF⟩
 have wF:Cls K p6:=⟨ww,wx,wz,wA⟩
 have xG:=mg_of X G wv
 have wd:=eB (st:=bg) rH rJ qH
 have we:=wd.binds (ps:=["self", "numbers", "letters"]) λ_ _ _ _ _ _ us hl=>match us,hl with | [_,_,_],_=>rfl
 have xE:f6 K p6 "__init__" qg:=⟨qt,qu,qH⟩
 have wG:=eB (st:=bn) r9 se qO
 have wH:=wG.binds (ps:=["self"]) λ_ _ _ _ _ _ us hl=>match us,hl with | [_],_=>rfl
 have wI:f6 K p6 "numbers" ql:=⟨rK,rM,qO⟩
 have rO:=mg_of X G tM
 have sL:XCl K pP:=⟨tN,tO,tP,tQ,tR,tS,tT,tU⟩
 have xf:=mg_of X G uE
 have xC:XCl K pT:=⟨uF,uG,uH,uI,uJ,uK,uL,uM⟩
 have xn:=mg_of X G vE
 have xp:XCl K pQ:=⟨vF,vG,vH,vJ,vK,vL,vM,vN⟩
 have wW:=mg_of X G sf
 have xD:=mg_of X G uN
 have n_ValueError:=mg_none_of X G zn_ValueError
 have qA:=mg_of X G qA
 have qd:=mg_of X G qd
 have qm:=mg_of X G qm
 have tY:=M (d15.fb X G λF=>ok_cell F T)
 have qJ:=M (d16.fb X G λF=>ok_bag F tY)
 have pO:=M (d17.fb X G λF=>ok_take F)
 have tE:=M (d20.fb X G λF=>ok_whole F T)
 have qa:=M (d18.fb X G λF=>ok_great F pO)
 have qI:=M (d19.fb X G λF=>ok_signed F pO qa)
 have pV:=M (d21.fb X G λF=>ok_low F T)
 have rP:=M (d22.fb X G λF=>ok_lawprime F T)
 have tz:=M (d23.fb X G λF=>ok_prime F pO rP)
 have ur:=M (d4.fb X G λF=>ok_isprime F qA qd)
 have pX:=M (d5.fb X G λF=>ok_gcd F T)
 have t9:=M (d6.fb X G λF=>ok_inverse F)
 have wg:=M (d8.fb X G λF=>ok_degree F T)
 have wj:=M (d9.fb X G λF=>ok_height F wg)
 have rR:=M (d7.fb X G λF=>ok_times F T)
 have wX:MkB l.prog w K mg base 2 pU "Rests" (mi pU):=⟨⟨_,_,_,ok_rinit vR qv pZ ur,⟨vq,qi,qj,vt⟩,vS⟩,xF⟩
 have ss:=M (d24.fb X G λF=>ok_nums F ⟨sT,sV,sU⟩ xk wX)
 have p5:=M (d31.fb X G λF=>ok_number0 F T pO qa qI pV)
 have tZ:=M (d27.fb X G λF=>ok_lplus F pV)
 have qB:=M (d28.fb X G λF=>ok_ltimes F pV)
 have pY:=M (d29.fb X G λF=>ok_nought F T)
 have qo:=M (d30.fb X G λF=>ok_unit F T)
 have ut:=M (d33.fb X G λF=>ok_lkey F T)
 have qf:=M (d34.fb X G λF=>ok_lsum F T tZ pY ut)
 have pW:=M (d32.fb X G λF=>ok_product F T pO)
 have rf:=M (d35.fb X G λF=>ok_ltimesS F T qB qf)
 have tw:=M (d36.fb X G λF=>ok_llevel F T)
 have uc:=M (d37.fb X G λF=>ok_wide F pO pV)
 have qe:=M (d40.fb X G λF=>ok_cols F T pO)
 have rg:=M (d38.fb X G λF=>ok_drawn F T pO p5 uc pW qf tw qo)
 have rj:=M (d39.fb X G λF=>ok_again F T pO p5 pW rf pY qo)
 have rQ:=M (d42.fb X G λF=>ok_onepart F T)
 have tD:=M (d41.fb X G λF=>ok_table F T qJ pO tz qe rg rj rQ)
 have wf:kg l.prog w K mg base 2 pR "of" [] (fh pP):=⟨⟨_,_,_,_,ok_fofx tW pX rO sL,tX,wE,.nil⟩,rN⟩
 have xA:kg l.prog w K mg base 2 pU "of" [] (gh pU pP):=⟨⟨_,_,_,_,ok_rofx wb qv pZ t9 rO sL,wc,xv,.nil⟩,qv⟩
 have xq:kg l.prog w K mg base 2 pR "of" [.int 1] (fh pP):=⟨⟨_,_,_,_,ok_fofx tW pX rO sL,tX,wa,.cons ⟨_,rfl⟩ .nil⟩,rN⟩
 have xt:kg l.prog w K mg base 2 pU "of" [.int 1] (gh pU pP):=⟨⟨_,_,_,_,ok_rofx wb qv pZ t9 rO sL,wc,xm,.cons ⟨_,rfl⟩ .nil⟩,qv⟩
 have xw:MtB l.prog w K mg base 3 pR "plus" (spFOp pR λa b=>(a.1*b.2+b.1*a.2,a.2*b.2)):=⟨⟨_,_,_,ok_fplus vO wf,vQ,vP⟩,rN⟩
 have xx:MtB l.prog w K mg base 3 pU "plus" (spROp pU (· + ·)):=⟨⟨_,_,_,(ok_rplus w8 qv pZ).mono (by decide),xb,xa⟩,qv⟩
 have xy:MtB l.prog w K mg base 1 pR "prime" spFPr:=⟨⟨_,_,_,ok_fpr vf,vh,vg⟩,rN⟩
 have xz:MtB l.prog w K mg base 1 pU "prime" (spRPr pU):=⟨⟨_,_,_,ok_rpr wT qv pZ,wV,wU⟩,qv⟩
 have tu:MtB l.prog w K mg base 1 p6 "numbers" (jH p6):=⟨⟨_,_,_,ok_rnum wG wF rG,wI,wH⟩,wF⟩
 have xu:MkBX l.prog w K mg base 2 p6 "Ring" (jU p6 pT):=⟨⟨_,_,_,ok_ginit wd wF rG sG qm xf xC,⟨wB,qt,qu,wC⟩,we⟩,xG⟩
 have uh:lR l.prog w K mg base 5 "_law_ring" (l5 pR pU p6 pT):=d45.fx X G λF=>ok_ring F ss xu
 have wk:=M (d10.fb X G λF=>ok_sumof F T wj tu xw xx xq xt)
 have qC:=M (d2.fb X G λF=>ok_tb F xy xz)
 have rS:=M (d3.fb X G λF=>ok_fpl F pX)
 have rV:=M (d12.fb X G λF=>ok_terms F tu qC rR)
 have uu:=M (d13.fb X G λF=>ok_gath F tu rS wk wf xA)
 have wY:=M (d11.fb X G λF=>ok_timesS F uu rV)
 have uk:=M (d14.fb X G λF=>ok_rowtimes F wY)
 have qV:=M (d46.fb X G λF=>ok_spread F T pO p5 pW qf)
 have sN:=M (d43.fb X G λF=>ok_copied F T)
 have sM:=M (d0.fb X G λF=>ok_th F)
 have ue:=M (d25.fb X G λF=>ok_back F T)
 have uj:=M (d26.fb X G λF=>ok_made F pV ue)
 have ui:=M (d44.fb X G λF=>ok_llead F T)
 have ug:lR l.prog w K mg base 12 "lead" (mT P0 pQ):=fxC X G d1 htab (λF hcode=>ok_lead F hcode hC hB T sM xn xp) (λ_ _ _ _ _ _ _ _=>rfl)
 have sw:=M (d47.fb X G λF=>ok_refused F T ug wW rO xD xf xn n_ValueError xp ml kv ko)
 exact ok_law F48 T tD qJ uh pO qV ui sN ug tE uj qB pY uk sw
theorem walk {l:PySem.W.OpenLaw} {q:Program} {loose:List Str} {XP:(Str->Option Value)->Heap->Prop} {YP:World->Heap->Prop} {d:DefRec} {dt:DefRec} {c0 P0:Addr} {K:Params->Frag} (hn:l.most=some 63) (hdf:d.params.defaults=[])
  (hY:∀ (w:World) (h:Heap),YP w h->(K w.params).In h) (hrec:(recsOf q).find? (λe=>e.name == ("lead" : Str))=some dt) (htab:∀ w:World,tabIn (K w.params) "lead"=some (c0,P0)) (hKP:∀ w:World,(K w.params).lookup P0=none)
  (F:∀ (w:World) (mg:Str->Option Value) (fa:Addr) (h:Heap),(K w.params).In h->h.Ns mainGlobals mg->mg d.name=some (.ref fa)->
   ∃ fd:FuncData,(∀ (s:Shared) (u:Value),BindsTo s fd ⟨[u],[]⟩ [("_law_script",u)])/\∀ base:Heap,(K w.params).In base->base.Ns mainGlobals mg->BmB mg base->CodeHd base c0 P0->nk l.prog w (K w.params) mg base CX0 14 fa fd ["_law_script"] (spLaw (K w.params) P0)) :
  PySem.W.WalkO q loose XP YP l.row.toRowW d [] (λf vs=>PySem.call f vs):=
 L2.walk_ofT (n:=63) (k:=14) (x := "_law_script") (CX:=λ_=>CX0) (sp:=λw=>spLaw (K w.params) P0) hn (by decide) hdf ⟨rfl,by decide,by decide⟩ hY hrec htab hKP F (λ_ _ a ns hl hO hS=>⟨a,ns,rfl,hS,hl,hO,λ_=>rfl⟩) λ_ _ _ _ _ z=>z
end K
namespace PySem.W.Fast
def tw763204460465796904:=0
def tw17940437850348973034:=0
def tw11553461944109911971:=0
def tw8762024810721881334:=0
def tw8566130387651328440:=0
def tw4060755394232774904:=0
def tw10610944918455995712:=0
def tw5732308710340632807:=0
def tw7269094600316772475:=0
def tw15759412051974780351:=0
def tw5581184849979918092:=0
def tw3044587517362265016:=0
def tw6984521290845854514:=0
def tw18198630090263973392:=0
def tw14798878549216449975:=0
def tw13993406808076104834:=0
def tw11630044435742318268:=0
def tw14051931970128015198:=0
def tw18120800896754626162:=0
def tw12480037273802841682:=0
def tw2353034560934109056:=0
def tw5419874879331295614:=0
def tw5089788990456674505:=0
def tw868025544182624934:=0
def tw13025296053687926522:=0
def tw944490200275301509:=0
def tw5972679317601340257:=0
def tw2282470010277285577:=0
def tw12404712081716073693:=0
def tw14529194320922268444:=0
def tw359918366428024170:=0
def tw17525950027255230647:=0
def tw1579946283099597651:=0
def tw11143551476278835124:=0
def tw12646717513294609173:=0
def tw16410329293438381331:=0
def tw13591635837872049719:=0
def tw15627564093370333593:=0
def tw9490903521375188982:=0
def tw10840826878037216715:=0
def tw2432804051590927467:=0
def tw4697834760974768513:=0
def tw16241521012632016633:=0
def tw9991542655211900533:=0
def tw6269449139812363230:=0
def tw8835977343257822619:=0
def tw14842801804764680021:=0
def tw11174470335096424814:=0
def tw5336320708503186627:=0
def tw14691457736939969273:=0
def tw14010952358402204514:=0
def tw8996539076671069627:=0
def tw497436652434302868:=0
def tw14203303608863817475:=0
def tw4838750261615479733:=0
def tw8387826612429555262:=0
def tw10648461438770758038:=0
def tw11919827276449879052:=0
def tw4767850124649121611:=0
def tw9836144298259979007:=0
def tw14322529986681256989:=0
def tw6357576437519105643:=0
def tw8304584627365045474:=0
def tw8882607764160050190:=0
def tw1812658269434721341:=0
def tw1048279392128911349:=0
def tw10018954104479640116:=0
def tw2612547264079588191:=0
def tw8937224993607328721:=0
def tw8181709299957681804:=0
def tw14887643378458598653:=0
def tw13318896185552963431:=0
def tw15524782760576995771:=0
def tw17881351030701553582:=0
def tw12425554491341597420:=0
def tw12918027165697629183:=0
def tw6473134659894889069:=0
def tw12632309699424128284:=0
def tw3398728659778540218:=0
def tw6641458512252197405:=0
def tw13630668203459632702:=0
def tw516831821889525598:=0
def tw13313121514474439842:=0
def tw14578160097467849219:=0
def tw1999990211266161700:=0
def tw1121383105356580773:=0
def tw10674832670347960064:=0
def tw17625014944548983802:=0
def tw15079768042902905753:=0
def tw8946278067691709067:=0
def tw15940197167464877499:=0
def tw8342814370559355634:=0
def tw5221400765161307141:=0
def tw5392530446693148903:=0
def tw4264235960723159264:=0
def tw18361656415629603810:=0
def tw8905637924160339868:=0
def tw15652089080559645750:=0
def tw14068211718375234417:=0
def tw17375477001905969927:=0
def tw9456438496634780980:=0
def tw13766219736754280747:=0
def tw11082521507626058903:=0
def tw13298942548555763622:=0
def tw16188184460078897741:=0
def tw857031951959846916:=0
def tw11062991234940706406:=0
def tw5558647343347308615:=0
def tw16002474165759417804:=0
def tw9256498541633480222:=0
def tw1868084385902582039:=0
def tw10879798767011338754:=0
def tw1603911953245726828:=0
def tw658124129168421039:=0
def tw17755579185214155078:=0
def tw7088084268566696368:=0
def tw10481939750922344163:=0
def tw13118317917256043187:=0
def tw5431139342953407494:=0
def tw14202414828700235945:=0
def tw2709834783515670423:=0
def tw4552241589514069012:=0
def tw13245435907554623279:=0
def tw15505506440863543962:=0
def tw12094712449468747157:=0
def tw11131038366243162995:=0
def tw3518051882119947637:=0
def tw11821995518376063714:=0
def tw15327226901179085577:=0
def tw5762759623738882678:=0
def tw121012726191966350:=0
def tw12557762549222601706:=0
def tw11394788023129150591:=0
def tw3755758609946639510:=0
def tw14840292476337040557:=0
def tw1807044720730313192:=0
def tw7740749457107986630:=0
def tw8408103918991707170:=0
def tw2710301586867389146:=0
def tw4412541354016334939:=0
def tw11150212583930401027:=0
def tw11792138965268903643:=0
def tw4904056662191048151:=0
def tw7759838521975601150:=0
def tw14740251284707207415:=0
def tw9577251170650474028:=0
def tw5091575004306265859:=0
def tw5123223658309350075:=0
def tw17287408815767772775:=0
def tw11135856901773549470:=0
def tw13912204015945258065:=0
def tw16361864712600615150:=0
def tw8532634203753854699:=0
def tw13600186225057480480:=0
def tw8095258221879859123:=0
def tw8855279732393007169:=0
def tw12969913885265166391:=0
def tw5349012450085404774:=0
def tw16997223450953460794:=0
def tw5976704917992717940:=0
def tw18093610188434018596:=0
def tw5878924140567715973:=0
def tw1552677266973989142:=0
def tw9724778342257351081:=0
def tw14633561034734102263:=0
def tw6025222243361240487:=0
def tw7161679469103021192:=0
def tw16564860582427179304:=0
def tw1590244926239069231:=0
def tw3441049254689048533:=0
def tw14052684412346966492:=0
def tw3445148622743260588:=0
def tw12616155909458819173:=0
def tw7516118909232139805:=0
def tw1742945517005688310:=0
def tw5806247363080621216:=0
def tw8536064888622117057:=0
def tw9057711868608163459:=0
def tw929006006232663789:=0
def tw6824099801355029224:=0
def tw11443214455847531207:=0
def tw15878078477686743518:=0
def tw11006250666562302343:=0
def tw15014177383716201068:=0
def tw3121573252478657873:=0
def tw3538578456482563910:=0
def tw5272340679794569589:=0
def tw15666570853332276880:=0
def tw11256739535177806925:=0
def tw4320214618403540353:=0
def tw1755228527718741757:=0
def tw5580173800705620347:=0
def tw11500631630629641993:=0
def tw13028100663203445850:=0
def tw16305253582155168330:=0
def tw3509398171396056428:=0
def tw15604005573814024610:=0
def tw1003847781062611311:=0
def tw15546715820631879636:=0
def tw13988800712718190671:=0
def tw16415298543554411553:=0
def tw7770872260581010200:=0
def tw11512891852987379345:=0
def tw6102002609447112502:=0
def tw8890735238930861091:=0
end PySem.W.Fast
open PySem PySem.W PyProof.Rows
set_option maxRecDepth 100000 in
set_option maxHeartbeats 0 in
theorem PySem.Challenge.cw_relationladder_k17_leads_holds : PySem.Challenge.rw_relationladder_k17_leads.Holds := by
 w_on; o_law; k_head; (case hw=>w_witness2)
 k_fill
 refine' K.walk (l:=PySem.Challenge.rw_relationladder_k17_leads) rfl rfl (λw h Y=>PySem.W.km_in_of Y) rfl ?htab ?hKP ?F
 case htab=>
  intro w
  refine' _root_.K.tabIn_of ?a ?l ?c ?k ?v
  (case a=>k_is); (case l=>k_is); (case c=>exact rfl); (case k=>k_is); (case v=>exact rfl)
 case hKP=>intro w; kernel_rfl
 case F=>
  intro w mg fa h KX G hmg
  refine' K.all_mk KX G hmg ?d0 ?d1 ?d2 ?d3 ?d4 ?d5 ?d6 ?d7 ?d8 ?d9 ?d10 ?d11 ?d12 ?d13 ?d14 ?d15 ?d16 ?d17 ?d18 ?d19 ?d20 ?d21 ?d22 ?d23 ?d24 ?d25 ?d26 ?d27 ?d28 ?d29 ?d30 ?d31 ?d32 ?d33 ?d34 ?d35 ?d36 ?d37 ?d38 ?d39 ?d40 ?d41 ?d42 ?d43 ?d44 ?d45 ?d46 ?d47 ?d48 ?htb ?sO ?sP ?sQ ?sR ?sS ?sT ?sU ?sV ?qK ?qL ?qP ?qQ ?qh ?rC ?rD ?rW ?rX ?qN ?qG ?qR ?qS ?qW ?qX ?qp ?vj ?vk ?vn ?vo ?vp ?vq ?vt ?pZ ?qi ?qj ?qY ?qZ ?qr ?rY ?rZ ?sC ?sD ?qT ?tK ?tL ?ul ?um ?sK ?sj ?sE ?sF ?sX ?sY ?rF ?wv ?ww ?wx ?wz ?wA ?wB ?wC ?rG ?sG ?qt ?qu ?rH ?rJ ?qH ?rK ?rM ?r9 ?se ?qO ?tM ?tN ?tO ?tP ?tQ ?tR ?tS ?tT ?tU ?uE ?uF ?uG ?uH ?uI ?uJ ?uK ?uL ?uM ?vE ?vF ?vG ?vH ?vJ ?vK ?vL ?vM ?vN ?sf ?uN ?ml ?kv ?ko ?zn_ValueError ?qA ?qd ?qm ?z0 ?z1 ?z2 ?z3 ?z4 ?z5 ?z6 ?z7 ?z8 ?z9 ?z10 ?z11 ?z12 ?z13 ?z14 ?z15 ?z16
  (case d0|d1|d2|d3|d4|d5|d6|d7|d8|d9|d10|d11|d12|d13|d14|d15|d16|d17|d18|d19=>refine' .mk ?a ?l ?c ?k; (case a=>k_is); (case l=>k_is); (case c=>k_is); (case k=>k_is))
  (case d20|d21|d22|d23|d24|d25|d26|d27|d28|d29|d30|d31|d32|d33|d34|d35|d36|d37|d38|d39=>refine' .mk ?a ?l ?c ?k; (case a=>k_is); (case l=>k_is); (case c=>k_is); (case k=>k_is))
  (case d40|d41|d42|d43|d44|d45|d46|d47|d48=>refine' .mk ?a ?l ?c ?k; (case a=>k_is); (case l=>k_is); (case c=>k_is); (case k=>k_is))
  (case sO|sP|sQ|sR|sS|sT|sU|sV|qK|qL|qP|qQ|qh|rC|rD|rW|rX|qN|qG|qR=>k_is)
  (case qS|qW|qX|qp|vj|vk|vn|vo|vp|vq|vt|pZ|qi|qj|qY|qZ|qr|rY|rZ|sC=>k_is)
  (case sD|qT|tK|tL|ul|um|sK|sj|sE|sF|sX|sY|rF|wv|ww|wx|wz|wA|wB|wC=>k_is)
  (case rG|sG|qt|qu|rH|rJ|qH|rK|rM|r9|se|qO|tM=>k_is)
  (case tN=>first | k_is | k_exc | kit_is | kts_exm)
  (case tO|tP|tQ|tR|tS|tT|tU|uE=>k_is)
  (case uF=>first | k_is | k_exc | kit_is | kts_exm)
  (case uG|uH|uI|uJ|uK|uL|uM|vE=>k_is)
  (case vF=>first | k_is | k_exc | kit_is | kts_exm)
  (case vG|vH|vJ|vK|vL|vM|vN|sf|uN=>k_is)
  (case ml=>first | k_is | k_exc | kit_is | kts_exm)
  (case kv=>first | k_is | k_exc | kit_is | kts_exm)
  (case ko=>first | k_is | k_exc | kit_is | kts_exm)
  (case zn_ValueError|qA|qd|qm|z0|z1|z2|z3|z4|z5|z6|z7|z8|z9|z10|z11|z12|z13|z14|z15=>k_is)
  (case z16=>k_is)
  (case htb=>refine' _root_.K.tabIn_of ?a ?l ?c ?k ?v; (case a=>k_is); (case l=>k_is); (case c=>exact rfl); (case k=>k_is); (case v=>exact rfl))
