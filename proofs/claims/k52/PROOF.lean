import PyProof.Rows.All
import Wide.All
import OpenK.AllK
import Wide.FinOn
import Lean
import PyProof.EqAt
import PyProof.EqKinds
import PyProof.TupleCall
import KE.KMinKey
import PySem.Challenge.RW_relationladder_k52_sums_written
set_option Elab.async false
set_option linter.all false
set_option maxRecDepth 100000
open PySem.W (instObj hideAll_get Frag lookIn plainGet hasDictIn findIn isFn plainOver makesIn emptyDict keepIn specialIn takesIn mroIn kitOne kia_one fnOf codeIn excIn nsIn mg_of mg_none_of)
open List (filterMap_cons mem_cons_self mem_cons_of_mem getElem_inj mem_append_right length_cons map_cons length_map append_nil of_mem_zip length_take getElem?_map take_sublist mem_of_getElem? length_append length_replicate length_nil map_nil size_toArray length_singleton forIn_cons lookup_cons all_eq_true forIn_nil mem_cons not_mem_nil getD_eq_getElem?_getD getElem?_eq_getElem take_succ sum_append take_of_length_le length_range find?_cons any_cons map_append length_reverse reverse_perm map_map range_succ filter_append take_add_one mem_of_mem_take take_length filter_cons append_assoc drop_zero sum_cons nil_append)
open PySem.Heap (lt_size get?_push_of_some get?_push_size size_push get?_update_self get?_update_other)
namespace L2
open PySem PySem.Spec PyProof.Rows
abbrev Key:=Sum Int Str
def jD:Key->Value->Bool
 | .inl k,v=>Value.isInt k v
 | .inr x,v=>Value.isStrOf x v
def keyH (w:World):Key->Int
 | .inl k=>hashInt k
 | .inr x=>hashStr w x
theorem bc:∀ {k:Key} {v:Value},jD k v=true->(∃ i t,k=Sum.inl i/\v=Value.int i t)\/(∃ x t,k=Sum.inr x/\v=Value.str x t)
 | .inl i,v,h=>by
  obtain ⟨t,e⟩:=Value.isInt_shape (k:=i) (v:=v) h
  exact .inl ⟨i,t,rfl,e⟩
 | .inr x,v,h=>by
  obtain ⟨t,e⟩:=Value.isStrOf_shape (x:=x) (v:=v) h
  exact .inr ⟨x,t,rfl,e⟩
theorem keyIs_int (i:Int) (t:Tok):jD (.inl i) (.int i t)=true:=by simp [jD,Value.isInt]
theorem keyIs_str (x:Str) (t:Tok):jD (.inr x) (.str x t)=true:=by simp [jD,Value.isStrOf]
theorem key_ll (a b:Int):decide ((Sum.inl a:Key)=Sum.inl b)=(a == b):=by
 by_cases e:a=b
 ·subst e; simp
 ·have h:¬ (Sum.inl a:Key)=Sum.inl b:=λq=>e (Sum.inl.inj q)
  rw [decide_eq_false h]
  exact (beq_eq_false_iff_ne.mpr e).symm
theorem key_rr (a b:Str):decide ((Sum.inr a:Key)=Sum.inr b)=decide (a=b):=by
 by_cases e:a=b
 ·subst e; simp
 ·have h:¬ (Sum.inr a:Key)=Sum.inr b:=λq=>e (Sum.inr.inj q)
  rw [decide_eq_false h,decide_eq_false e]
theorem key_lr (a:Int) (b:Str):decide ((Sum.inl a:Key)=Sum.inr b)=false:=decide_eq_false (λq=>nomatch q)
theorem key_rl (a:Str) (b:Int):decide ((Sum.inr a:Key)=Sum.inl b)=false:=decide_eq_false (λq=>nomatch q)
def aZ (prog:Program) (w:World):PySem.KeyKind prog w Key where
 is:=jD
 hash:=keyH w
 inj:=λv a b ha hb=>by
  rcases bc ha with ⟨i,t,rfl,rfl⟩ | ⟨x,t,rfl,rfl⟩
  ·rcases bc hb with ⟨j,u,rfl,e⟩ | ⟨y,u,rfl,e⟩
   ·injection e with e1 _; rw [e1]
   ·exact nomatch e
  ·rcases bc hb with ⟨j,u,rfl,e⟩ | ⟨y,u,rfl,e⟩
   ·exact nomatch e
   ·injection e with e1 _; rw [e1]
 byValue:=λk v h=>by
  rcases bc h with ⟨i,t,rfl,rfl⟩ | ⟨x,t,rfl,rfl⟩<;>rfl
 pyHash:=λhv h=>by
  rcases bc hv with ⟨i,t,rfl,rfl⟩ | ⟨x,t,rfl,rfl⟩
  ·exact wpAny_pyHash_int h
  ·exact wpAny_pyHash_str h
 eqBool:=λhu hv h=>by
  rcases bc hu with ⟨i,t,rfl,rfl⟩ | ⟨x,t,rfl,rfl⟩
  ·rcases bc hv with ⟨j,u,rfl,rfl⟩ | ⟨y,u,rfl,rfl⟩
   ·rw [key_ll] at h; exact wpAny_eqBool_int h
   ·rw [key_lr] at h; exact SeqAt.EqAt.int_str i t y u _ _ _ _ h
  ·rcases bc hv with ⟨j,u,rfl,rfl⟩ | ⟨y,u,rfl,rfl⟩
   ·rw [key_rl] at h; exact SeqAt.EqAt.str_int x t j u _ _ _ _ h
   ·rw [key_rr] at h; exact wpAny_eqBool_str h
 «strs»:=λk x t v h=>by
  rcases bc h with ⟨i,u,rfl,e⟩ | ⟨y,u,rfl,e⟩
  ·exact nomatch e
  ·injection e with e1 _
   subst e1
   cases v<;>rfl
theorem mixKind_int (prog:Program) (w:World) (i:Int) (t:Tok):(aZ prog w).is (.inl i) (.int i t)=true:=keyIs_int i t
theorem mixKind_str (prog:Program) (w:World) (x:Str) (t:Tok):(aZ prog w).is (.inr x) (.str x t)=true:=keyIs_str x t
inductive V where
 | non | bl (b:Bool) | int (i:Int) | str (x:Str) | byt (b:Array UInt8) | flt (b:UInt64) | ref (a:Addr) | ty (n:String)
 deriving DecidableEq
def k9:V->Value->Prop
 | .non,u=>u=Value.none
 | .bl b,u=>u=Value.bool b
 | .int i,u=>∃ t,u=Value.int i t
 | .str x,u=>∃ t,u=Value.str x t
 | .byt b,u=>∃ t,u=Value.bytes b t
 | .flt b,u=>∃ t,u=Value.float b t
 | .ref a,u=>u=Value.ref a
 | .ty n,u=>u=Value.type n
abbrev kY:List V->List Value->Prop:=Paired k9
theorem kY.length {xs:List V} {us:List Value} (r:kY xs us):xs.length=us.length:=Paired.length r
theorem kY.get:∀ {xs:List V} {us:List Value} {i:Nat} {x:V},kY xs us->xs[i]? = some x->∃ u,us[i]? = some u/\k9 x u
 | _,_,_,_,.nil,e=>by simp at e
 | _,_,0,_,.cons r _,e=>by simp at e; subst e; exact ⟨_,rfl,r⟩
 | _,_,i+1,x,.cons _ t,e=>by
  obtain ⟨u,h1,h2⟩:=kY.get (i:=i) (x:=x) t (by simpa using e)
  exact ⟨u,by simpa using h1,h2⟩
theorem kY.set {x:V} {u:Value} (r:k9 x u):∀ {xs:List V} {us:List Value} (i:Nat),kY xs us->kY (xs.set i x) (us.set i u)
 | _,_,_,.nil=>.nil
 | _,_,0,.cons _ t=>.cons r t
 | _,_,i+1,.cons q t=>.cons q (kY.set r i t)
theorem kY.append:∀ {xs ys:List V} {us ws:List Value},kY xs us->kY ys ws->kY (xs++ys) (us++ws)
 | _,_,_,_,.nil,s=>s
 | _,_,_,_,.cons r t,s=>.cons r (kY.append t s)
theorem kY.take:∀ {xs:List V} {us:List Value} (n:Nat),kY xs us->kY (xs.take n) (us.take n)
 | _,_,0,_=>.nil
 | _,_,_+1,.nil=>.nil
 | _,_,n+1,.cons r t=>.cons r (kY.take n t)
theorem kY.drop:∀ {xs:List V} {us:List Value} (n:Nat),kY xs us->kY (xs.drop n) (us.drop n)
 | _,_,0,r=>r
 | _,_,_+1,.nil=>.nil
 | _,_,n+1,.cons _ t=>kY.drop n t
def RelO:Option V->Option Value->Prop
 | some v,some u=>k9 v u
 | none,none=>True
 | _,_=>False
def KV {κ:Type}:List (κ × V)->List (κ × Value)->Prop:=Paired λ(p:κ × V) (q:κ × Value)=>p.1=q.1/\k9 p.2 q.2
def kV:Key->V
 | .inl i=>.int i
 | .inr x=>.str x
inductive HO where
 | lst (xs:List V)
 | tup (xs:List V)
 | dK (kvs:List (Key × V)) | dT (kvs:List (List Key × V))
 | set (S:Int->Bool) (n:Nat)
 | ins (C dx:Addr) (fs:List (Str × V))
 | own (x:Addr)
 | xd (fs:List (Str × V))
 | met (f x:Addr)
 | rng (lo hi:Int)
 | frz (o:Obj) (u:HO)
 | tbl (ps:Array Value)
 | ext (φ:Heap->Prop)
abbrev Hp:=Addr->Option HO
def upd (H:Hp) (a:Addr) (o:HO):Hp:=λb=>if b=a then some o else H b
theorem af {H:Hp} {a:Addr} {o:HO}:upd H a o a=some o:=by unfold upd; rw [if_pos rfl]
theorem au {H:Hp} {a b:Addr} {o:HO} (h:b ≠ a):upd H a o b=H b:=by unfold upd; rw [if_neg h]
theorem bX {H:Hp} {a:Addr} {o u:HO}:upd (upd H a o) a u=upd H a u:=by
 funext b; unfold upd; split<;>rfl
theorem bU {H:Hp} {a b:Addr} {o u:HO} (h:H a=some o) (h':H b=some u) (d:o ≠ u):a ≠ b:=by
 intro e; subst e; rw [h] at h'; exact d (Option.some.inj h')
theorem aC {H:Hp} {a b:Addr} {o:HO} (h:H a=some o) (h':H b=none):a ≠ b:=by
 intro e; subst e; rw [h] at h'; cases h'
section
variable (P:Program) (w:World)
def ls (H:Hp) (h:Heap) (a:Addr):HO->Prop
 | .lst xs=>xs.length<=sizeLine/\∃ (its:List Value) (n:Nat),kY xs its/\h.get? a=some { cls:=.type "list",data:=.seq its.toArray n }
 | .tup xs=>xs.length<=sizeLine/\∃ its:List Value,kY xs its/\IsTup h a its.toArray
 | .dK kvs=>kvs.length<=sizeLine/\(a == sysModules)=false/\∃ vs,KV kvs vs/\h.DictOf (aZ P w) a vs
 | .dT kvs=>kvs.length<=sizeLine/\(a == sysModules)=false/\∃ xs:List (List Key × Addr × Value),
   Paired (λ(p:List Key × V) (q:List Key × Addr × Value)=>p.1=q.1/\H q.2.1=some (.tup (p.1.map kV))/\k9 p.2 q.2.2) kvs xs/\
   ∃ o es ep,h.get? a=some o/\o.ExactDict/\o.data=.dict es ep/\es.toList=xs.map (entryOfKey (tupleKind (aZ P w)))/\(xs.map (·.1)).Nodup
 | .set S n=>h.SetOf (intKind P w) a S n
 | .ins C dx fs=>H dx=some (.own a)/\fs.length<=1000/\dx ≠ a/\h.get? a=some (instObj C dx)/\
   ∃ mA,h.Ns1 dx mA/\(∀ f,RelO (fs.lookup f) (mA f))/\PySem.Within mA (fs.map (·.1))
 | .own _=>∃ o,h.get? a=some o
 | .xd fs=>∃ mA,h.Ns1 a mA/\∀ f,RelO (fs.lookup f) (mA f)
 | .rng lo hi=>∃ t u v,h.get? a=some { cls:=.type "range",data:=.fields #[.int lo t,.int hi u,.int 1 v] }
 | .frz o u=>h.get? a=some o/\ls H h a u
 | .tbl ps=>h.get? a=some { cls:=.none,data:=.fields ps }
 | .met f x=>h.get? a=some (PySem.W.methodObj (.ref f) (.ref x))
 | .ext φ=>φ h/\(∃ o,h.get? a=some o)/\∀ h1 h2:Heap,φ h1->(∀ o,h1.get? a=some o->h2.get? a=some o)->φ h2
def HOk (H:Hp) (h:Heap):Prop:=∀ a o,H a=some o->ls P w H h a o
end
section
variable {P:Program} {w:World} {H H':Hp} {h h':Heap} {a:Addr} {o:HO}
theorem ls.lt (x:ls P w H h a o):a<h.objs.size:=by
 cases o with
 | lst xs=>obtain ⟨_,_,_,_,e⟩:=x; exact lt_size e
 | tup xs=>obtain ⟨_,_,_,p⟩:=x; exact p.lt
 | dK kvs=>obtain ⟨_,_,_,_,o,_,_,e,_⟩:=x; exact lt_size e
 | dT kvs=>obtain ⟨_,_,_,_,o,_,_,e,_⟩:=x; exact lt_size e
 | set S n=>obtain ⟨o,_,_,_,e,_⟩:=x; exact lt_size e
 | ins C dx fs=>obtain ⟨_,_,_,e,_⟩:=x; exact lt_size e
 | own y=>obtain ⟨_,e⟩:=x; exact lt_size e
 | xd fs=>obtain ⟨_,⟨_,_,_,e,_⟩,_⟩:=x; exact lt_size e
 | rng lo hi=>obtain ⟨_,_,_,e⟩:=x; exact lt_size e
 | frz ob u=>obtain ⟨e,_⟩:=x; exact lt_size e
 | tbl ps=>exact lt_size (show h.get? a=some _ from x)
 | met f y=>exact lt_size (show h.get? a=some _ from x)
 | ext φ=>obtain ⟨_,⟨_,e⟩,_⟩:=x; exact lt_size e
theorem Paired.mapP {α β:Type} {F G:α->β->Prop}:∀ {l₁:List α} {l₂:List β},Paired F l₁ l₂->(∀ a b,F a b->G a b)->Paired G l₁ l₂
 | _,_,.nil,_=>.nil
 | _,_,.cons r t,f=>.cons (f _ _ r) (Paired.mapP t f)
theorem ls.stay (x:ls P w H h a o) (k:∀ b u,(b=a\/H b=some (.own a))->h.get? b=some u->h'.get? b=some u)
  (ho:∀ b,H b=some (.own a)->H' b=some (.own a)) (ht:∀ b xs,H b=some (.tup xs)->H' b=some (.tup xs)):ls P w H' h' a o:=by
 induction o with
 | lst xs=>obtain ⟨z,its,n,r,e⟩:=x; exact ⟨z,its,n,r,k _ _ (.inl rfl) e⟩
 | tup xs=>obtain ⟨z,its,r,ob,e,c⟩:=x; exact ⟨z,its,r,ob,k _ _ (.inl rfl) e,c⟩
 | dK kvs=>obtain ⟨z,y,vs,r,ob,es,ep,e,c⟩:=x; exact ⟨z,y,vs,r,ob,es,ep,k _ _ (.inl rfl) e,c⟩
 | dT kvs=>
  obtain ⟨z,y,xs,r,ob,es,ep,e,c⟩:=x
  exact ⟨z,y,xs,Paired.mapP r λp q z=>⟨z.1,ht _ _ z.2.1,z.2.2⟩,ob,es,ep,k _ _ (.inl rfl) e,c⟩
 | set S n=>obtain ⟨ob,es,ep,t,e,c⟩:=x; exact ⟨ob,es,ep,t,k _ _ (.inl rfl) e,c⟩
 | ins C dx fs=>
  obtain ⟨d,z,ne,e,mA,⟨od,es,ep,e2,c⟩,r⟩:=x
  exact ⟨ho _ d,z,ne,k _ _ (.inl rfl) e,mA,⟨od,es,ep,k _ _ (.inr d) e2,c⟩,r⟩
 | own y=>obtain ⟨ob,e⟩:=x; exact ⟨ob,k _ _ (.inl rfl) e⟩
 | xd fs=>obtain ⟨mA,⟨od,es,ep,e,c⟩,r⟩:=x; exact ⟨mA,⟨od,es,ep,k _ _ (.inl rfl) e,c⟩,r⟩
 | rng lo hi=>obtain ⟨t,u,v,e⟩:=x; exact ⟨t,u,v,k _ _ (.inl rfl) e⟩
 | frz ob u ih=>obtain ⟨e,q⟩:=x; exact ⟨k _ _ (.inl rfl) e,ih q⟩
 | tbl ps=>
  have e:h.get? a=some { cls:=.none,data:=.fields ps }:=x
  show h'.get? a=some { cls:=.none,data:=.fields ps }
  exact k a _ (.inl rfl) e
 | met f y=>
  have e:h.get? a=some (PySem.W.methodObj (.ref f) (.ref y)):=x
  show h'.get? a=some (PySem.W.methodObj (.ref f) (.ref y))
  exact k a _ (.inl rfl) e
 | ext φ=>obtain ⟨p,⟨o,e⟩,st⟩:=x; exact ⟨st _ _ p λo q=>k _ _ (.inl rfl) q,⟨o,k _ _ (.inl rfl) e⟩,st⟩
theorem HOk.lt (x:HOk P w H h) (e:H a=some o):a<h.objs.size:=(x a o e).lt
theorem HOk.fresh (x:HOk P w H h) (e:h.objs.size<=a):H a=none:=by
 cases q:H a with
 | none=>rfl
 | some u=>exact absurd (Nat.lt_of_lt_of_le (x.lt q) e) (Nat.lt_irrefl _)
theorem HOk.kept (x:HOk P w H h) (k:∀ b u,h.get? b=some u->h'.get? b=some u):HOk P w H h':=λa o e=>
 (x a o e).stay (λb u _ q=>k b u q) (λ_ q=>q) λ_ _ q=>q
theorem HOk.laid (x:HOk P w H h) (k:∀ b u,h.get? b=some u->h'.get? b=some u) (hp:h.objs.size<=a) (new:ls P w (upd H a o) h' a o):HOk P w (upd H a o) h':=λb u e=>by
 have hn:=x.fresh hp
 by_cases hb:b=a
 ·subst hb; rw [af] at e; cases e; exact new
 ·rw [au hb] at e
  exact (x b u e).stay (λc v _ q=>k c v q) (λc q=>by rw [au (aC q hn)]; exact q) λc xs q=>by rw [au (aC q hn)]; exact q
end
def Rd (H:Hp) (a:Addr) (u:HO):Prop:=H a=some u\/∃ o,H a=some (.frz o u)
theorem Rd.ok {P:Program} {w:World} {H:Hp} {h:Heap} {a:Addr} {u:HO} (r:Rd H a u) (x:HOk P w H h):ls P w H h a u:=by
 rcases r with r | ⟨o,r⟩
 ·exact x a u r
 ·obtain ⟨_,q⟩:=x a _ r
  exact q
def Mut:Option HO->Prop
 | some (.lst _)=>True
 | some (.dK _)=>True
 | some (.dT _)=>True
 | some (.set _ _)=>True
 | some (.ins _ _ _)=>True
 | some (.ext _)=>True
 | _=>False
section
variable {P:Program} {w:World} {H:Hp} {h h':Heap} {x e:Addr} {o':HO}
theorem HOk.write (ok:HOk P w H h) (mu:Mut (H x)) (he:e=x\/H e=some (.own x)) (k:∀ b u,b ≠ e->h.get? b=some u->h'.get? b=some u) (heo:∃ u,h'.get? e=some u)
  (new:ls P w (upd H x o') h' x o'):HOk P w (upd H x o') h':=λb u q=>by
 have nown:∀ c y,H c=some (.own y)->c ≠ x:=λc y r z=>by subst z; rw [r] at mu; exact mu
 have ntup:∀ c xs,H c=some (.tup xs)->c ≠ x:=λc xs r z=>by subst z; rw [r] at mu; exact mu
 by_cases hb:b=x
 ·subst hb; rw [af] at q; cases q; exact new
 ·rw [au hb] at q
  by_cases hbe:b=e
  ·have q':H b=some (.own x):=by
    rcases he with z | z
    ·exact absurd (hbe.trans z) hb
    ·rw [hbe]; exact z
   rw [q] at q'; cases q'
   obtain ⟨v,hv⟩:=heo
   exact ⟨v,by rw [hbe]; exact hv⟩
  ·refine (ok b u q).stay (λc v hc r=>k c v ?_ r) (λc r=>by rw [au (nown c b r)]; exact r) λc xs r=>by rw [au (ntup c xs r)]; exact r
   rcases hc with rfl | hc
   ·exact hbe
   ·rintro rfl
    rcases he with z | z
    ·exact nown c b hc z
    ·rw [hc] at z; cases z; exact hb rfl
end
structure Un (fs ex:List Addr) (H H':Hp) (h h':Heap):Prop where
 keep:∀ b o,h.get? b=some o->H b=none->b ∉ fs->b ∉ ex->h'.get? b=some o
 slot:∀ b o,h.get? b=some o->H b=none->b ∈ fs->b ∉ ex->∃ sl,h'.get? b=some { o with slots:=sl }
 free:∀ b o,h.get? b=some o->H b=none->b ∉ ex->H' b=none
 there:∀ b o,h.get? b=some o->b ∉ ex->∃ o',h'.get? b=some o'
 tups:∀ b xs,H b=some (.tup xs)->H' b=some (.tup xs)
 frzs:∀ b o u,H b=some (.frz o u)->H' b=some (.frz o u)
 tbls:∀ b ps,H b=some (.tbl ps)->∃ more,H' b=some (.tbl (ps++more))
section
variable {fs fs' ex ex':List Addr} {H H1 H2:Hp} {h h1 h2 h':Heap} {a x e:Addr} {o:HO}
theorem Un.any (u:Un fs ex H H1 h h1) {b:Addr} {ob:Obj} (q:h.get? b=some ob) (n:H b=none) (hx:b ∉ ex):∃ sl,h1.get? b=some { ob with slots:=sl }:=by
 by_cases hb:b ∈ fs
 ·exact u.slot b ob q n hb hx
 ·exact ⟨ob.slots,u.keep b ob q n hb hx⟩
theorem Un.kept (k:∀ b u,h.get? b=some u->h'.get? b=some u):Un fs ex H H h h':=
 ⟨λb ob q _ _ _=>k b ob q,λb ob q _ _ _=>⟨ob.slots,k b ob q⟩,λ_ _ _ n _=>n,λb ob q _=>⟨ob,k b ob q⟩,λ_ _ q=>q,λ_ _ _ q=>q,λ_ ps q=>⟨#[],by rw [q]; simp⟩⟩
theorem Un.refl:Un fs ex H H h h:=Un.kept λ_ _ q=>q
theorem Un.laid (k:∀ b u,h.get? b=some u->h'.get? b=some u) (hp:h.objs.size<=a) (hn:H a=none):Un fs ex H (upd H a o) h h' where
 keep:=λb u q _ _ _=>k b u q
 slot:=λb u q _ _ _=>⟨u.slots,k b u q⟩
 free:=λb u q n _=>by rw [au (Nat.ne_of_lt (Nat.lt_of_lt_of_le (lt_size q) hp))]; exact n
 there:=λb u q _=>⟨u,k b u q⟩
 tups:=λb xs q=>by rw [au (aC q hn)]; exact q
 frzs:=λb u xs q=>by rw [au (aC q hn)]; exact q
 tbls:=λb ps q=>⟨#[],by rw [au (aC q hn),q]; simp⟩
theorem Un.write (mu:Mut (H x)) (he:e=x\/H e=some (.own x)) (k:∀ b u,b ≠ e->h.get? b=some u->h'.get? b=some u) (heo:∃ u,h'.get? e=some u):Un fs ex H (upd H x o) h h':=by
 have hx:∀ b,H b=none->b ≠ x:=λb n z=>by subst z; rw [n] at mu; exact mu
 have hb:∀ b,H b=none->b ≠ e:=λb n z=>by
  subst z
  rcases he with r | r
  ·exact hx b n r
  ·rw [n] at r; cases r
 have hm:∀ b u,H b=some u->¬ Mut (some u)->b ≠ x:=λb u q nm z=>by subst z; rw [q] at mu; exact nm mu
 refine ⟨λb u q n _ _=>k b u (hb b n) q,λb u q n _ _=>⟨u.slots,k b u (hb b n) q⟩,λb u q n _=>by rw [au (hx b n)]; exact n,λb u q _=>?_,
  λb xs q=>by rw [au (hm b _ q λz=>z)]; exact q,λb u xs q=>by rw [au (hm b _ q λz=>z)]; exact q,λb ps q=>⟨#[],by rw [au (hm b _ q λz=>z),q]; simp⟩⟩
 by_cases hbe:b=e
 ·subst hbe; exact heo
 ·exact ⟨u,k b u hbe q⟩
end
def trk (h:Heap) (H:Hp):List Addr:=(List.range h.objs.size).filter λa=>(H a).isSome
def kN (h:Heap) (H:Hp):Heap:=PySem.W.hideAll h (trk h H)
theorem hidT_size (h:Heap) (H:Hp):(kN h H).objs.size=h.objs.size:=PySem.W.hideAll_size _ _
theorem hidT_get {h:Heap} {H:Hp} {b:Addr} {o:Obj} (e:h.get? b=some o) (n:H b=none):(kN h H).get? b=some o:=
 hideAll_get _ e λhm=>by
  have q:(H b).isSome=true:=(List.mem_filter.mp hm).2
  rw [n] at q; simp at q
theorem of_hidT {h:Heap} {H:Hp} {b:Addr} {o:Obj} (e:(kN h H).get? b=some o):h.get? b=some o/\H b=none:=by
 have e':h.get? b=some o:=PySem.W.of_hideAll (trk h H) e
 refine ⟨e',?_⟩
 cases q:H b with
 | none=>rfl
 | some x=>
  have hm:b ∈ trk h H:=List.mem_filter.mpr ⟨List.mem_range.mpr (lt_size e'),by simp [q]⟩
  have z:(kN h H).get? b=none:=PySem.W.hideAll_none (trk h H) hm
  rw [z] at e; cases e
structure Mod (K:Frag) (mg:Str->Option Value) (base:Heap):Prop where
 kin:K.In base
 glob:base.Ns mainGlobals mg
 blt:∃ mb,base.Ns builtinsNs mb/\∀ x:Str,x ≠ "__name__"->mb x=bootBuiltins x
 nolimit:base.NoLimit
structure Cx where
 prog:Program
 w:World
 K:Frag
 mg:Str->Option Value
 base:Heap
 A:Around
 N:List Str
 s₀:Shared
 H₀:Hp
 env:Env
 outer:List Env
 stack:List Env
 ex:List Addr
 fn:Str->Bool
 calm:Bool
 pn:List (Addr × Obj)
 xe:Value->Shared->Prop
def frs (l:List Env):List Addr:=l.filterMap (·.frame)
abbrev Cx.fs (X:Cx):List Addr:=frs X.outer
def Vis (sc:Scope) (x:Str):Prop:=sc.names.lookup x=some .local\/sc.names.lookup x=some .cell\/sc.names.lookup x=some .free
def Loc (sc:Scope) (x:Str):Prop:=sc.names.lookup x=some .local\/sc.names.lookup x=some .cell
def Look (env:Env) (h:Heap) (m:Str->Option Value) (x:Str) (u:Value):Prop:=
 (env.kindOf x=some .local/\m x=some u)\/((env.kindOf x=some .cell\/env.kindOf x=some .free)/\∃ c,env.cells.lookup x=some c/\h.IsCell c (some u))
structure Cx.Ok (X:Cx):Prop where
 mod:Mod X.K X.mg X.base
 kind:X.env.scope.kind=.function
 glob:X.env.globals=mainGlobals
 blt:X.env.builtins=builtinsNs
 above:X.s₀.heap.objs.size<=X.env.locals
 inj:∀ x y c,X.env.cells.lookup x=some c->X.env.cells.lookup y=some c->x=y
 has:∀ x,(X.env.kindOf x=some .cell\/X.env.kindOf x=some .free)->∃ c,X.env.cells.lookup x=some c
 cab:∀ x c,X.fn x=true->X.env.cells.lookup x=some c->X.s₀.heap.objs.size<=c
 hd:X.calm=true->X.A.handled=none
 frames:X.A.frames=some X.stack
 stk:X.stack=X.outer\/(X.stack=X.env::X.outer/\X.env.frame=some X.env.locals)
 exf:∀ b ∈ X.ex,b ≠ X.env.locals/\∀ x c,X.env.cells.lookup x=some c->c ≠ b
 bs:∀ b o,X.base.get? b=some o->X.s₀.heap.get? b=some o/\X.H₀ b=none
 bsz:X.base.objs.size<=X.s₀.heap.objs.size
 noex:∀ b o,X.base.get? b=some o->b ∉ X.ex
 exfs:∀ b ∈ X.ex,b ∉ X.fs
 funs:X.s₀.heap.FunFrames X.base X.outer
 frf:∀ b ∈ X.fs,X.H₀ b=none
structure Inv (X:Cx) (pins:List (Addr × Obj)) (σ:List (Option V)) (H:Hp) (s:Shared):Prop where
 ok:X.Ok
 os:s.os=X.s₀.os
 bare:AllBare s.gens
 base:Un X.fs X.ex X.H₀ H X.s₀.heap s.heap
 loc:∃ m,s.heap.Ns X.env.locals m/\∀ (i:Nat) (x:Str) (v:V),X.N[i]? = some x->σ[i]? = some (some v)->Vis X.env.scope x->∃ u,k9 v u/\Look X.env s.heap m x u
 cell:∀ x c,X.env.cells.lookup x=some c->∃ v,s.heap.IsCell c v
 free:H X.env.locals=none
 freeC:∀ x c,X.env.cells.lookup x=some c->H c=none
 pin:∀ p ∈ X.pn++pins,s.heap.get? p.1=some p.2/\H p.1=none/\p.1 ≠ X.env.locals/\p.1 ∉ X.fs/\∀ v,p.2.data ≠ .cell v
 hok:HOk X.prog X.w H s.heap
 len:σ.length=X.N.length
section
variable {X:Cx} {pins:List (Addr × Obj)} {σ:List (Option V)} {H H':Hp} {s:Shared} {h':Heap}
theorem Cx.Ok.nofr (ok:X.Ok) {b:Addr} {o:Obj} (e:X.base.get? b=some o):b ∉ X.fs:=λhb=>by
 have:=(ok.funs.mem hb).1
 rw [e] at this; cases this
theorem Inv.bs (I:Inv X pins σ H s):∀ b o,X.base.get? b=some o->s.heap.get? b=some o/\H b=none:=λb o e=>
 ⟨I.base.keep b o (I.ok.bs b o e).1 (I.ok.bs b o e).2 (I.ok.nofr e) (I.ok.noex b o e),I.base.free b o (I.ok.bs b o e).1 (I.ok.bs b o e).2 (I.ok.noex b o e)⟩
theorem Inv.bk (I:Inv X pins σ H s):∀ b o,X.base.get? b=some o->s.heap.get? b=some o:=λb o e=>(I.bs b o e).1
theorem Inv.mod (I:Inv X pins σ H s):Mod X.K X.mg X.base:=I.ok.mod
theorem Inv.kIn (I:Inv X pins σ H s):X.K.In s.heap:=I.ok.mod.kin.keeps I.bk
theorem Inv.lt (I:Inv X pins σ H s):X.env.locals<s.heap.objs.size:=let ⟨_,hn,_⟩:=I.loc; hn.lt
theorem Inv.sz (I:Inv X pins σ H s):X.s₀.heap.objs.size<=s.heap.objs.size:=Nat.le_trans I.ok.above (Nat.le_of_lt I.lt)
theorem Inv.nofs (I:Inv X pins σ H s) {a:Addr} (h:s.heap.objs.size<=a):a ∉ X.fs:=λhb=>by
 obtain ⟨_,o,ho,_⟩:=I.ok.funs.mem hb
 exact absurd (Nat.lt_of_lt_of_le (lt_size ho) (Nat.le_trans I.sz h)) (Nat.lt_irrefl _)
theorem Inv.cne (I:Inv X pins σ H s):∀ x c,X.env.cells.lookup x=some c->c ≠ X.env.locals:=λx c e z=>by
 obtain ⟨v,o,ho,hd⟩:=I.cell x c e
 obtain ⟨m,⟨o',es,ep,ho',hd',_⟩,_⟩:=I.loc
 rw [z,ho'] at ho; cases ho; rw [hd'] at hd; cases hd
theorem Inv.funs (I:Inv X pins σ H s):s.heap.FunFrames X.base X.outer:=by
 have all:∀ (l:List Env),(∀ b ∈ frs l,b ∈ X.fs)->X.s₀.heap.FunFrames X.base l->s.heap.FunFrames X.base l:=by
  intro l
  induction l with
  | nil=>intro _ _; trivial
  | cons env r ih=>
   intro hs hl
   obtain ⟨hk,⟨L,o,hf,hn,ho,hd⟩,hr⟩:=hl
   have hL:L ∈ X.fs:=hs L (by unfold frs; rw [filterMap_cons,hf]; exact mem_cons_self)
   obtain ⟨sl,e⟩:=I.base.slot L o ho (I.ok.frf L hL) hL λz=>I.ok.exfs L z hL
   exact ⟨hk,⟨L,_,hf,hn,e,hd⟩,ih (λb hb=>hs b (by unfold frs; rw [filterMap_cons,hf]; exact mem_cons_of_mem _ hb)) hr⟩
 exact all X.outer (λ_ hb=>hb) I.ok.funs
theorem Inv.stack (I:Inv X pins σ H s):s.heap.FunFrames X.base X.stack:=by
 rcases I.ok.stk with e | ⟨e,hf⟩
 ·rw [e]; exact I.funs
 ·rw [e]
  obtain ⟨m,hn,_⟩:=I.loc
  refine .cons (by rw [I.ok.kind]; decide) hf hn ?_ I.funs
  exact Heap.get?_none_of_le (Nat.le_trans I.ok.bsz I.ok.above)
theorem Inv.stkSub (I:Inv X pins σ H s):∀ b ∈ frs X.stack,b ∈ X.env.locals::X.fs:=λb hb=>by
 rcases I.ok.stk with e | ⟨e,hf⟩
 ·rw [e] at hb; exact mem_cons_of_mem _ hb
 ·rw [e] at hb
  unfold frs at hb
  rw [filterMap_cons,hf] at hb
  exact hb
theorem Inv.stkFree (I:Inv X pins σ H s):∀ b ∈ frs X.stack,H b=none:=λb hb=>by
 rcases List.mem_cons.mp (I.stkSub b hb) with e | hb
 ·rw [e]; exact I.free
 ·obtain ⟨_,o,ho,_⟩:=I.ok.funs.mem hb
  exact I.base.free b o ho (I.ok.frf b hb) λz=>I.ok.exfs b z hb
theorem Inv.step {g':Array GenState} {t':Nat} {d':Drawn} {ch:List Addr} (I:Inv X pins σ H s)
  (hch:∀ b ∈ ch,(b ∈ X.ex\/X.s₀.heap.objs.size<=b)/\b ≠ X.env.locals/\(∀ x c,X.env.cells.lookup x=some c->c ≠ b)/\∀ p ∈ X.pn++pins,p.1 ≠ b)
  (keep:∀ b o,b ≠ X.env.locals->b ∉ X.fs->b ∉ ch->s.heap.get? b=some o->H b=none->h'.get? b=some o)
  (slot:∀ b o,b ≠ X.env.locals->b ∈ X.fs->b ∉ ch->s.heap.get? b=some o->H b=none->∃ sl,h'.get? b=some { o with slots:=sl }) (free:∀ b o,b ∉ ch->s.heap.get? b=some o->H b=none->H' b=none)
  (there:∀ b o,b ∉ ch->s.heap.get? b=some o->∃ o',h'.get? b=some o')
  (tups:∀ b xs,H b=some (.tup xs)->H' b=some (.tup xs)) (frzs:∀ b o u,H b=some (.frz o u)->H' b=some (.frz o u)) (tbls:∀ b ps,H b=some (.tbl ps)->∃ more,H' b=some (.tbl (ps++more)))
  (ns:∀ m,s.heap.Ns X.env.locals m->h'.Ns X.env.locals m) (hok:HOk X.prog X.w H' h') (hg:AllBare g') :
  Inv X pins σ H' { s with heap:=h',gens:=g',drawn:=d',toks:=t' }:=by
 have neL:∀ b o,X.s₀.heap.get? b=some o->b ≠ X.env.locals:=λb o e=>Nat.ne_of_lt (Nat.lt_of_lt_of_le (lt_size e) I.ok.above)
 have neC:∀ b o,X.s₀.heap.get? b=some o->b ∉ X.ex->b ∉ ch:=λb o e hx hb=>by
  rcases (hch b hb).1 with z | z
  ·exact hx z
  ·exact absurd (Nat.lt_of_lt_of_le (lt_size e) z) (Nat.lt_irrefl _)
 have cellK:∀ x c,X.env.cells.lookup x=some c->∀ v,s.heap.IsCell c v->h'.IsCell c v:=λx c e v ⟨o,ho,hd⟩=>by
  have nch:c ∉ ch:=λz=>(hch c z).2.2.1 x c e rfl
  by_cases hc:c ∈ X.fs
  ·obtain ⟨sl,q⟩:=slot c o (I.cne x c e) hc nch ho (I.freeC x c e)
   exact ⟨_,q,hd⟩
  ·exact ⟨o,keep c o (I.cne x c e) hc nch ho (I.freeC x c e),hd⟩
 refine ⟨I.ok,I.os,hg,⟨λb o e n hb hx=>?_,λb o e n hb hx=>?_,λb o e n hx=>?_,λb o e hx=>?_,λb xs e=>tups b xs (I.base.tups b xs e),λb o xs e=>frzs b o xs (I.base.frzs b o xs e),λb ps e=>?_⟩,?_,λx c e=>?_,?_,λx c e=>?_,λp hp=>?_,hok,I.len⟩
 ·exact keep b o (neL b o e) hb (neC b o e hx) (I.base.keep b o e n hb hx) (I.base.free b o e n hx)
 ·obtain ⟨sl,e1⟩:=I.base.slot b o e n hb hx
  obtain ⟨sl',e2⟩:=slot b _ (neL b o e) hb (neC b o e hx) e1 (I.base.free b o e n hx)
  exact ⟨sl',e2⟩
 ·obtain ⟨o',e1⟩:=I.base.there b o e hx
  exact free b o' (neC b o e hx) e1 (I.base.free b o e n hx)
 ·obtain ⟨o',e1⟩:=I.base.there b o e hx
  exact there b o' (neC b o e hx) e1
 ·obtain ⟨m1,e1⟩:=I.base.tbls b ps e
  obtain ⟨m2,e2⟩:=tbls b _ e1
  exact ⟨m1++m2,by rw [e2,Array.append_assoc]⟩
 ·obtain ⟨m,hn,hl⟩:=I.loc
  refine ⟨m,ns m hn,λi x v e1 e2 e3=>?_⟩
  obtain ⟨u,r,l⟩:=hl i x v e1 e2 e3
  refine ⟨u,r,?_⟩
  rcases l with l | ⟨k,c,e,z⟩
  ·exact .inl l
  ·exact .inr ⟨k,c,e,cellK x c e _ z⟩
 ·obtain ⟨v,z⟩:=I.cell x c e
  exact ⟨v,cellK x c e v z⟩
 ·obtain ⟨m,⟨o,_,_,ho,_⟩,_⟩:=I.loc
  exact free _ o (λz=>(hch _ z).2.1 rfl) ho I.free
 ·obtain ⟨v,o,ho,hd⟩:=I.cell x c e
  exact free c o (λz=>(hch c z).2.2.1 x c e rfl) ho (I.freeC x c e)
 ·obtain ⟨e,n,ne,nf,d⟩:=I.pin p hp
  have nch:p.1 ∉ ch:=λz=>(hch p.1 z).2.2.2 p hp rfl
  exact ⟨keep p.1 p.2 ne nf nch e n,free p.1 p.2 nch e n,ne,nf,d⟩
theorem Inv.un {t':Nat} (I:Inv X pins σ H s) (u:Un X.fs [] H H' s.heap h') (hok:HOk X.prog X.w H' h'):Inv X pins σ H' { s with heap:=h',toks:=t' }:=by
 obtain ⟨m,⟨o,es,ep,ho,r⟩,_⟩:=id I.loc
 obtain ⟨sl,hL⟩:=u.any ho I.free (by simp)
 exact I.step (g':=s.gens) (d':=s.drawn) (ch:=[]) (λ_ z=>nomatch z) (λb o _ hb _ e n=>u.keep b o e n hb (by simp)) (λb o _ hb _ e n=>u.slot b o e n hb (by simp)) (λb o _ e n=>u.free b o e n (by simp)) (λb o _ e=>u.there b o e (by simp)) u.tups u.frzs u.tbls (λm' hm=>by
  obtain ⟨o',es',ep',ho',r'⟩:=hm
  rw [ho] at ho'; cases ho'
  exact ⟨_,es',ep',hL,r'⟩) hok I.bare
theorem Inv.call {g':Array GenState} {t':Nat} {d':Drawn} {ch:List Addr} (I:Inv X pins σ H s) (u:Un (frs X.stack) ch H H' s.heap h') (hok:HOk X.prog X.w H' h') (hg:AllBare g')
  (hch:∀ b ∈ ch,(b ∈ X.ex\/X.s₀.heap.objs.size<=b)/\b ≠ X.env.locals/\(∀ x c,X.env.cells.lookup x=some c->c ≠ b)/\∀ p ∈ X.pn++pins,p.1 ≠ b) :
  Inv X pins σ H' { s with heap:=h',gens:=g',drawn:=d',toks:=t' }:=by
 obtain ⟨m,⟨o,es,ep,ho,r⟩,_⟩:=id I.loc
 obtain ⟨sl,hL⟩:=u.any ho I.free λz=>(hch _ z).2.1 rfl
 exact I.step (ch:=ch) hch (λb o hL hb hc e n=>u.keep b o e n (λz=>(List.mem_cons.mp (I.stkSub b z)).elim hL hb) hc) (λb o _ _ hc e n=>u.any e n hc) (λb o hc e n=>u.free b o e n hc) (λb o hc e=>u.there b o e hc) u.tups u.frzs u.tbls (λm' hm=>by
  obtain ⟨o',es',ep',ho',r'⟩:=hm
  rw [ho] at ho'; cases ho'
  exact ⟨_,es',ep',hL,r'⟩) hok hg
theorem Inv.turned {t':Nat} {it:Addr} (I:Inv X pins σ H s) (k:∀ b o,b ≠ it->s.heap.get? b=some o->h'.get? b=some o) (hn:H it=none) (hL:it ≠ X.env.locals)
  (h1:it ∈ X.ex\/X.s₀.heap.objs.size<=it) (h2:∀ x c,X.env.cells.lookup x=some c->c ≠ it) (h3:∀ p ∈ X.pn++pins,p.1 ≠ it):Inv X pins σ H { s with heap:=h',toks:=t' }:=by
 have nit:∀ b u,H b=some u->b ≠ it:=λb u e z=>by rw [z,hn] at e; cases e
 refine I.step (g':=s.gens) (d':=s.drawn) (ch:=[it]) (λb hb=>?_) (λb o _ _ hc e _=>k b o (λz=>hc (by simp [z])) e) (λb o _ _ hc e _=>⟨o.slots,k b o (λz=>hc (by simp [z])) e⟩) (λ_ _ _ _ n=>n)
  (λb o hc e=>⟨o,k b o (λz=>hc (by simp [z])) e⟩) (λ_ _ e=>e) (λ_ _ _ e=>e) (λb ps e=>⟨#[],by rw [e]; simp⟩) (λm hm=>?_) (λb u e=>?_) I.bare
 ·have e:b=it:=by simpa using hb
  subst e
  exact ⟨h1,hL,h2,h3⟩
 ·obtain ⟨o,es,ep,ho,r⟩:=hm
  exact ⟨o,es,ep,k _ o (Ne.symm hL) ho,r⟩
 ·refine (I.hok b u e).stay (λc v hc q=>k c v ?_ q) (λ_ q=>q) λ_ _ q=>q
  rcases hc with z | z
  ·rw [z]; exact nit b u e
  ·exact nit c _ z
theorem Inv.tok (I:Inv X pins σ H s) (t:Nat):Inv X pins σ H { s with toks:=t }:=I.un (h':=s.heap) (t':=t) Un.refl I.hok
theorem Inv.kept {t':Nat} (I:Inv X pins σ H s) (k:∀ b u,s.heap.get? b=some u->h'.get? b=some u):Inv X pins σ H { s with heap:=h',toks:=t' }:=I.un (Un.kept k) (I.hok.kept k)
theorem Inv.laid {a:Addr} {o:HO} {t':Nat} (I:Inv X pins σ H s) (k:∀ b u,s.heap.get? b=some u->h'.get? b=some u) (hp:s.heap.objs.size<=a) (new:ls X.prog X.w (upd H a o) h' a o) :
  Inv X pins σ (upd H a o) { s with heap:=h',toks:=t' }:=I.un (Un.laid k hp (I.hok.fresh hp)) (I.hok.laid k hp new)
theorem Inv.write {x e:Addr} {o:HO} {t':Nat} (I:Inv X pins σ H s) (mu:Mut (H x)) (he:e=x\/H e=some (.own x)) (k:∀ b u,b ≠ e->s.heap.get? b=some u->h'.get? b=some u) (heo:∃ u,h'.get? e=some u)
  (new:ls X.prog X.w (upd H x o) h' x o):Inv X pins σ (upd H x o) { s with heap:=h',toks:=t' }:=I.un (Un.write mu he k heo) (I.hok.write mu he k heo new)
theorem Inv.pins_of {pins':List (Addr × Obj)} (I:Inv X pins σ H s) (h:∀ p ∈ pins',s.heap.get? p.1=some p.2/\H p.1=none/\p.1 ≠ X.env.locals/\p.1 ∉ X.fs/\∀ v,p.2.data ≠ .cell v):Inv X pins' σ H s:=
 ⟨I.ok,I.os,I.bare,I.base,I.loc,I.cell,I.free,I.freeC,λp hp=>(List.mem_append.mp hp).elim (λz=>I.pin p (List.mem_append_left _ z)) (h p),I.hok,I.len⟩
theorem nodup_ix {N:List Str} (hN:N.Nodup) {i j:Nat} {x:Str} (a:N[i]? = some x) (b:N[j]? = some x):i=j:=by
 obtain ⟨h1,e1⟩:=List.getElem?_eq_some_iff.mp a
 obtain ⟨h2,e2⟩:=List.getElem?_eq_some_iff.mp b
 exact (getElem_inj hN).mp (e1.trans e2.symm)
theorem jV {M:Model} {A:Around} {E:Value->Shared->Prop} {i:Nat} {x:Str} {v:V} {u:Value} {Q:Unit->Shared->Prop} (I:Inv X pins σ H s) (hN:X.N.Nodup) (hi:X.N[i]? = some x) (hx:Loc X.env.scope x) (r:k9 v u)
  (h:∀ s',Inv X pins (σ.set i (some v)) H s'->(∃ a,Heap.SameBut a s.heap s'.heap/\(a=X.env.locals\/X.env.cells.lookup x=some a))->Q () s') (hf:X.fn x=true\/X.env.scope.names.lookup x=some .local:=by first | exact .inl rfl | exact .inr rfl | assumption):wpAny M A (storeName X.env x u) Q E s:=by
 obtain ⟨m,hn,hl⟩:=id I.loc
 have hcls:(X.env.scope.kind == .class || (X.env.scope.kind == .module && X.env.locals != X.env.globals))=false:=by rw [I.ok.kind]; rfl
 have hiσ:i<σ.length:=by rw [I.len]; exact (List.getElem?_eq_some_iff.mp hi).1
 have cne:=I.cne
 have tracked:∀ {a:Addr} {h':Heap},(∃ o,s.heap.get? a=some o/\H a=none)->Heap.SameBut a s.heap h'->HOk X.prog X.w H h':=λ{a h'} ha hs b ob e=>by
  obtain ⟨_,_,hfree⟩:=ha
  refine (I.hok b ob e).stay (λc w' hc q=>(hs.2 c ?_).trans q) (λ_ q=>q) λ_ _ q=>q
  rintro rfl
  rcases hc with rfl | hc
  ·rw [hfree] at e; cases e
  ·rw [hfree] at hc; cases hc
 rcases hx with hk | hk
 ·refine wpAny_storeName_local hk hn (λh' hn' hs=>?_) hcls
  obtain ⟨oL,_,_,hoL,_⟩:=id hn
  refine h _ ⟨I.ok,I.os,I.bare,⟨λb o e n hb hx=>?_,λb o e n hb hx=>?_,I.base.free,λb o e hx=>?_,I.base.tups,I.base.frzs,I.base.tbls⟩,⟨_,hn',λj y v' e1 e2 e3=>?_⟩,λy c e=>?_,I.free,I.freeC,λp hp=>?_,tracked ⟨oL,hoL,I.free⟩ hs,by simpa using I.len⟩ ⟨_,hs,.inl rfl⟩
  ·exact (hs.2 b (Nat.ne_of_lt (Nat.lt_of_lt_of_le (lt_size e) I.ok.above))).trans (I.base.keep b o e n hb hx)
  ·obtain ⟨sl,e1⟩:=I.base.slot b o e n hb hx
   exact ⟨sl,(hs.2 b (Nat.ne_of_lt (Nat.lt_of_lt_of_le (lt_size e) I.ok.above))).trans e1⟩
  ·obtain ⟨o',e1⟩:=I.base.there b o e hx
   exact ⟨o',(hs.2 b (Nat.ne_of_lt (Nat.lt_of_lt_of_le (lt_size e) I.ok.above))).trans e1⟩
  ·by_cases hj:j=i
   ·subst hj
    rw [hi] at e1; cases e1
    rw [List.getElem?_set_self hiσ] at e2
    cases e2
    exact ⟨u,r,.inl ⟨hk,by simp⟩⟩
   ·rw [List.getElem?_set_ne (Ne.symm hj)] at e2
    obtain ⟨u',r',q⟩:=hl j y v' e1 e2 e3
    refine ⟨u',r',?_⟩
    rcases q with ⟨k,e⟩ | ⟨k,c,e,z⟩
    ·refine .inl ⟨k,?_⟩
     have:y ≠ x:=λe=>hj (nodup_ix hN e1 (e ▸ hi))
     simp [this,e]
    ·exact .inr ⟨k,c,e,z.sameBut hs (cne y c e)⟩
  ·obtain ⟨w',z⟩:=I.cell y c e
   exact ⟨w',z.sameBut hs (cne y c e)⟩
  ·obtain ⟨e,n,ne,nf,d⟩:=I.pin p hp
   exact ⟨(hs.2 p.1 ne).trans e,n,ne,nf,d⟩
 ·have hfn:X.fn x=true:=by
   rcases hf with z | z
   ·exact z
   ·rw [z] at hk; cases hk
  obtain ⟨c,hc⟩:=I.ok.has x (.inl hk)
  obtain ⟨w',z⟩:=I.cell x c hc
  refine wpAny_storeName_cell I.ok.kind hk hc z (λh' hc' hs=>?_)
  obtain ⟨oc,hoc,hocd⟩:=id z
  refine h { s with heap:=h' } ⟨I.ok,I.os,I.bare,⟨λb o e n hb hx=>?_,λb o e n hb hx=>?_,I.base.free,λb o e hx=>?_,I.base.tups,I.base.frzs,I.base.tbls⟩,⟨m,hn.sameBut hs (Ne.symm (cne x c hc)),λj y v' e1 e2 e3=>?_⟩,λy c' e=>?_,I.free,I.freeC,λp hp=>?_,tracked ⟨oc,hoc,I.freeC x c hc⟩ hs,by simpa using I.len⟩ ⟨c,hs,.inr hc⟩
  ·exact (hs.2 b (Nat.ne_of_lt (Nat.lt_of_lt_of_le (lt_size e) (I.ok.cab x c hfn hc)))).trans (I.base.keep b o e n hb hx)
  ·obtain ⟨sl,e1⟩:=I.base.slot b o e n hb hx
   exact ⟨sl,(hs.2 b (Nat.ne_of_lt (Nat.lt_of_lt_of_le (lt_size e) (I.ok.cab x c hfn hc)))).trans e1⟩
  ·obtain ⟨o',e1⟩:=I.base.there b o e hx
   exact ⟨o',(hs.2 b (Nat.ne_of_lt (Nat.lt_of_lt_of_le (lt_size e) (I.ok.cab x c hfn hc)))).trans e1⟩
  ·by_cases hj:j=i
   ·subst hj
    rw [hi] at e1; cases e1
    rw [List.getElem?_set_self hiσ] at e2
    cases e2
    exact ⟨u,r,.inr ⟨.inl hk,c,hc,hc'⟩⟩
   ·rw [List.getElem?_set_ne (Ne.symm hj)] at e2
    obtain ⟨u',r',q⟩:=hl j y v' e1 e2 e3
    refine ⟨u',r',?_⟩
    rcases q with q | ⟨k,c',e,z'⟩
    ·exact .inl q
    ·refine .inr ⟨k,c',e,z'.sameBut hs ?_⟩
     rintro rfl
     exact hj (nodup_ix hN e1 (I.ok.inj _ _ _ e hc ▸ hi))
  ·by_cases hcc:c'=c
   ·subst hcc; exact ⟨_,hc'⟩
   ·obtain ⟨w2,z2⟩:=I.cell y c' e
    exact ⟨w2,z2.sameBut hs hcc⟩
  ·obtain ⟨e,n,ne,nf,d⟩:=I.pin p hp
   refine ⟨(hs.2 p.1 ?_).trans e,n,ne,nf,d⟩
   intro q
   rw [q,hoc] at e
   have q':oc=p.2:=Option.some.inj e
   exact d w' (by rw [<- q']; exact hocd)
theorem fW {M:Model} {A:Around} {E:Value->Shared->Prop} {i:Nat} {x:Str} {v:V} {u:Value} {Q:Unit->Shared->Prop} (I:Inv X pins σ H s) (hN:X.N.Nodup) (hi:X.N[i]? = some x) (hx:Loc X.env.scope x) (r:k9 v u)
  (h:∀ s',Inv X pins (σ.set i (some v)) H s'->Q () s') (hf:X.fn x=true\/X.env.scope.names.lookup x=some .local:=by first | exact .inl rfl | exact .inr rfl | assumption):wpAny M A (storeName X.env x u) Q E s:=
 jV I hN hi hx r (λs' I' _=>h s' I') hf
theorem Inv.call' {s':Shared} {ch:List Addr} (I:Inv X pins σ H s) (ho:s'.os=s.os) (u:Un (frs X.stack) ch H H' s.heap s'.heap) (hok:HOk X.prog X.w H' s'.heap) (hg:AllBare s'.gens)
  (hch:∀ b ∈ ch,(b ∈ X.ex\/X.s₀.heap.objs.size<=b)/\b ≠ X.env.locals/\(∀ x c,X.env.cells.lookup x=some c->c ≠ b)/\∀ p ∈ X.pn++pins,p.1 ≠ b):Inv X pins σ H' s':=by
 obtain ⟨h',g',d',t',o'⟩:=s'
 have e:o'=s.os:=ho
 subst e
 exact I.call (g':=g') (t':=t') (d':=d') u hok hg hch
end
abbrev XK:=Value->Option Addr->Hp->Prop
abbrev St:=List (Option V)
abbrev VK:=V->Hp->Prop
abbrev TE:=St->Hp->VK->Prop
abbrev TT:=St->Hp->(Bool->Hp->Prop)->Prop
abbrev TA:=St->Hp->(List V->Hp->Prop)->Prop
structure fP where
 nx:St->Hp->Prop
 rt:VK
 bk:St->Hp->Prop:=λ_ _=>False
 ct:St->Hp->Prop:=λ_ _=>False
abbrev TS:=fP->St->Hp->Prop
def EP (X:Cx) (pins:List (Addr × Obj)) (σ:St) (Q:VK) (u:Value) (s':Shared):Prop:=∃ v H',Inv X pins σ H' s'/\k9 v u/\Q v H'
def TP (X:Cx) (pins:List (Addr × Obj)) (σ:St) (Q:Bool->Hp->Prop) (b:Bool) (s':Shared):Prop:=∃ H',Inv X pins σ H' s'/\Q b H'
def AP (X:Cx) (pins:List (Addr × Obj)) (σ:St) (Q:List V->Hp->Prop) (us:List Value) (s':Shared):Prop:=∃ vs H',Inv X pins σ H' s'/\kY vs us/\Q vs H'
def SP (X:Cx) (pins:List (Addr × Obj)) (D:fP) (f:Flow) (s':Shared):Prop:=
 match f with
 | .next=>∃ σ' H',Inv X pins σ' H' s'/\D.nx σ' H'
 | .brk=>∃ σ' H',Inv X pins σ' H' s'/\D.bk σ' H'
 | .cont=>∃ σ' H',Inv X pins σ' H' s'/\D.ct σ' H'
 | .ret u=>∃ v σ' H',Inv X pins σ' H' s'/\k9 v u/\D.rt v H'
def PE (X:Cx) (e:Expr) (t:TE):Prop:=
 ∀ (pins:List (Addr × Obj)) (s:Shared) (σ:St) (H:Hp) (Q:VK),Inv X pins σ H s->t σ H Q->wpAny (model X.prog X.w) X.A (eval e X.env) (EP X pins σ Q) X.xe s
def PT (X:Cx) (e:Expr) (t:TT):Prop:=
 ∀ (pins:List (Addr × Obj)) (s:Shared) (σ:St) (H:Hp) (Q:Bool->Hp->Prop),Inv X pins σ H s->t σ H Q->wpAny (model X.prog X.w) X.A (isTrue e X.env (eval e X.env)) (TP X pins σ Q) X.xe s
def PW (X:Cx) (e:Expr) (t:TT):Prop:=
 ∀ (whole:Sem Value) (pins:List (Addr × Obj)) (s:Shared) (σ:St) (H:Hp) (Q:Bool->Hp->Prop),Inv X pins σ H s->t σ H Q->wpAny (model X.prog X.w) X.A (isTrue e X.env whole) (TP X pins σ Q) X.xe s
theorem PW.pt {X:Cx} {e:Expr} {t:TT} (h:PW X e t):PT X e t:=h _
def PA (X:Cx) (es:List Expr) (t:TA):Prop:=
 ∀ (pos:Pos) (pins:List (Addr × Obj)) (s:Shared) (σ:St) (H:Hp) (Q:List V->Hp->Prop),Inv X pins σ H s->t σ H Q->wpAny (model X.prog X.w) X.A (spliced (backTo pos (starEach es X.env))) (AP X pins σ Q) X.xe s
def PS (X:Cx) (st:Stmt) (t:TS):Prop:=
 ∀ (pins:List (Addr × Obj)) (s:Shared) (σ:St) (H:Hp) (D:fP),Inv X pins σ H s->t D σ H->wpAny (model X.prog X.w) X.A (exec st X.env) (SP X pins D) X.xe s
def PSs (X:Cx) (st:List Stmt) (t:TS):Prop:=
 ∀ (pins:List (Addr × Obj)) (s:Shared) (σ:St) (H:Hp) (D:fP),Inv X pins σ H s->t D σ H->wpAny (model X.prog X.w) X.A (execs st X.env) (SP X pins D) X.xe s
theorem thn {α:Type} {t:Sem α} {Q Q':α->Shared->Prop} {M:Model} {A:Around} {E:Value->Shared->Prop} {s:Shared} (h:wpAny M A t Q E s) (hQ:∀ a s,Q a s->Q' a s):wpAny M A t Q' E s:=wpAny_mono h hQ λ_ _ x=>x
section
variable {X:Cx}
theorem bin {a b:Expr} {ta tb:TE} (ha:PE X a ta) (hb:PE X b tb) {pins:List (Addr × Obj)} {s:Shared} {σ:St} {H:Hp} {R:V->V->Hp->Prop} (I:Inv X pins σ H s) (h:ta σ H λx H1=>tb σ H1 λy H2=>R x y H2)
  {α:Type} {Q:α->Shared->Prop} {f:Value->Value->Sem α}
  (hf:∀ v u s2 x y H2,Inv X pins σ H2 s2->k9 x v->k9 y u->R x y H2->wpAny (model X.prog X.w) X.A (f v u) Q X.xe s2) :
  wpAny (model X.prog X.w) X.A (eval a X.env) (λv s₁=>wpAny (model X.prog X.w) X.A (eval b X.env) (λu s₂=>wpAny (model X.prog X.w) X.A (f v u) Q X.xe s₂) X.xe s₁) X.xe s:=by
 refine thn (ha pins s σ H _ I h) λv s1 ⟨x,H1,I1,r1,q1⟩=>?_
 refine thn (hb pins s1 σ H1 _ I1 q1) λu s2 ⟨y,H2,I2,r2,q2⟩=>?_
 exact hf v u s2 x y H2 I2 r1 r2 q2
def tVar (i:Nat):TE:=λσ H Q=>∃ v,σ[i]? = some (some v)/\Q v H
def tC (v:V):TE:=λ_ H Q=>Q v H
theorem pe_var {i:Nat} {x:Str} {pos:Pos} (hN:X.N[i]? = some x) (hv:Vis X.env.scope x) (hd:(x == ("__debug__" : Str))=false:=by decide) (hcd:(x == ("__classdict__" : Str))=false:=by decide):PE X (.Name x pos) (tVar i):=by
 intro pins s σ H Q I h
 obtain ⟨v,e,h⟩:=h
 obtain ⟨m,hn,hl⟩:=I.loc
 obtain ⟨u,r,l⟩:=hl i x v hN e hv
 have fin:EP X pins σ Q u s:=⟨v,H,I,r,h⟩
 rcases l with ⟨hk,hm⟩ | ⟨hk,c,hc,hcell⟩
 ·exact wpAny_Name (wpAny_loadName_local I.ok.kind hk hn hm fin) hd
 ·rcases hk with hk | hk
  ·exact wpAny_Name (wpAny_loadName_cell I.ok.kind hk hc hcell fin) hd
  ·exact wpAny_Name (wpAny_loadName_free I.ok.kind hk hc hcell fin hcd) hd
theorem ac {i j pos}:PE X (.Constant (.int i) j pos) (tC (.int i)):=λ_ _ _ H _ I h=>wpAny_Constant_int ⟨.int i,H,I.tok _,⟨_,rfl⟩,h⟩
theorem cW {b j pos}:PE X (.Constant (.bool b) j pos) (tC (.bl b)):=λ_ _ _ H _ I h=>Constant_bool ⟨.bl b,H,I,rfl,h⟩
theorem pe_non {j pos}:PE X (.Constant .none j pos) (tC .non):=λ_ _ _ H _ I h=>Constant_none ⟨.non,H,I,rfl,h⟩
theorem aE {x j pos}:PE X (.Constant (.str x) j pos) (tC (.str x)):=λ_ _ _ H _ I h=>Calls.Constant_str ⟨.str x,H,I.tok _,⟨_,rfl⟩,h⟩
def Gl (X:Cx) (x:Str):Prop:=X.env.kindOf x=some .globalImplicit
theorem f6 {E:Value->Shared->Prop} {pins:List (Addr × Obj)} {s:Shared} {σ:St} {H:Hp} {x:Str} {u:Value} {pos:Pos} {Q:Value->Shared->Prop} (I:Inv X pins σ H s) (hg:Gl X x) (hm:X.mg x=some u) (h:Q u s)
  (hd:(x == ("__debug__" : Str))=false:=by decide):wpAny (model X.prog X.w) X.A (eval (.Name x pos) X.env) Q E s:=
 Calls.Name_function_global I.ok.kind hg (Calls.loadGlobal_global (by rw [I.ok.glob]; exact I.mod.glob.keeps I.bk) hm h) hd
theorem eR {E:Value->Shared->Prop} {pins:List (Addr × Obj)} {s:Shared} {σ:St} {H:Hp} {x:Str} {u:Value} {pos:Pos} {Q:Value->Shared->Prop} (I:Inv X pins σ H s) (hg:Gl X x) (hm:X.mg x=none) (hv:bootBuiltins x=some u) (h:Q u s)
  (hn:x ≠ "__name__":=by decide) (hd:(x == ("__debug__" : Str))=false:=by decide):wpAny (model X.prog X.w) X.A (eval (.Name x pos) X.env) Q E s:=by
 obtain ⟨mb,h1,h2⟩:=I.mod.blt
 exact Calls.Name_function_global I.ok.kind hg (Calls.loadGlobal_builtin (by rw [I.ok.glob]; exact I.mod.glob.keeps I.bk) hm (by rw [I.ok.blt]; exact h1.keeps I.bk) ((h2 x hn).trans hv) h) hd
theorem cQ {x:Str} {v:V} {u:Value} {pos:Pos} (hg:Gl X x) (hm:X.mg x=some u) (r:k9 v u) (hd:(x == ("__debug__" : Str))=false:=by decide):PE X (.Name x pos) (tC v):=
 λ_ _ _ H _ I h=>f6 I hg hm ⟨v,H,I,r,h⟩ hd
theorem pe_bltn {x:Str} {v:V} {u:Value} {pos:Pos} (hg:Gl X x) (hm:X.mg x=none) (hv:bootBuiltins x=some u) (r:k9 v u) (hn:x ≠ "__name__":=by decide) (hd:(x == ("__debug__" : Str))=false:=by decide):PE X (.Name x pos) (tC v):=
 λ_ _ _ H _ I h=>eR I hg hm hv ⟨v,H,I,r,h⟩ hn hd
variable {a b:Expr} {ta tb:TE} {pos:Pos}
def PC (X:Cx) (op:CmpOp) (a b:Expr) (t:TE):Prop:=
 ∀ (pins:List (Addr × Obj)) (s:Shared) (σ:St) (H:Hp) (Q:VK),Inv X pins σ H s->t σ H Q->
  wpAny (model X.prog X.w) X.A (eval a X.env) (λv s₁=>wpAny (model X.prog X.w) X.A (eval b X.env) (λu s₂=>wpAny (model X.prog X.w) X.A (compareOp op v u) (EP X pins σ Q) X.xe s₂) X.xe s₁) X.xe s
def tB (t:TE):TT:=λσ H Q=>t σ H λx H1=>∃ c,x=.bl c/\Q c H1
theorem pt_cmp {op:CmpOp} {t:TE} (h:PC X op a b t) (h1:behindInMarks op b=false:=by first | exact nobehind _ (by decide) (by decide) | rfl):PT X (.Compare a [op] [b] pos) (tB t):=by
 intro pins s σ H Q I hw
 refine wpAny_isTrue_Compare1 (thn (h pins s σ H _ I hw) λv s1 h1=>thn h1 λu s2 h2=>thn h2 λc s3 ⟨x,H1,I1,r1,q1⟩=>?_) h1
 obtain ⟨d,rfl,q⟩:=q1
 cases r1
 exact wpAny_truthy_bool ⟨H1,I1,q⟩
theorem bd {e:Expr} {t:TE} (h:PE X e t) (he:∀ whole,isTrue e X.env whole=(do let v <- whole; standAt e.pos; holding [v] (truthy v)):=by intro _; rfl):PT X e (tB t):=by
 intro pins s σ H Q I hw
 refine isTrue_plain (thn (h pins s σ H _ I hw) λv s1 ⟨x,H1,I1,r1,q1⟩=>?_) (he _)
 obtain ⟨d,rfl,q⟩:=q1
 cases r1
 exact wpAny_truthy_bool ⟨H1,I1,q⟩
variable {tA tB':TT} {rest:List Expr}
def tAnd (t u:TT):TT:=λσ H Q=>t σ H λc H1=>if c=true then u σ H1 Q else Q false H1
def tOr (t u:TT):TT:=λσ H Q=>t σ H λc H1=>if c=true then Q true H1 else u σ H1 Q
def tNot (t:TT):TT:=λσ H Q=>t σ H λc H1=>Q (!c) H1
theorem pw_and1 (ha:PT X a tA):PW X (.BoolOp .And [a] pos) tA:=by
 intro wh pins s σ H Q I h
 refine isTrue_and (thn (ha pins s σ H Q I h) λc s1 e=>?_)
 cases c with
 | true=>exact isTrue_and_nil e
 | false=>exact e
theorem dW (ha:PT X a tA):PW X (.BoolOp .Or [a] pos) tA:=by
 intro wh pins s σ H Q I h
 refine isTrue_or (thn (ha pins s σ H Q I h) λc s1 e=>?_)
 cases c with
 | false=>exact isTrue_or_nil e
 | true=>exact e
theorem pw_and (ha:PT X a tA) (hb:PW X (.BoolOp .And (b::rest) pos) tB'):PW X (.BoolOp .And (a::b::rest) pos) (tAnd tA tB'):=by
 intro wh pins s σ H Q I h
 refine isTrue_and (thn (ha pins s σ H _ I h) λc s1 ⟨H1,I1,q1⟩=>?_)
 cases c with
 | true=>exact hb wh pins s1 σ H1 Q I1 q1
 | false=>exact ⟨H1,I1,q1⟩
theorem dw (ha:PT X a tA) (hb:PW X (.BoolOp .Or (b::rest) pos) tB'):PW X (.BoolOp .Or (a::b::rest) pos) (tOr tA tB'):=by
 intro wh pins s σ H Q I h
 refine isTrue_or (thn (ha pins s σ H _ I h) λc s1 ⟨H1,I1,q1⟩=>?_)
 cases c with
 | true=>exact ⟨H1,I1,q1⟩
 | false=>exact hb wh pins s1 σ H1 Q I1 q1
theorem bK (ha:PT X a tA):PT X (.UnaryOp .Not a pos) (tNot tA):=by
 intro pins s σ H Q I h
 exact isTrue_not (ha pins s σ H (λc H1=>Q (!c) H1) I h)
def tAndV (ta tb:TE):TE:=λσ H Q=>ta σ H λx H1=>∃ c,x=.bl c/\if c=true then tb σ H1 Q else Q (.bl false) H1
def tNotV (ta:TE):TE:=λσ H Q=>ta σ H λx H1=>∃ c,x=.bl c/\Q (.bl (!c)) H1
theorem fI {op} {t:TE} (h:PE X a t):PE X (.BoolOp op [a] pos) t:=λpins s σ H Q I hw=>BoolOp_one (h pins s σ H Q I hw)
theorem fF (ha:PE X a ta) (hb:PE X (.BoolOp .And (b::rest) pos) tb):PE X (.BoolOp .And (a::b::rest) pos) (tAndV ta tb):=by
 intro pins s σ H Q I h
 refine BoolOp_and (thn (ha pins s σ H _ I h) λv s1 ⟨x,H1,I1,r1,q1⟩=>?_)
 obtain ⟨c,rfl,q1⟩:=q1
 cases r1
 refine wpAny_truthy_bool ?_
 cases c with
 | true=>exact hb pins s1 σ H1 Q I1 q1
 | false=>exact ⟨.bl false,H1,I1,rfl,q1⟩
theorem pe_not (ha:PE X a ta):PE X (.UnaryOp .Not a pos) (tNotV ta):=by
 intro pins s σ H Q I h
 refine UnaryOp_ (thn (ha pins s σ H _ I h) λv s1 ⟨x,H1,I1,r1,q1⟩=>?_)
 obtain ⟨c,rfl,q1⟩:=q1
 cases r1
 exact not_of (wpAny_truthy_bool ⟨.bl (!c),H1,I1,rfl,q1⟩)
def tIf (t:TT) (ta tb:TE):TE:=λσ H Q=>t σ H λc H1=>if c=true then ta σ H1 Q else tb σ H1 Q
theorem bw {c:Expr} (hc:PT X c tA) (ha:PE X a ta) (hb:PE X b tb):PE X (.IfExp c a b pos) (tIf tA ta tb):=by
 intro pins s σ H Q I h
 refine wpAny_IfExp (thn (hc pins s σ H _ I h) λd s1 ⟨H1,I1,q1⟩=>?_)
 cases d with
 | true=>exact ha pins s1 σ H1 Q I1 q1
 | false=>exact hb pins s1 σ H1 Q I1 q1
end
def SqL (K:Frag) (H:Hp) (a:Addr) (xs:List V):Prop:=
 Rd H a (.lst xs) \/
  ∃ (o:Obj) (its:Array Value) (n:Nat),K.lookup a=some o/\o.cls=.type "list"/\o.dict=none/\o.data=.seq its n/\its.size<=sizeLine/\kY xs its.toList
def SqT (K:Frag) (H:Hp) (a:Addr) (xs:List V):Prop:=
 Rd H a (.tup xs) \/
  ∃ (o:Obj) (its:Array Value) (n:Nat),K.lookup a=some o/\o.cls=.type "tuple"/\o.data=.seq its n/\its.size<=sizeLine/\kY xs its.toList
def absV:Value->Option V
 | .none=>some .non
 | .bool b=>some (.bl b)
 | .int i _=>some (.int i)
 | .str x _=>some (.str x)
 | .bytes b _=>some (.byt b)
 | .float b _=>some (.flt b)
 | .ref a=>some (.ref a)
 | .type n=>some (.ty n)
 | _=>none
theorem k9.abs {x:V} {u:Value} (r:k9 x u):absV u=some x:=by
 cases x with
 | non=>cases r; rfl
 | bl _=>cases r; rfl
 | int _=>obtain ⟨t,rfl⟩:=r; rfl
 | str _=>obtain ⟨t,rfl⟩:=r; rfl
 | byt _=>obtain ⟨t,rfl⟩:=r; rfl
 | flt _=>obtain ⟨t,rfl⟩:=r; rfl
 | ref _=>cases r; rfl
 | ty _=>cases r; rfl
theorem k9.inj {x y:V} {u:Value} (r:k9 x u) (q:k9 y u):x=y:=Option.some.inj (r.abs.symm.trans q.abs)
theorem kY.inj:∀ {xs ys:List V} {us:List Value},kY xs us->kY ys us->xs=ys
 | _,_,_,.nil,.nil=>rfl
 | _,_,_,.cons r t,.cons r' t'=>by rw [r.inj r',kY.inj t t']
section
variable {X:Cx} {pins:List (Addr × Obj)} {σ:St} {H:Hp} {s:Shared} {a:Addr} {xs ys:List V}
theorem SqL.of {K:Frag} (h:H a=some (.lst xs)):SqL K H a xs:=.inl (.inl h)
theorem SqT.of {K:Frag} (h:H a=some (.tup xs)):SqT K H a xs:=.inl (.inl h)
theorem Inv.list (I:Inv X pins σ H s) (h:SqL X.K H a xs):∃ its:List Value,kY xs its/\PlainL s.heap a its.toArray/\xs.length<=sizeLine:=by
 rcases h with h | ⟨o,its,n,hk,hc,hd,hs,hz,r⟩
 ·obtain ⟨z,its,n,r,e⟩:=h.ok I.hok
  exact ⟨its,r,⟨_,n,e,rfl,rfl,rfl⟩,z⟩
 ·refine ⟨its.toList,r,⟨o,n,I.kIn a o hk,hc,hd,by simpa using hs⟩,?_⟩
  have e:=r.length
  simp only [Array.length_toList] at e
  omega
theorem Inv.tuple (I:Inv X pins σ H s) (h:SqT X.K H a xs):∃ its:List Value,kY xs its/\IsTup s.heap a its.toArray/\xs.length<=sizeLine:=by
 rcases h with h | ⟨o,its,n,hk,hc,hs,hz,r⟩
 ·obtain ⟨z,its,r,p⟩:=h.ok I.hok
  exact ⟨its,r,p,z⟩
 ·refine ⟨its.toList,r,⟨o,I.kIn a o hk,hc,n,by simpa using hs⟩,?_⟩
  have e:=r.length
  simp only [Array.length_toList] at e
  omega
theorem Inv.list_inj (I:Inv X pins σ H s) (h:SqL X.K H a xs) (h':SqL X.K H a ys):xs=ys:=by
 obtain ⟨its,r,⟨o,n,e,_,_,d⟩,_⟩:=I.list h
 obtain ⟨its',r',⟨o',n',e',_,_,d'⟩,_⟩:=I.list h'
 rw [e] at e'; cases e'
 rw [d] at d'
 injection d' with d1 _
 have:its=its':=by simpa using congrArg Array.toList d1
 subst this
 exact r.inj r'
theorem Inv.tuple_inj (I:Inv X pins σ H s) (h:SqT X.K H a xs) (h':SqT X.K H a ys):xs=ys:=by
 obtain ⟨its,r,⟨o,e,_,n,d⟩,_⟩:=I.tuple h
 obtain ⟨its',r',⟨o',e',_,n',d'⟩,_⟩:=I.tuple h'
 rw [e] at e'; cases e'
 rw [d] at d'
 injection d' with d1 _
 have:its=its':=by simpa using congrArg Array.toList d1
 subst this
 exact r.inj r'
end
abbrev Cx.wish (X:Cx) (E:Value->Shared->Prop):Cx:={ X with xe:=E }
abbrev Cx.nox (X:Cx):Cx:=X.wish λ_ _=>False
theorem Cx.Ok.wish {X:Cx} (ok:X.Ok) (E:Value->Shared->Prop):(X.wish E).Ok:=
 ⟨ok.mod,ok.kind,ok.glob,ok.blt,ok.above,ok.inj,ok.has,ok.cab,ok.hd,ok.frames,ok.stk,ok.exf,ok.bs,ok.bsz,ok.noex,ok.exfs,ok.funs,ok.frf⟩
theorem Cx.Ok.unwish {X:Cx} {E:Value->Shared->Prop} (ok:(X.wish E).Ok):X.Ok:=
 ⟨ok.mod,ok.kind,ok.glob,ok.blt,ok.above,ok.inj,ok.has,ok.cab,ok.hd,ok.frames,ok.stk,ok.exf,ok.bs,ok.bsz,ok.noex,ok.exfs,ok.funs,ok.frf⟩
section
variable {X:Cx} {pins:List (Addr × Obj)} {σ:St} {H:Hp} {s:Shared} {E:Value->Shared->Prop}
theorem Inv.wish (I:Inv X pins σ H s) (E:Value->Shared->Prop):Inv (X.wish E) pins σ H s:=⟨I.ok.wish E,I.os,I.bare,I.base,I.loc,I.cell,I.free,I.freeC,I.pin,I.hok,I.len⟩
theorem Inv.unwish (I:Inv (X.wish E) pins σ H s):Inv X pins σ H s:=⟨I.ok.unwish,I.os,I.bare,I.base,I.loc,I.cell,I.free,I.freeC,I.pin,I.hok,I.len⟩
theorem SP.unwish {D:fP} {f:Flow} {s':Shared} (h:SP (X.wish E) pins D f s'):SP X pins D f s':=by
 cases f with
 | next=>obtain ⟨σ',H',I,q⟩:=h; exact ⟨σ',H',I.unwish,q⟩
 | brk=>obtain ⟨σ',H',I,q⟩:=h; exact ⟨σ',H',I.unwish,q⟩
 | cont=>obtain ⟨σ',H',I,q⟩:=h; exact ⟨σ',H',I.unwish,q⟩
 | ret u=>obtain ⟨v,σ',H',I,r,q⟩:=h; exact ⟨v,σ',H',I.unwish,r,q⟩
theorem PSs.nox {st:List Stmt} {t:TS} (h:PSs X.nox st t):PSs X st t:=λpins s σ H D I hw=>
 wpAny_mono (h pins s σ H D (I.wish _) hw) (λ_ _ q=>q.unwish) λ_ _ z=>False.elim z
end
section
variable {X:Cx} {st:Stmt} {rest:List Stmt} {t u:TS} {e:Expr} {te:TE} {pos:Pos}
def tNext:TS:=λD σ H=>D.nx σ H
def tSeq (t u:TS):TS:=λD σ H=>t { D with nx:=u D } σ H
theorem aw:PSs X [] tNext:=λ_ _ σ H _ I h=>wpAny_execs_nil ⟨σ,H,I,h⟩
theorem ae (h1:PS X st t) (h2:PSs X rest u):PSs X (st::rest) (tSeq t u):=by
 intro pins s σ H D I h
 refine wpAny_execs_cons (thn (h1 pins s σ H { D with nx:=u D } I h) λf s1 q=>?_)
 cases f with
 | next=>
  obtain ⟨σ',H',I',q⟩:=q
  exact h2 pins s1 σ' H' D I' q
 | ret v=>exact q
 | brk=>exact q
 | cont=>exact q
theorem ah (h1:PS X st t):PSs X [st] t:=by
 intro pins s σ H D I h
 refine wpAny_execs_cons (thn (h1 pins s σ H D I h) λf s1 q=>?_)
 cases f with
 | next=>exact wpAny_execs_nil q
 | ret v=>exact q
 | brk=>exact q
 | cont=>exact q
theorem Inv.quiet {pins:List (Addr × Obj)} {σ:St} {H:Hp} {s:Shared} (I:Inv X pins σ H s):interactive X.env=false:=by simp [interactive,I.ok.kind]
def tDrop (te:TE):TS:=λD σ H=>te σ H λ_ H1=>D.nx σ H1
theorem bR (he:PE X e te) (hs:swapsWith e none pos.line X.env=pure false:=by rfl):PS X (.Expr e pos) (tDrop te):=by
 intro pins s σ H D I h
 exact wpAny_Expr_any (thn (he pins s σ H _ I h) λv s1 ⟨x,H1,I1,r1,q1⟩=>⟨σ,H1,I1,q1⟩) I.quiet hs
def tRet (te:TE):TS:=λD σ H=>te σ H D.rt
theorem al (he:PE X e te):PS X (.Return (some e) pos) (tRet te):=by
 intro pins s σ H D I h
 exact wpAny_Return_some (thn (he pins s σ H _ I h) λv s1 ⟨x,H1,I1,r1,q1⟩=>⟨x,σ,H1,I1,r1,q1⟩)
def tIfS (c:TT) (t u:TS):TS:=λD σ H=>c σ H λb H1=>if b=true then t D σ H1 else u D σ H1
theorem aG {c:Expr} {a b:List Stmt} {tc:TT} (hc:PT X c tc) (ha:PSs X a t) (hb:PSs X b u):PS X (.If c a b pos) (tIfS tc t u):=by
 intro pins s σ H D I h
 refine wpAny_If (thn (hc pins s σ H _ I h) λd s1 ⟨H1,I1,q1⟩=>?_)
 cases d with
 | true=>exact ha pins s1 σ H1 D I1 q1
 | false=>exact hb pins s1 σ H1 D I1 q1
def tNever:TS:=λ_ _ _=>False
theorem cB:PS X st tNever:=λ_ _ _ _ _ _ h=>h.elim
end
abbrev TG:=V->St->Hp->(St->Hp->Prop)->Prop
abbrev TGs:=List V->St->Hp->(St->Hp->Prop)->Prop
def PG (X:Cx) (target:Expr) (t:TG):Prop:=
 ∀ (pins:List (Addr × Obj)) (s:Shared) (σ:St) (H:Hp) (v:V) (u:Value) (Q:St->Hp->Prop),Inv X pins σ H s->k9 v u->t v σ H Q->
  wpAny (model X.prog X.w) X.A (assign target X.env u) (λ_ s'=>∃ σ' H',Inv X pins σ' H' s'/\Q σ' H') X.xe s
def PGs (X:Cx) (ts:List Expr) (t:TGs):Prop:=
 ∀ (pins:List (Addr × Obj)) (s:Shared) (σ:St) (H:Hp) (vs:List V) (us:List Value) (Q:St->Hp->Prop),Inv X pins σ H s->kY vs us->t vs σ H Q->
  wpAny (model X.prog X.w) X.A (assignInOrder ((assignEach ts X.env).map (·.2)) us) (λ_ s'=>∃ σ' H',Inv X pins σ' H' s'/\Q σ' H') X.xe s
abbrev TSet:=V->V->V->Hp->(Hp->Prop)->Prop
def PSet (X:Cx) (t:TSet):Prop:=
 ∀ (pins:List (Addr × Obj)) (s:Shared) (σ:St) (H:Hp) (o i v:V) (ov iv u:Value) (Q:Hp->Prop),Inv X pins σ H s->k9 o ov->k9 i iv->k9 v u->t o i v H Q->
  wpAny (model X.prog X.w) X.A (setItem ov iv u) (λ_ s'=>∃ H',Inv X pins σ H' s'/\Q H') X.xe s
section
variable {X:Cx} {pos:Pos}
def dm (i:Nat):TG:=λv σ H Q=>Q (σ.set i (some v)) H
theorem bY {i:Nat} {x:Str} (hN:X.N.Nodup) (hi:X.N[i]? = some x) (hx:Loc X.env.scope x) (hf:X.fn x=true\/X.env.scope.names.lookup x=some .local:=by first | exact .inl rfl | exact .inr rfl | assumption):PG X (.Name x pos) (dm i):=by
 intro pins s σ H v u Q I r h
 exact wpAny_assign_Name (fW I hN hi hx r (λs' I'=>⟨_,H,I',h⟩) hf)
def gNil:TGs:=λvs σ H Q=>vs=[]/\Q σ H
def gCons (t:TG) (u:TGs):TGs:=λvs σ H Q=>∃ v r,vs=v::r/\t v σ H λσ' H'=>u r σ' H' Q
theorem pgs_nil:PGs X [] gNil:=by
 intro pins s σ H vs us Q I r h
 obtain ⟨e,h⟩:=h
 subst e
 cases r
 exact assignInOrder_nil ⟨σ,H,I,h⟩
theorem pgs_cons {e:Expr} {es:List Expr} {t:TG} {u:TGs} (h1:PG X e t) (h2:PGs X es u)
  (hs:(assignEach (e::es) X.env).map (·.2)=assign e X.env::(assignEach es X.env).map (·.2):=by rfl):PGs X (e::es) (gCons t u):=by
 intro pins s σ H vs us Q I r h
 obtain ⟨v,vr,e1,h⟩:=h
 subst e1
 cases r with
 | cons r rr=>
  rw [hs]
  refine assignInOrder_cons (thn (h1 pins s σ H _ _ _ I r h) λ_ s1 ⟨σ1,H1,I1,q1⟩=>?_)
  exact h2 pins s1 σ1 H1 _ _ Q I1 rr q1
def gTup (K:Frag) (n:Nat) (t:TGs):TG:=λv σ H Q=>∃ a xs,v=.ref a/\SqT K H a xs/\xs.length=n/\t xs σ H Q
theorem pg_tup {es:List Expr} {k:Nat} {t:TGs} {n:Nat} (hc:X.calm=true) (h:PGs X es t)
  (hn:(assignEach es X.env).length=n:=by rfl) (hst:(assignEach es X.env).findIdx? (·.1)=none:=by rfl):PG X (.Tuple es k pos) (gTup X.K n t):=by
 intro pins s σ H v u Q I r hw
 obtain ⟨a,xs,e1,hq,hl,hw⟩:=hw
 subst e1
 cases r
 obtain ⟨its,rv,ht,hz⟩:=I.tuple hq
 refine assign_Tuple_tuple (I.ok.hd hc) ht (by simp [hn,<- hl,rv.length]) hst λh' hx=>?_
 have I1:Inv X pins σ H { s with heap:=h' }:=I.kept (t':=s.toks) λb o e=>hx b o (Nat.ne_of_lt (lt_size e)) e
 exact h pins _ σ H xs _ Q I1 (by simpa using rv) hw
def gSub (to ti:TE) (t:TSet):TG:=λv σ H Q=>to σ H λo H1=>ti σ H1 λi H2=>t o i v H2 λH3=>Q σ H3
theorem ku {o i:Expr} {to ti:TE} {t:TSet} (ho:PE X o to) (hi:PE X i ti) (hs:PSet X t)
  (ha:∀ v,assign (.Subscript o i pos) X.env v=(do
   let ov <- holding [v] (eval o X.env)
   let iv <- holding [v,ov] (eval i X.env)
   standAt pos
   holding [v,ov,iv] (setItem ov iv v)
   release [v,ov,iv] []):=by intro _; rfl):PG X (.Subscript o i pos) (gSub to ti t):=by
 intro pins s σ H v u Q I r h
 rw [ha]
 refine wpAny_bind (wpAny_holding (thn (ho pins s σ H _ I h) λov s1 ⟨x,H1,I1,r1,q1⟩=>?_))
 refine wpAny_bind (wpAny_holding (thn (hi pins s1 σ H1 _ I1 q1) λiv s2 ⟨y,H2,I2,r2,q2⟩=>?_))
 refine wpAny_bind (wpAny_standAt (wpAny_bind (wpAny_holding (thn (hs pins s2 σ H2 x y v ov iv u _ I2 r1 r2 r q2) λ_ s3 ⟨H3,I3,q3⟩=>?_))))
 exact wpAny_release ⟨σ,H3,I3,q3⟩
def tAsg (te:TE) (g:TG):TS:=λD σ H=>te σ H λx H1=>g x σ H1 D.nx
theorem kg {tg e:Expr} {te:TE} {g:TG} (he:PE X e te) (hg:PG X tg g) (hs:swapsWithSole [tg] e pos.line X.env=pure false:=by rfl) (hw:swappedStores [tg] e X.env=pure none:=by rfl)
  (h1:(assignEach [tg] X.env).map (·.2)=[assign tg X.env]:=by rfl):PS X (.Assign [tg] e pos) (tAsg te g):=by
 intro pins s σ H D I h
 refine wpAny_Assign_stores (thn (he pins s σ H _ I h) λv s1 ⟨x,H1,I1,r1,q1⟩=>?_) hs hw
 rw [h1]
 exact thn (hg pins s1 σ H1 x v _ I1 r1 q1) λ_ s2 q=>q
theorem ak {i:Nat} {x:Str} {e:Expr} {te:TE} {pos':Pos} (hN:X.N.Nodup) (hi:X.N[i]? = some x) (hx:Loc X.env.scope x) (he:PE X e te) (hs:swapsWith e (some (.Name x pos')) pos.line X.env=pure false:=by rfl) (hf:X.fn x=true\/X.env.scope.names.lookup x=some .local:=by first | exact .inl rfl | exact .inr rfl | assumption) :
  PS X (.Assign [.Name x pos'] e pos) (tAsg te (dm i)):=by
 intro pins s σ H D I h
 refine wpAny_Assign_Name (thn (he pins s σ H _ I h) λv s1 ⟨y,H1,I1,r1,q1⟩=>?_) hs
 exact fW I1 hN hi hx r1 (λs2 I2=>⟨_,H1,I2,q1⟩) hf
def tPar (i j:Nat) (ta:TA):TS:=λD σ H=>ta σ H λvs H1=>∃ v w,vs=[v,w]/\D.nx ((σ.set i (some v)).set j (some w)) H1
theorem ps_par {i j:Nat} {x y:Str} {a b:Expr} {ta:TA} {px py pt:Pos} {kt k2 pt2} (hc:X.calm=true) (hN:X.N.Nodup) (hi:X.N[i]? = some x) (hj:X.N[j]? = some y) (hij:i ≠ j)
  (hx:X.env.scope.names.lookup x=some .local) (hy:X.env.scope.names.lookup y=some .local) (ha:PA X [a,b] ta)
  (hw:swappedStores [.Tuple [.Name x px,.Name y py] kt pt] (.Tuple [a,b] k2 pt2) X.env=pure (some [x,y]))
  (hs:swapsWithSole [.Tuple [.Name x px,.Name y py] kt pt] (.Tuple [a,b] k2 pt2) pos.line X.env=pure false:=by rfl) :
  PS X (.Assign [.Tuple [.Name x px,.Name y py] kt pt] (.Tuple [a,b] k2 pt2) pos) (tPar i j ta):=by
 intro pins s σ H D I h
 rw [exec_Assign_arm]
 refine wpAny_bind (wpAny_standAt ?_)
 rw [hs]
 refine wpAny_bind (wpAny_pure ?_)
 rw [if_neg (by decide)]
 refine wpAny_bind (Tuple_ (thn (ha _ pins s σ H _ I h) λus s1 ⟨vs,H1,I1,r1,q1⟩=>?_))
 obtain ⟨v,w,e1,q1⟩:=q1
 subst e1
 obtain ⟨u1,u2,rfl,rv,rw'⟩:∃ u1 u2,us=[u1,u2]/\k9 v u1/\k9 w u2:=by
  cases r1 with
  | cons p q=>
   cases q with
   | cons p' q'=>
    cases q'
    exact ⟨_,_,rfl,p,p'⟩
 refine wpAny_newObj_type ?_ (by show 2<=sizeLine; decide)
 have I2:Inv X pins σ H1 { s1 with heap:=s1.heap.push { cls:=.type "tuple",data:=.seq [u1,u2].toArray } }:=I1.kept (t':=s1.toks) λb o e=>get?_push_of_some _ e
 rw [hw]
 refine wpAny_bind (wpAny_pure ?_)
 show wpAny (model X.prog X.w) X.A (do rule "assign.swapped-stores"; let items <- unpackItems (.ref s1.heap.objs.size) 2 none; assignInOrder [λv=>bindName X.env y v,λv=>bindName X.env x v] items.reverse; pure Flow.next) _ _ _
 refine wpAny_bind (wpAny_rule (wpAny_bind (unpackItems_tuple (items:=#[u1,u2]) (I.ok.hd hc) (IsTup.new s1.heap _) λh' hx'=>?_)))
 have I3:=I2.kept (h':=h') (t':=s1.toks) λb o e=>hx' b o (Nat.ne_of_lt (lt_size e)) e
 show wpAny _ _ (assignInOrder [λv=>bindName X.env y v,λv=>bindName X.env x v] [u2,u1] >>= λ_=>pure Flow.next) _ _ _
 refine wpAny_bind (assignInOrder_cons (wpAny_bindName (fW I3 hN hj (.inl hy) rw' (λs2 I4=>?_) (.inr hy))))
 refine assignInOrder_cons (wpAny_bindName (fW I4 hN hi (.inl hx) rv (λs3 I5=>assignInOrder_nil (wpAny_pure ?_)) (.inr hx)))
 rw [List.set_comm _ _ (Ne.symm hij)] at I5
 exact ⟨_,H1,I5,q1⟩
end
section
variable {X:Cx} {pos:Pos}
def tWhile (c:TT) (tb:TS):TS:=λD σ H=>∃ W:Nat->St->Hp->Prop,(∃ m,W m σ H)/\∀ m σ H,W m σ H->
 c σ H λb H1=>if b=true then ∃ N:St->Hp->Prop,(∀ σ' H',N σ' H'->∃ m',m' < m/\W m' σ' H')/\tb { D with nx:=N,ct:=N,bk:=D.nx } σ H1 else D.nx σ H1
theorem eU {c:Expr} {body:List Stmt} {tc:TT} {tb:TS} (hp:PassesOwn (model X.prog X.w) X.A X.env X.xe) (hc:PT X c tc) (hb:PSs X body tb):PS X (.While c body [] pos) (tWhile tc tb):=by
 intro pins s σ H D I h
 obtain ⟨W,⟨m0,w0⟩,turn⟩:=h
 refine wpAny_While (codeAny_whileLoop (λn s'=>∃ σ' H',Inv X pins σ' H' s'/\W n σ' H') ?_ m0 ⟨σ,H,I,w0⟩)
 rintro n s1 ⟨σ1,H1,I1,w1⟩
 refine wpAny_passesOwn hp (thn (hc pins s1 σ1 H1 _ I1 (turn n σ1 H1 w1)) λb s2 ⟨H2,I2,q2⟩=>?_)
 cases b with
 | true=>
  obtain ⟨N,hN,q2⟩:=q2
  rw [if_pos rfl]
  refine wpAny_passesOwn hp (thn (hb pins s2 σ1 H2 _ I2 q2) λf s3 q3=>?_)
  cases f with
  | next=>
   obtain ⟨σ3,H3,I3,n3⟩:=q3
   obtain ⟨m',hm,w3⟩:=hN σ3 H3 n3
   exact ⟨m',hm,σ3,H3,I3,w3⟩
  | cont=>
   obtain ⟨σ3,H3,I3,n3⟩:=q3
   obtain ⟨m',hm,w3⟩:=hN σ3 H3 n3
   exact ⟨m',hm,σ3,H3,I3,w3⟩
  | brk=>exact q3
  | ret v=>exact q3
 | false=>
  rw [if_neg Bool.false_ne_true]
  exact wpAny_execs_nil ⟨σ1,H2,I2,q2⟩
end
structure It where
 go:Nat->Hp->Prop
 yld:Nat->Hp->V->Hp->Prop
 stop:Nat->Hp->Prop
def fN (X:Cx) (pins:List (Addr × Obj)) (H:Hp) (b:Addr):Prop:=
 H b=none/\b ≠ X.env.locals/\b ∉ X.fs/\(b ∈ X.ex\/X.s₀.heap.objs.size<=b)/\(∀ x c,X.env.cells.lookup x=some c->c ≠ b)/\∀ p ∈ X.pn++pins,p.1 ≠ b
theorem Inv.fpOk {X:Cx} {pins:List (Addr × Obj)} {σ:St} {H H':Hp} {s:Shared} {b:Addr} (I:Inv X pins σ H s) (hb:s.heap.objs.size<=b) (hn:H' b=none):fN X pins H' b:=by
 refine ⟨hn,Nat.ne_of_gt (Nat.lt_of_lt_of_le I.lt hb),I.nofs hb,.inr (Nat.le_trans I.sz hb),λx c e z=>?_,λp hp z=>?_⟩
 ·obtain ⟨v,q⟩:=I.cell x c e
  exact absurd (Nat.lt_of_lt_of_le q.lt (by rw [z]; exact hb)) (Nat.lt_irrefl _)
 ·exact absurd (Nat.lt_of_lt_of_le (lt_size (I.pin p hp).1) (by rw [z]; exact hb)) (Nat.lt_irrefl _)
structure kz (P:Program) (w:World) (K:Frag) (tg:Expr) (J:It) (fp:List Addr) (it:Addr) (tn:Nat->Heap->Prop):Prop where
 mem:it ∈ fp
 obj:∀ i h,tn i h->∀ b ∈ fp,∃ o,h.get? b=some o/\∀ v,o.data ≠ .cell v
 keep:∀ i h h',tn i h->(∀ b ∈ fp,∀ o,h.get? b=some o->h'.get? b=some o)->tn i h'
 item:∀ (X:Cx),X.prog=P->X.w=w->X.K=K->X.calm=true->∀ (i:Nat) (pins:List (Addr × Obj)) (s:Shared) (σ:St) (H:Hp) (E:Value->Shared->Prop),Inv X pins σ H s->(∀ b ∈ fp,fN X pins H b)->tn i s.heap->J.go i H->
  wpAny (model P w) X.A (pyNext (.ref it)) (λr s1=>∃ u,r=some u/\
   wpAny (model P w) X.A (letOwnedTupleGo tg (.ref it) u) (λ_ s2=>∃ x H',Inv X pins σ H' s2/\k9 x u/\J.yld i H x H'/\tn (i+1) s2.heap/\∀ b ∈ fp,H' b=none) E s1) E s
 done:∀ (X:Cx),X.prog=P->X.w=w->X.K=K->X.calm=true->∀ (i:Nat) (pins:List (Addr × Obj)) (s:Shared) (σ:St) (H:Hp) (E:Value->Shared->Prop),Inv X pins σ H s->(∀ b ∈ fp,fN X pins H b)->tn i s.heap->J.stop i H->
  wpAny (model P w) X.A (pyNext (.ref it)) (λr s1=>r=none/\Inv X pins σ H s1) E s
 self:∀ (A:Around) (i:Nat) (s:Shared) (Q:Value->Shared->Prop) (E:Value->Shared->Prop),tn i s.heap->Q (.ref it) s->wpAny (model P w) A (pyIter (.ref it)) Q E s
abbrev TI:=St->Hp->(It->Hp->Prop)->Prop
def PIE (X:Cx) (pins:List (Addr × Obj)) (σ:St) (tg:Expr) (R:It->Hp->Prop) (itv:Value) (s2:Shared):Prop:=
 ∃ (it:Addr) (fp:List Addr) (tn:Nat->Heap->Prop) (J:It) (H':Hp),itv=.ref it/\Inv X pins σ H' s2/\kz X.prog X.w X.K tg J fp it tn/\tn 0 s2.heap/\(∀ b ∈ fp,fN X pins H' b)/\R J H'
def PI (X:Cx) (tg iter:Expr) (wi:TI):Prop:=
 ∀ (pins:List (Addr × Obj)) (s:Shared) (σ:St) (H:Hp) (R:It->Hp->Prop),Inv X pins σ H s->wi σ H R->
  wpAny (model X.prog X.w) X.A (eval iter X.env) (λv s1=>wpAny (model X.prog X.w) X.A (pyIter v) (PIE X pins σ tg R) X.xe s1) X.xe s
theorem go_of {M:Model} {A:Around} {E:Value->Shared->Prop} {s:Shared} {tg:Expr} {it:Addr} {u:Value} {o:Obj} {n:String} {vs:Array Value} {Q:Unit->Shared->Prop} (ho:s.heap.get? it=some o) (hc:o.cls=.type n) (hd:o.data=.fields vs)
  (hn:["enumerate", "zip", "dict_itemiterator", "dict_reverseitemiterator", "odict_iterator", "itertools.zip_longest", "itertools.pairwise"].contains n=false) (hQ:Q () s):wpAny M A (letOwnedTupleGo tg (.ref it) u) Q E s:=by
 unfold letOwnedTupleGo
 cases tg<;>first
  | exact wpAny_pure hQ
  | (cases u<;>first
    | exact wpAny_pure hQ
    | (refine wpAny_bind (wpAny_load ho ?_)
       rw [hc,hd]
       show wpAny M A (if (["enumerate", "zip", "dict_itemiterator", "dict_reverseitemiterator", "odict_iterator", "itertools.zip_longest", "itertools.pairwise"].contains n && vs[0]? == some (rawInt _))=true then _ else _) Q E s
       rw [if_neg (by intro h; rw [hn,Bool.false_and] at h; cases h)]
       exact wpAny_pure hQ))
def Itl (K:Frag) (a:Addr):It:=
 ⟨λi H=>∃ xs x,SqL K H a xs/\xs[i]? = some x,λi H x H'=>H'=H/\∀ xs,SqL K H a xs->xs[i]? = some x,λi H=>∃ xs,SqL K H a xs/\xs.length<=i⟩
def Itt (K:Frag) (a:Addr):It:=
 ⟨λi H=>∃ xs x,SqT K H a xs/\xs[i]? = some x,λi H x H'=>H'=H/\∀ xs,SqT K H a xs->xs[i]? = some x,λi H=>∃ xs,SqT K H a xs/\xs.length<=i⟩
def Itr (lo:Int) (n:Nat):It:=⟨λi _=>i<n,λi H x H'=>H'=H/\x=.int (lo+i),λi _=>n<=i⟩
theorem turn_list {P:Program} {w:World} {K:Frag} {tg:Expr} (a it:Addr):kz P w K tg (Itl K a) [it] it (λi h=>h.IsListIter it a i) where
 mem:=by simp
 obj:=λi h st b hb=>by
  have e:b=it:=by simpa using hb
  subst e
  obtain ⟨o,e,c,d⟩:=st
  exact ⟨o,e,λv z=>by rw [d] at z; cases z⟩
 keep:=λi h h' st k=>st.at λo e=>k it (by simp) o e
 item:=by
  intro X hP hw hK hc i pins s σ H E I hf st hg
  subst hP hw hK
  obtain ⟨xs,x,hq,hx⟩:=hg
  obtain ⟨its,rv,p,hz⟩:=I.list hq
  obtain ⟨u,hu,ru⟩:=rv.get hx
  obtain ⟨f0,f1,f2,f3,f4,f5⟩:=hf it (by simp)
  refine wpAny_pyNext_list_item st p.isList (x:=u) (by simpa using hu) λh' st' sb=>?_
  have I1:Inv X pins σ H { s with heap:=h' }:=I.turned (t':=s.toks) (λb o hb e=>(sb.2 b hb).trans e) f0 f1 f3 f4 f5
  obtain ⟨o,e,c,d⟩:=id st'
  exact ⟨u,rfl,go_of (s:={ s with heap:=h' }) e c d (by decide) ⟨x,H,I1,ru,⟨rfl,λys hy=>by rw [I.list_inj hy hq]; exact hx⟩,st',λb hb=>(hf b hb).1⟩⟩
 done:=by
  intro X hP hw hK hc i pins s σ H E I hf st hg
  subst hP hw hK
  obtain ⟨xs,hq,hx⟩:=hg
  obtain ⟨its,rv,p,hz⟩:=I.list hq
  obtain ⟨f0,f1,f2,f3,f4,f5⟩:=hf it (by simp)
  have hl:=rv.length
  exact wpAny_pyNext_list_end (I.ok.hd hc) st p.isList (by simp; omega) λh' eb=>⟨rfl,I.turned (t':=s.toks) (λb o hb e=>eb b o hb e) f0 f1 f3 f4 f5⟩
 self:=λ_ _ _ _ _ st h=>wpAny_pyIter_listiter st h
theorem turn_tuple {P:Program} {w:World} {K:Frag} {tg:Expr} (a it:Addr):kz P w K tg (Itt K a) [it] it (λi h=>h.IsTupleIter it a i) where
 mem:=by simp
 obj:=λi h st b hb=>by
  have e:b=it:=by simpa using hb
  subst e
  obtain ⟨o,e,c,d⟩:=st
  exact ⟨o,e,λv z=>by rw [d] at z; cases z⟩
 keep:=λi h h' st k=>st.at λo e=>k it (by simp) o e
 item:=by
  intro X hP hw hK hc i pins s σ H E I hf st hg
  subst hP hw hK
  obtain ⟨xs,x,hq,hx⟩:=hg
  obtain ⟨its,rv,p,hz⟩:=I.tuple hq
  obtain ⟨u,hu,ru⟩:=rv.get hx
  obtain ⟨f0,f1,f2,f3,f4,f5⟩:=hf it (by simp)
  refine wpAny_pyNext_tuple_item st (show s.heap.IsTuple a its.toArray from p) (x:=u) (by simpa using hu) λh' st' sb=>?_
  have I1:Inv X pins σ H { s with heap:=h' }:=I.turned (t':=s.toks) (λb o hb e=>(sb.2 b hb).trans e) f0 f1 f3 f4 f5
  obtain ⟨o,e,c,d⟩:=id st'
  exact ⟨u,rfl,go_of (s:={ s with heap:=h' }) e c d (by decide) ⟨x,H,I1,ru,⟨rfl,λys hy=>by rw [I.tuple_inj hy hq]; exact hx⟩,st',λb hb=>(hf b hb).1⟩⟩
 done:=by
  intro X hP hw hK hc i pins s σ H E I hf st hg
  subst hP hw hK
  obtain ⟨xs,hq,hx⟩:=hg
  obtain ⟨its,rv,p,hz⟩:=I.tuple hq
  obtain ⟨f0,f1,f2,f3,f4,f5⟩:=hf it (by simp)
  have hl:=rv.length
  exact wpAny_pyNext_tuple_end (I.ok.hd hc) st (show s.heap.IsTuple a its.toArray from p) (by simp; omega) λh' eb=>⟨rfl,I.turned (t':=s.toks) (λb o hb e=>eb b o hb e) f0 f1 f3 f4 f5⟩
 self:=λ_ _ _ _ _ st h=>wpAny_pyIter_tupleiter st h
theorem turn_range {P:Program} {w:World} {K:Frag} {tg:Expr} (it:Addr) (lo:Int) (n:Nat):kz P w K tg (Itr lo n) [it] it (λi h=>IsRangeIter h it (lo+(i:Nat)*1) ((n:Int)-(i:Nat)) 1) where
 mem:=by simp
 obj:=λi h st b hb=>by
  have e:b=it:=by simpa using hb
  subst e
  exact ⟨_,st,λv z=>by
   have z':Data.fields _=Data.cell v:=z
   cases z'⟩
 keep:=λi h h' st k=>k it (by simp) _ st
 item:=by
  intro X hP hw hK hc i pins s σ H E I hf st hg
  subst hP hw hK
  obtain ⟨f0,f1,f2,f3,f4,f5⟩:=hf it (by simp)
  have W:=Walks.range (prog:=X.prog) (w:=X.w) (I.ok.hd hc) it lo 1 n
  refine W.item i s _ _ hg st λv h' tk hv st' kk=>?_
  obtain ⟨t,rfl⟩:=hv
  have I1:Inv X pins σ H { s with heap:=h',toks:=tk }:=I.turned (λb o hb e=>kk b o (by simpa using hb) e) f0 f1 f3 f4 f5
  refine ⟨_,rfl,go_of (s:={ s with heap:=h',toks:=tk }) (n := "range_iterator") st' rfl rfl (by decide) ⟨.int (lo+i),H,I1,⟨t,?_⟩,⟨rfl,rfl⟩,st',λb hb=>(hf b hb).1⟩⟩
  rw [Int.mul_one]
 done:=by
  intro X hP hw hK hc i pins s σ H E I hf st hg
  subst hP hw hK
  obtain ⟨f0,f1,f2,f3,f4,f5⟩:=hf it (by simp)
  exact wpAny_pyNext_range_end (I.ok.hd hc) st (by have:n<=i:=hg; omega) λh' eb=>⟨rfl,I.turned (t':=s.toks) (λb o hb e=>eb b o hb e) f0 f1 f3 f4 f5⟩
 self:=λ_ _ _ _ _ st h=>wpAny_pyIter_rangeiter st h
section
variable {X:Cx} {tg:Expr}
def iList (K:Frag) (tl:TE):TI:=λσ H R=>tl σ H λx H1=>∃ a,x=.ref a/\(∃ xs,SqL K H1 a xs)/\R (Itl K a) H1
def iTup (K:Frag) (tl:TE):TI:=λσ H R=>tl σ H λx H1=>∃ a,x=.ref a/\(∃ xs,SqT K H1 a xs)/\R (Itt K a) H1
theorem pi_list {l:Expr} {tl:TE} (hl:PE X l tl):PI X tg l (iList X.K tl):=by
 intro pins s σ H R I h
 refine thn (hl pins s σ H _ I h) λv s1 ⟨x,H1,I1,r1,q1⟩=>?_
 obtain ⟨a,e,⟨xs,hq⟩,q⟩:=q1
 subst e
 cases r1
 obtain ⟨its,rv,p,hz⟩:=I1.list hq
 refine wpAny_pyIter_list p.isList ?_
 refine ⟨s1.heap.objs.size,[s1.heap.objs.size],_,_,H1,rfl,I1.kept (t':=s1.toks) λb o e=>get?_push_of_some _ e,turn_list a _,⟨_,get?_push_size _ rfl,rfl,rfl⟩,λb hb=>?_,q⟩
 have e:b=s1.heap.objs.size:=by simpa using hb
 subst e
 exact I1.fpOk (Nat.le_refl _) (I1.hok.fresh (Nat.le_refl _))
theorem pi_tup {l:Expr} {tl:TE} (hl:PE X l tl):PI X tg l (iTup X.K tl):=by
 intro pins s σ H R I h
 refine thn (hl pins s σ H _ I h) λv s1 ⟨x,H1,I1,r1,q1⟩=>?_
 obtain ⟨a,e,⟨xs,hq⟩,q⟩:=q1
 subst e
 cases r1
 obtain ⟨its,rv,p,hz⟩:=I1.tuple hq
 refine wpAny_pyIter_tuple (show s1.heap.IsTuple a its.toArray from p) ?_
 refine ⟨s1.heap.objs.size,[s1.heap.objs.size],_,_,H1,rfl,I1.kept (t':=s1.toks) λb o e=>get?_push_of_some _ e,turn_tuple a _,⟨_,get?_push_size _ rfl,rfl,rfl⟩,λb hb=>?_,q⟩
 have e:b=s1.heap.objs.size:=by simpa using hb
 subst e
 exact I1.fpOk (Nat.le_refl _) (I1.hok.fresh (Nat.le_refl _))
theorem range_it {pins:List (Addr × Obj)} {σ:St} {H:Hp} {s:Shared} {R:It->Hp->Prop} {E:Value->Shared->Prop} {lo hi:Int} {t u v:Tok} {tk:Nat} (I:Inv X pins σ H s) (h1:-(2 ^ 62)<=lo) (h2:lo<2 ^ 62) (h3:-(2 ^ 62)<=hi) (h4:hi<2 ^ 62)
  (q:R (Itr lo (hi-lo).toNat) H):wpAny (model X.prog X.w) X.A (pyIter (.ref s.heap.objs.size)) (PIE X pins σ tg R) E { s with heap:=s.heap.push { cls:=.type "range",data:=.fields #[.int lo t,.int hi u,.int 1 v] },toks:=tk }:=by
 refine wpAny_pyIter_range (IsRange.new ..) (small_one h1 h2 h3 h4) ?_
 have I1:Inv X pins σ H { s with heap:=s.heap.push { cls:=.type "range",data:=.fields #[.int lo t,.int hi u,.int 1 v] },toks:=tk }:=I.kept λb o e=>get?_push_of_some _ e
 refine ⟨(s.heap.push { cls:=.type "range",data:=.fields #[.int lo t,.int hi u,.int 1 v] }).objs.size,[(s.heap.push { cls:=.type "range",data:=.fields #[.int lo t,.int hi u,.int 1 v] }).objs.size],_,_,H,rfl,
  I1.kept (t':=tk) λb o e=>get?_push_of_some _ e,turn_range _ lo (hi-lo).toNat,?_,λb hb=>?_,q⟩
 ·have e1:lo+((0:Nat):Int)*1=lo:=by simp
  have e2:(((hi-lo).toNat:Nat):Int)-((0:Nat):Int)=Builtin.Range.rangeSize lo hi 1:=by rw [rangeSize_one]; split<;>omega
  show IsRangeIter _ _ (lo+((0:Nat):Int)*1) ((((hi-lo).toNat:Nat):Int)-((0:Nat):Int)) 1
  rw [e1,e2]
  exact get?_push_size _ rfl
 ·have e:b=(s.heap.push { cls:=.type "range",data:=.fields #[.int lo t,.int hi u,.int 1 v] }).objs.size:=by simpa using hb
  subst e
  exact I1.fpOk (Nat.le_refl _) (I1.hok.fresh (Nat.le_refl _))
def iRng1 (ta:TA):TI:=λσ H R=>ta σ H λvs H1=>∃ j:Int,vs=[.int j]/\-(2 ^ 62)<=j/\j<2 ^ 62/\R (Itr 0 j.toNat) H1
def iRng2 (ta:TA):TI:=λσ H R=>ta σ H λvs H1=>∃ i j:Int,vs=[.int i,.int j]/\(-(2 ^ 62)<=i/\i<2 ^ 62/\-(2 ^ 62)<=j/\j<2 ^ 62)/\R (Itr i (j-i).toNat) H1
theorem bh {a:Expr} {ta:TA} {p pos:Pos} (hg:Gl X "range") (hm:X.mg "range" = none) (ha:PA X [a] ta) (hs:starEach [a] X.env=[(false,eval a X.env)]:=by rfl):PI X tg (.Call (.Name "range" p) [a] [] pos) (iRng1 ta):=by
 intro pins s σ H R I h
 refine Call_ (eR I hg hm boot_range (PyProof.Rows.callWith_type1 (thn (ha pos pins s σ H _ I h) λus s1 ⟨vs,H1,I1,r1,q1⟩=>?_) hs rfl))
 obtain ⟨j,e,q1,q2,q⟩:=q1
 subst e
 cases r1 with
 | cons r rr=>
  cases rr
  obtain ⟨t,rfl⟩:=r
  exact call_range_1 (range_it I1 (by omega) (by omega) q1 q2 (by simpa using q))
theorem pi_range2 {a b:Expr} {ta:TA} {p pos:Pos} (hg:Gl X "range") (hm:X.mg "range" = none) (ha:PA X [a,b] ta) (hs:starEach [a,b] X.env=[(false,eval a X.env),(false,eval b X.env)]:=by rfl) (hs2:starEach [b] X.env=[(false,eval b X.env)]:=by rfl) :
  PI X tg (.Call (.Name "range" p) [a,b] [] pos) (iRng2 ta):=by
 intro pins s σ H R I h
 refine Call_ (eR I hg hm boot_range (PyProof.Rows.callWith_type1 (thn (ha pos pins s σ H _ I h) λus s1 ⟨vs,H1,I1,r1,q1⟩=>?_) (by rw [hs,hs2]) (by rw [hs2]; rfl)))
 obtain ⟨i,j,e,⟨q1,q2,q3,q4⟩,q⟩:=q1
 subst e
 cases r1 with
 | cons r rr=>
  cases rr with
  | cons r' rr=>
   cases rr
   obtain ⟨t,rfl⟩:=r
   obtain ⟨t',rfl⟩:=r'
   exact call_range_2 (range_it I1 q1 q2 q3 q4 q)
def tFor (wi:TI) (g:TG) (tb:TS):TS:=λD σ H=>wi σ H λJ H1=>∃ W:Nat->Nat->St->Hp->Prop,(∃ m,W 0 m σ H1)/\∀ i m σ H,W i m σ H->
 (J.stop i H/\D.nx σ H)\/(J.go i H/\∃ N:St->Hp->Prop,(∀ σ' H',N σ' H'->∃ m',m' < m/\W (i+1) m' σ' H')/\∀ x H',J.yld i H x H'->g x σ H' λσ2 H2=>tb { D with nx:=N,ct:=N,bk:=D.nx } σ2 H2)
def i6 (fp:List Addr) (h:Heap):List (Addr × Obj):=fp.filterMap λb=>(h.get? b).map λo=>(b,o)
theorem dD {fp:List Addr} {h:Heap} {b:Addr} {o:Obj} (hb:b ∈ fp) (e:h.get? b=some o):(b,o) ∈ i6 fp h:=List.mem_filterMap.mpr ⟨b,hb,by rw [e]; rfl⟩
theorem of_pinsAt {fp:List Addr} {h:Heap} {p:Addr × Obj} (hp:p ∈ i6 fp h):p.1 ∈ fp/\h.get? p.1=some p.2:=by
 obtain ⟨b,hb,e⟩:=List.mem_filterMap.mp hp
 cases q:h.get? b with
 | none=>rw [q] at e; cases e
 | some o=>
  rw [q] at e
  have e':(b,o)=p:=Option.some.inj e
  subst e'
  exact ⟨hb,q⟩
theorem Inv.pinned {pins:List (Addr × Obj)} {σ:St} {H:Hp} {s:Shared} {fp:List Addr} (I:Inv X pins σ H s) (hf:∀ b ∈ fp,fN X pins H b) (ho:∀ b ∈ fp,∃ o,s.heap.get? b=some o/\∀ v,o.data ≠ .cell v):Inv X (pins++i6 fp s.heap) σ H s:=
 I.pins_of λp hp=>(List.mem_append.mp hp).elim (λz=>I.pin p (mem_append_right _ z)) λz=>by
  obtain ⟨hb,e⟩:=of_pinsAt z
  obtain ⟨f0,f1,f2,_⟩:=hf p.1 hb
  obtain ⟨o,e',d⟩:=ho p.1 hb
  rw [e] at e'; cases e'
  exact ⟨e,f0,f1,f2,d⟩
theorem Inv.unpinned {pins pl:List (Addr × Obj)} {σ:St} {H:Hp} {s:Shared} (I:Inv X (pins++pl) σ H s):Inv X pins σ H s:=I.pins_of λp hp=>I.pin p (mem_append_right _ (List.mem_append_left _ hp))
theorem bI {iter:Expr} {body:List Stmt} {wi:TI} {g:TG} {tb:TS} {pos:Pos} (hp:PassesOwn (model X.prog X.w) X.A X.env X.xe) (hc:X.calm=true) (hi:PI X tg iter wi) (hg:PG X tg g) (hb:PSs X body tb)
  (hs:∀ x,foldedSetIterable iter X.env x=pure x:=by intro _; rfl):PS X (.For tg iter body [] pos) (tFor wi g tb):=by
 intro pins s σ H D I h
 refine wpAny_For (thn (hi pins s σ H _ I h) λv s1 h1=>thn h1 λitv s2 h2=>?_) hs
 obtain ⟨it,fp,tn,J,H2,e,I2,T,st2,f2,W,⟨m0,w0⟩,turn⟩:=h2
 subst e
 have stat:∀ {H':Hp},(∀ b ∈ fp,H' b=none)->∀ b ∈ fp,fN X pins H' b:=λhn b hb=>⟨hn b hb,(f2 b hb).2⟩
 refine codeAny_forLoop_any (λn s'=>∃ i σ' H',Inv X pins σ' H' s'/\tn i s'.heap/\(∀ b ∈ fp,H' b=none)/\W i n σ' H') ?_ m0 ⟨0,σ,H2,I2,st2,λb hb=>(f2 b hb).1,w0⟩
 rintro n s3 ⟨i,σ3,H3,I3,st3,fr3,w3⟩
 rcases turn i n σ3 H3 w3 with ⟨stop,qn⟩ | ⟨go,N,hN,step⟩
 ·refine wpAny_passesOwn hp (thn (T.done X rfl rfl rfl hc i pins s3 σ3 H3 X.xe I3 (stat fr3) st3 stop) λr s4 ⟨hr,I4⟩=>?_)
  subst hr
  exact wpAny_execs_nil ⟨σ3,H3,I4,qn⟩
 ·refine wpAny_passesOwn hp (thn (T.item X rfl rfl rfl hc i pins s3 σ3 H3 X.xe I3 (stat fr3) st3 go) λr s4 ⟨u,hr,h4⟩=>?_)
  subst hr
  refine wpAny_passesOwn hp (thn h4 λ_ s5 ⟨x,H5,I5,r5,y5,st5,fr5⟩=>?_)
  have I5':=I5.pinned (stat fr5) (T.obj _ _ st5)
  refine wpAny_passesOwn hp (thn (hg _ s5 σ3 H5 x u _ I5' r5 (step x H5 y5)) λ_ s6 ⟨σ6,H6,I6,q6⟩=>?_)
  refine wpAny_passesOwn hp (thn (hb _ s6 σ6 H6 _ I6 q6) λf s7 q7=>?_)
  have again:∀ {σ7:St} {H7:Hp},Inv X (pins++i6 fp s5.heap) σ7 H7 s7->N σ7 H7->∃ m,m<n/\∃ i σ' H',Inv X pins σ' H' s7/\tn i s7.heap/\(∀ b ∈ fp,H' b=none)/\W i m σ' H':=λ{σ7 H7} I7 n7=>by
   obtain ⟨m',hm,w7⟩:=hN σ7 H7 n7
   refine ⟨m',hm,i+1,σ7,H7,I7.unpinned,T.keep _ _ _ st5 λb hb o e=>(I7.pin (b,o) (mem_append_right _ (mem_append_right _ (dD hb e)))).1,λb hb=>?_,w7⟩
   obtain ⟨o,e,d⟩:=T.obj _ _ st5 b hb
   exact (I7.pin (b,o) (mem_append_right _ (mem_append_right _ (dD hb e)))).2.1
  cases f with
  | next=>obtain ⟨σ7,H7,I7,n7⟩:=q7; exact again I7 n7
  | cont=>obtain ⟨σ7,H7,I7,n7⟩:=q7; exact again I7 n7
  | brk=>obtain ⟨σ7,H7,I7,q7⟩:=q7; exact ⟨σ7,H7,I7.unpinned,q7⟩
  | ret v=>obtain ⟨x7,σ7,H7,I7,r7,q7⟩:=q7; exact ⟨x7,σ7,H7,I7.unpinned,r7,q7⟩
end
theorem f8 {K:Frag} {a:Addr} {xs:List V} {g:TG} {tb:TS} {D:fP} {σ:St} {H:Hp} (Pv:Nat->St->Hp->Prop) (h0:Pv 0 σ H) (hl:∀ i σ H,i<=xs.length->Pv i σ H->SqL K H a xs)
  (hs:∀ i x σ H,xs[i]? = some x->Pv i σ H->g x σ H λσ2 H2=>tb { D with nx:=Pv (i+1),ct:=Pv (i+1),bk:=D.nx } σ2 H2) (hd:∀ σ H,Pv xs.length σ H->D.nx σ H) :
  ∃ W:Nat->Nat->St->Hp->Prop,(∃ m,W 0 m σ H)/\∀ i m σ H,W i m σ H->
   ((Itl K a).stop i H/\D.nx σ H)\/((Itl K a).go i H/\∃ N:St->Hp->Prop,(∀ σ' H',N σ' H'->∃ m',m' < m/\W (i+1) m' σ' H')/\∀ x H',(Itl K a).yld i H x H'->g x σ H' λσ2 H2=>tb { D with nx:=N,ct:=N,bk:=D.nx } σ2 H2):=by
 refine ⟨λi m σ H=>m=xs.length-i/\i<=xs.length/\Pv i σ H,⟨xs.length,by simp,Nat.zero_le _,h0⟩,?_⟩
 rintro i m σ H ⟨rfl,hi,p⟩
 have q:=hl i σ H hi p
 by_cases hlt:i<xs.length
 ·refine .inr ⟨⟨xs,xs[i],q,by simp [hlt]⟩,Pv (i+1),λσ' H' p'=>⟨xs.length-(i+1),by omega,rfl,hlt,p'⟩,λx H' y=>?_⟩
  obtain ⟨e,y⟩:=y
  subst e
  exact hs i x σ _ (y xs q) p
 ·have e:i=xs.length:=by omega
  subst e
  exact .inl ⟨⟨xs,q,Nat.le_refl _⟩,hd σ H p⟩
theorem e7 {lo:Int} {n:Nat} {g:TG} {tb:TS} {D:fP} {σ:St} {H:Hp} (Pv:Nat->St->Hp->Prop) (h0:Pv 0 σ H)
  (hs:∀ i σ H,i<n->Pv i σ H->g (.int (lo+i)) σ H λσ2 H2=>tb { D with nx:=Pv (i+1),ct:=Pv (i+1),bk:=D.nx } σ2 H2) (hd:∀ σ H,Pv n σ H->D.nx σ H) :
  ∃ W:Nat->Nat->St->Hp->Prop,(∃ m,W 0 m σ H)/\∀ i m σ H,W i m σ H->
   ((Itr lo n).stop i H/\D.nx σ H)\/((Itr lo n).go i H/\∃ N:St->Hp->Prop,(∀ σ' H',N σ' H'->∃ m',m' < m/\W (i+1) m' σ' H')/\∀ x H',(Itr lo n).yld i H x H'->g x σ H' λσ2 H2=>tb { D with nx:=N,ct:=N,bk:=D.nx } σ2 H2):=by
 refine ⟨λi m σ H=>m=n-i/\i<=n/\Pv i σ H,⟨n,by simp,Nat.zero_le _,h0⟩,?_⟩
 rintro i m σ H ⟨rfl,hi,p⟩
 by_cases hlt:i<n
 ·refine .inr ⟨hlt,Pv (i+1),λσ' H' p'=>⟨n-(i+1),by omega,rfl,hlt,p'⟩,λx H' y=>?_⟩
  obtain ⟨e,y⟩:=y
  subst e y
  exact hs i σ _ hlt p
 ·have e:i=n:=by omega
  subst e
  exact .inl ⟨Nat.le_refl _,hd σ H p⟩
theorem el {c:TT} {tb:TS} {D:fP} {σ:St} {H:Hp} (Pv:St->Hp->Prop) (μ:St->Hp->Nat) (h0:Pv σ H)
  (hs:∀ σ H,Pv σ H->c σ H λb H1=>if b=true then tb { D with nx:=λσ' H'=>Pv σ' H'/\μ σ' H' < μ σ H,ct:=λσ' H'=>Pv σ' H'/\μ σ' H' < μ σ H,bk:=D.nx } σ H1 else D.nx σ H1)
  (mono:∀ σ H Q Q',(∀ b H1,Q b H1->Q' b H1)->c σ H Q->c σ H Q'):tWhile c tb D σ H:=by
 refine ⟨λm σ H=>m=μ σ H/\Pv σ H,⟨_,rfl,h0⟩,?_⟩
 rintro m σ H ⟨rfl,p⟩
 refine mono σ H _ _ (λb H1 q=>?_) (hs σ H p)
 cases b with
 | true=>exact ⟨_,λσ' H' ⟨p',l⟩=>⟨_,l,rfl,p'⟩,q⟩
 | false=>exact q
abbrev R2:=V->V->Hp->VK->Prop
def OpR (X:Cx) (f:Value->Value->Sem Value) (r:R2):Prop:=
 ∀ (pins:List (Addr × Obj)) (s:Shared) (σ:St) (H:Hp) (x y:V) (v u:Value) (Q:VK),Inv X pins σ H s->k9 x v->k9 y u->r x y H Q->
  wpAny (model X.prog X.w) X.A (f v u) (EP X pins σ Q) X.xe s
def UnR (X:Cx) (f:Value->Sem Value) (r:V->Hp->VK->Prop):Prop:=
 ∀ (pins:List (Addr × Obj)) (s:Shared) (σ:St) (H:Hp) (x:V) (v:Value) (Q:VK),Inv X pins σ H s->k9 x v->r x H Q->
  wpAny (model X.prog X.w) X.A (f v) (EP X pins σ Q) X.xe s
def cE (X:Cx) (f:Value) (r:List V->Hp->VK->Prop):Prop:=
 ∀ (pins:List (Addr × Obj)) (s:Shared) (σ:St) (H:Hp) (xs:List V) (us:List Value) (Q:VK),Inv X pins σ H s->kY xs us->r xs H Q->
  wpAny (model X.prog X.w) X.A (call f us) (EP X pins σ Q) X.xe s
def tOp (r:R2) (ta tb:TE):TE:=λσ H Q=>ta σ H λx H1=>tb σ H1 λy H2=>r x y H2 Q
def tUn (r:V->Hp->VK->Prop) (ta:TE):TE:=λσ H Q=>ta σ H λx H1=>r x H1 Q
def rI (C:Int->Int->Prop) (g:Int->Int->V):R2:=λx y H Q=>∃ i j,x=.int i/\y=.int j/\C i j/\Q (g i j) H
def rI0 (g:Int->Int->V):R2:=λx y H Q=>∃ i j,x=.int i/\y=.int j/\Q (g i j) H
def rU (g:Int->V):V->Hp->VK->Prop:=λx H Q=>∃ i,x=.int i/\Q (g i) H
section
variable {X:Cx} {a b c:Expr} {ta tb tc:TE} {pos:Pos}
theorem binT (ha:PE X a ta) (hb:PE X b tb) {pins:List (Addr × Obj)} {s:Shared} {σ:St} {H:Hp} {R:V->V->Hp->Prop} (I:Inv X pins σ H s)
  (h:ta σ H λx H1=>tb σ H1 λy H2=>R x y H2) {Q:Value->Shared->Prop} {f:Value->Value->Sem Value}
  (hf:∀ v u s2 x y H2,Inv X pins σ H2 s2->k9 x v->k9 y u->R x y H2->wpAny (model X.prog X.w) X.A (f v u) Q X.xe s2) :
  wpAny (model X.prog X.w) X.A (eval a X.env) (λv s₁=>wpAny (model X.prog X.w) X.A (eval b X.env) (λu s₂=>wpAny (model X.prog X.w) X.A (f v u) Q X.xe s₂) X.xe s₁) X.xe s:=by
 refine thn (ha pins s σ H _ I h) λv s1 ⟨x,H1,I1,r1,q1⟩=>?_
 refine thn (hb pins s1 σ H1 _ I1 q1) λu s2 ⟨y,H2,I2,r2,q2⟩=>?_
 exact hf v u s2 x y H2 I2 r1 r2 q2
theorem am {op:Operator} {r:R2} (ho:OpR X (binaryOp op) r) (ha:PE X a ta) (hb:PE X b tb):PE X (.BinOp a op b pos) (tOp r ta tb):=by
 intro pins s σ H Q I h
 exact wpAny_BinOp (binT ha hb I h λv u s2 x y H2 I2 rx ry q=>ho pins s2 σ H2 x y v u Q I2 rx ry q)
theorem j3 {op:UnaryOp} {r:V->Hp->VK->Prop} (ho:UnR X (unaryOp op) r) (ha:PE X a ta):PE X (.UnaryOp op a pos) (tUn r ta):=by
 intro pins s σ H Q I h
 exact UnaryOp_ (thn (ha pins s σ H _ I h) λv s1 ⟨x,H1,I1,r1,q1⟩=>ho pins s1 σ H1 x v Q I1 r1 q1)
theorem opI {f:Value->Value->Sem Value} {C:Int->Int->Prop} {g:Int->Int->Int}
  (rule:∀ (i j:Int) (t u:Tok) (s:Shared) (Q:Value->Shared->Prop) (E:Value->Shared->Prop),C i j->Q (.int (g i j) s.toks) { s with toks:=s.toks+1 }->wpAny (model X.prog X.w) X.A (f (.int i t) (.int j u)) Q E s) :
  OpR X f (rI C λi j=>.int (g i j)):=by
 intro pins s σ H x y v u Q I rx ry h
 obtain ⟨i,j,rfl,rfl,hc,q⟩:=h
 obtain ⟨t,rfl⟩:=rx
 obtain ⟨t',rfl⟩:=ry
 exact rule i j t t' s _ _ hc ⟨.int (g i j),H,I.tok _,⟨_,rfl⟩,q⟩
theorem opI0 {f:Value->Value->Sem Value} {g:Int->Int->Int}
  (rule:∀ (i j:Int) (t u:Tok) (s:Shared) (Q:Value->Shared->Prop) (E:Value->Shared->Prop),Q (.int (g i j) s.toks) { s with toks:=s.toks+1 }->wpAny (model X.prog X.w) X.A (f (.int i t) (.int j u)) Q E s) :
  OpR X f (rI0 λi j=>.int (g i j)):=by
 intro pins s σ H x y v u Q I rx ry h
 obtain ⟨i,j,rfl,rfl,q⟩:=h
 obtain ⟨t,rfl⟩:=rx
 obtain ⟨t',rfl⟩:=ry
 exact rule i j t t' s _ _ ⟨.int (g i j),H,I.tok _,⟨_,rfl⟩,q⟩
theorem opB0 {f:Value->Value->Sem Value} {g:Int->Int->Bool}
  (rule:∀ (i j:Int) (t u:Tok) (s:Shared) (Q:Value->Shared->Prop) (E:Value->Shared->Prop),Q (.bool (g i j)) s->wpAny (model X.prog X.w) X.A (f (.int i t) (.int j u)) Q E s) :
  OpR X f (rI0 λi j=>.bl (g i j)):=by
 intro pins s σ H x y v u Q I rx ry h
 obtain ⟨i,j,rfl,rfl,q⟩:=h
 obtain ⟨t,rfl⟩:=rx
 obtain ⟨t',rfl⟩:=ry
 exact rule i j t t' s _ _ ⟨.bl (g i j),H,I,rfl,q⟩
def CPow (i j:Int):Prop:=0<=j/\j<=1000000/\i.natAbs<2 ^ 64
def CMul (i j:Int):Prop:=(-(2 ^ 64)<i/\i<2 ^ 64)\/(-(2 ^ 64)<j/\j<2 ^ 64)
theorem CMul.ok {i j:Int} (h:CMul i j):IntMulOk i j:=by
 rcases h with ⟨h1,h2⟩ | ⟨h1,h2⟩
 ·exact .of_left (intBits_le_64 h1 h2)
 ·exact .of_right (intBits_le_64 h1 h2)
theorem bi:OpR X (binaryOp .Add) (rI0 λi j=>.int (i+j)):=opI0 λ_ _ _ _ _ _ _ q=>add_int q
theorem df:OpR X (binaryOp .Sub) (rI0 λi j=>.int (i-j)):=opI0 λ_ _ _ _ _ _ _ q=>sub_int q
theorem bf:OpR X (binaryOp .Mult) (rI CMul λi j=>.int (i*j)):=opI λ_ _ _ _ _ _ _ hc q=>mul_int q hc.ok
theorem bn:OpR X (binaryOp .Mod) (rI (λ_ j=>0<j) λi j=>.int (i % j)):=opI λi j _ _ _ _ _ hc q=>by
 have h1:(0:Int)<j:=hc
 exact mod_int' (by omega) (by rw [Int.fmod_eq_emod_of_nonneg i (by omega)]; exact q)
theorem dM:OpR X (binaryOp .Pow) (rI CPow λi j=>.int (i ^ j.toNat)):=opI λ_ _ _ _ _ _ _ hc q=>pow_int_small hc.1 hc.2.1 hc.2.2 q
theorem unI {f:Value->Sem Value} {g:Int->Int}
  (rule:∀ (i:Int) (t:Tok) (s:Shared) (Q:Value->Shared->Prop) (E:Value->Shared->Prop),Q (.int (g i) s.toks) { s with toks:=s.toks+1 }->wpAny (model X.prog X.w) X.A (f (.int i t)) Q E s) :
  UnR X f (rU λi=>.int (g i)):=by
 intro pins s σ H x v Q I rx h
 obtain ⟨i,rfl,q⟩:=h
 obtain ⟨t,rfl⟩:=rx
 exact rule i t s _ _ ⟨.int (g i),H,I.tok _,⟨_,rfl⟩,q⟩
theorem gs:UnR X (unaryOp .USub) (rU λi=>.int (-i)):=unI λ_ _ _ _ _ q=>neg_int q
end
def scal:V->V->Bool
 | .non,.non=>true | .non,.int _=>true | .int _,.non=>true | .non,.bl _=>true | .bl _,.non=>true | .non,.str _=>true | .str _,.non=>true
 | .int _,.int _=>true | .bl _,.bl _=>true | .str _,.str _=>true | .byt _,.byt _=>true
 | .int _,.str _=>true | .str _,.int _=>true | .bl _,.str _=>true | .str _,.bl _=>true
 | _,_=>false
def rEq:R2:=λx y H Q=>scal x y=true/\Q (.bl (decide (x=y))) H
def rNe:R2:=λx y H Q=>scal x y=true/\Q (.bl (!decide (x=y))) H
theorem dec_int {i j:Int}:decide (V.int i=V.int j)=(i == j):=by
 rw [Bool.eq_iff_iff]
 simp
theorem dec_bl {i j:Bool}:decide (V.bl i=V.bl j)=(i == j):=by
 rw [Bool.eq_iff_iff]
 simp
theorem dec_str {i j:Str}:decide (V.str i=V.str j)=(i == j):=by
 rw [Bool.eq_iff_iff]
 simp
theorem dec_byt {i j:Array UInt8}:decide (V.byt i=V.byt j)=(i.toList == j.toList):=by
 rw [Bool.eq_iff_iff]
 cases i
 cases j
 simp
section
variable {X:Cx} {a b c:Expr} {ta tb tc:TE} {pos:Pos}
theorem aO {pins:List (Addr × Obj)} {σ:St} {H:Hp} {s:Shared} {Q:VK} {k k':Bool} (I:Inv X pins σ H s) (q:Q (.bl k) H) (e:k=k'):EP X pins σ Q (.bool k') s:=by
 subst e
 exact ⟨.bl k,H,I,rfl,q⟩
theorem a9:OpR X (compareOp .Eq) rEq:=by
 intro pins s σ H x y v u Q I rx ry h
 obtain ⟨hs,q⟩:=h
 cases x with
 | non=>
  cases rx
  cases y with
  | non=>cases ry; exact PySem.EqNone.eq_none_none (aO I q (by simp))
  | bl j=>cases ry; exact PySem.EqNone.eq_none_bool (aO I q (by simp))
  | int j=>obtain ⟨t',rfl⟩:=ry; exact PySem.EqNone.eq_none_int (aO I q (by simp))
  | str j=>obtain ⟨t',rfl⟩:=ry; exact PySem.EqNone.eq_none_str (aO I q (by simp))
  | _=>exact absurd (show false=true from hs) Bool.false_ne_true
 | bl i=>
  cases rx
  cases y with
  | non=>cases ry; exact PySem.EqNone.eq_bool_none (aO I q (by simp))
  | bl j=>cases ry; exact eq_bool (aO I q dec_bl)
  | str j=>obtain ⟨t',rfl⟩:=ry; exact PySem.EqMixed.eq_bool_str (aO I q (by simp))
  | _=>exact absurd (show false=true from hs) Bool.false_ne_true
 | int i=>
  obtain ⟨t,rfl⟩:=rx
  cases y with
  | non=>cases ry; exact PySem.EqNone.eq_int_none (aO I q (by simp))
  | int j=>obtain ⟨t',rfl⟩:=ry; exact eq_int (aO I q dec_int)
  | str j=>obtain ⟨t',rfl⟩:=ry; exact PySem.EqMixed.eq_int_str (aO I q (by simp))
  | _=>exact absurd (show false=true from hs) Bool.false_ne_true
 | str i=>
  obtain ⟨t,rfl⟩:=rx
  cases y with
  | non=>cases ry; exact PySem.EqNone.eq_str_none (aO I q (by simp))
  | bl j=>cases ry; exact PySem.EqMixed.eq_str_bool (aO I q (by simp))
  | int j=>obtain ⟨t',rfl⟩:=ry; exact PySem.EqMixed.eq_str_int (aO I q (by simp))
  | str j=>obtain ⟨t',rfl⟩:=ry; exact eq_str (aO I q dec_str)
  | _=>exact absurd (show false=true from hs) Bool.false_ne_true
 | byt i=>
  obtain ⟨t,rfl⟩:=rx
  cases y with
  | byt j=>obtain ⟨t',rfl⟩:=ry; exact PySem.W.eq_bytes (aO I q dec_byt)
  | _=>exact absurd (show false=true from hs) Bool.false_ne_true
 | _=>cases y<;>exact absurd (show false=true from hs) Bool.false_ne_true
theorem eM:OpR X (compareOp .NotEq) rNe:=by
 intro pins s σ H x y v u Q I rx ry h
 obtain ⟨hs,q⟩:=h
 cases x with
 | non=>
  cases rx
  cases y with
  | non=>cases ry; exact PySem.EqNone.ne_none_none (aO I q (by simp))
  | bl j=>cases ry; exact PySem.EqNone.ne_none_bool (aO I q (by simp))
  | int j=>obtain ⟨t',rfl⟩:=ry; exact PySem.EqNone.ne_none_int (aO I q (by simp))
  | str j=>obtain ⟨t',rfl⟩:=ry; exact PySem.EqNone.ne_none_str (aO I q (by simp))
  | _=>exact absurd (show false=true from hs) Bool.false_ne_true
 | bl i=>
  cases rx
  cases y with
  | non=>cases ry; exact PySem.EqNone.ne_bool_none (aO I q (by simp))
  | bl j=>cases ry; exact ne_bool (aO I q (congrArg not dec_bl))
  | str j=>obtain ⟨t',rfl⟩:=ry; exact PySem.EqMixed.ne_bool_str (aO I q (by simp))
  | _=>exact absurd (show false=true from hs) Bool.false_ne_true
 | int i=>
  obtain ⟨t,rfl⟩:=rx
  cases y with
  | non=>cases ry; exact PySem.EqNone.ne_int_none (aO I q (by simp))
  | int j=>obtain ⟨t',rfl⟩:=ry; exact ne_int (aO I q (congrArg not dec_int))
  | str j=>obtain ⟨t',rfl⟩:=ry; exact PySem.EqMixed.ne_int_str (aO I q (by simp))
  | _=>exact absurd (show false=true from hs) Bool.false_ne_true
 | str i=>
  obtain ⟨t,rfl⟩:=rx
  cases y with
  | non=>cases ry; exact PySem.EqNone.ne_str_none (aO I q (by simp))
  | bl j=>cases ry; exact PySem.EqMixed.ne_str_bool (aO I q (by simp))
  | int j=>obtain ⟨t',rfl⟩:=ry; exact PySem.EqMixed.ne_str_int (aO I q (by simp))
  | str j=>obtain ⟨t',rfl⟩:=ry; exact ne_str (aO I q (congrArg not dec_str))
  | _=>exact absurd (show false=true from hs) Bool.false_ne_true
 | byt i=>
  obtain ⟨t,rfl⟩:=rx
  cases y with
  | byt j=>obtain ⟨t',rfl⟩:=ry; exact PySem.W.ne_bytes (aO I q (congrArg not dec_byt))
  | _=>exact absurd (show false=true from hs) Bool.false_ne_true
 | _=>cases y<;>exact absurd (show false=true from hs) Bool.false_ne_true
theorem dY:OpR X (compareOp .Lt) (rI0 λi j=>.bl (decide (i<j))):=opB0 λ_ _ _ _ _ _ _ q=>lt_int q
theorem op_le:OpR X (compareOp .LtE) (rI0 λi j=>.bl (decide (i<=j))):=opB0 λ_ _ _ _ _ _ _ q=>le_int q
theorem cg:OpR X (compareOp .Gt) (rI0 λi j=>.bl (decide (j<i))):=opB0 λ_ _ _ _ _ _ _ q=>gt_int q
theorem op_ge:OpR X (compareOp .GtE) (rI0 λi j=>.bl (decide (j<=i))):=opB0 λ_ _ _ _ _ _ _ q=>ge_int q
theorem op_in_str:OpR X (compareOp .In) (λx y H Q=>∃ i j,x=.str i/\y=.str j/\Q (.bl (!(Builtin.Str.occurrences j i 0 j.length 1).isEmpty)) H):=by
 intro pins s σ H x y v u Q I rx ry h
 obtain ⟨i,j,rfl,rfl,q⟩:=h
 obtain ⟨t,rfl⟩:=rx
 obtain ⟨t',rfl⟩:=ry
 exact in_str (aO I q rfl)
theorem ao (b:Expr) {op:CmpOp} (h:op ≠ .In:=by decide) (h2:op ≠ .NotIn:=by decide):behindInMarks op b=false:=by
 have e1:(op == CmpOp.In)=false:=by cases op<;>first | rfl | exact absurd rfl h
 have e2:(op == CmpOp.NotIn)=false:=by cases op<;>first | rfl | exact absurd rfl h2
 cases b<;>simp [behindInMarks,e1,e2]
theorem aU {op:CmpOp} {r:R2} (ho:OpR X (compareOp op) r) (ha:PE X a ta) (hb:PE X b tb) (hm:behindInMarks op b=false):PE X (.Compare a [op] [b] pos) (tOp r ta tb):=by
 intro pins s σ H Q I h
 exact wpAny_Compare1 (binT ha hb I h λv u s2 x y H2 I2 rx ry q=>ho pins s2 σ H2 x y v u Q I2 rx ry q) hm
def tTest (t:TE):TT:=λσ H Q=>t σ H λx H'=>∃ k,x=.bl k/\Q k H'
theorem aq {op:CmpOp} {r:R2} (ho:OpR X (compareOp op) r) (ha:PE X a ta) (hb:PE X b tb) (hm:behindInMarks op b=false):PT X (.Compare a [op] [b] pos) (tTest (tOp r ta tb)):=by
 intro pins s σ H Q I h
 refine wpAny_isTrue_Compare1 (thn (ha pins s σ H _ I h) λv s1 ⟨x,H1,I1,r1,q1⟩=>thn (hb pins s1 σ H1 _ I1 q1) λu s2 ⟨y,H2,I2,r2,q2⟩=>
  thn (ho pins s2 σ H2 x y v u _ I2 r1 r2 q2) λc s3 ⟨z,H3,I3,r3,k,e,q3⟩=>?_) hm
 subst e
 cases r3
 exact wpAny_truthy_bool ⟨H3,I3,q3⟩
def tChain (r r':R2) (ta tb tc:TE):TE:=λσ H Q=>ta σ H λx H1=>tb σ H1 λy H2=>r x y H2 λz H3=>∃ k,z=.bl k/\
 (if k=true then tc σ H3 λw' H4=>r' y w' H4 Q else Q (.bl false) H3)
theorem pe_chain {op op':CmpOp} {r r':R2} (ho:OpR X (compareOp op) r) (ho':OpR X (compareOp op') r') (ha:PE X a ta) (hb:PE X b tb) (hc:PE X c tc)
  (hm:lastMarks [op,op'] [b,c]=false:=by with_unfolding_all rfl):PE X (.Compare a [op,op'] [b,c] pos) (tChain r r' ta tb tc):=by
 intro pins s σ H Q I h
 refine Compare_chain (thn (ha pins s σ H _ I h) λv s1 ⟨x,H1,I1,r1,q1⟩=>chain_link (thn (hb pins s1 σ H1 _ I1 q1) λu s2 ⟨y,H2,I2,r2,q2⟩=>
  thn (ho pins s2 σ H2 x y v u _ I2 r1 r2 q2) λd s3 ⟨z,H3,I3,r3,k,e,q3⟩=>?_)) hm
 subst e
 cases r3
 refine wpAny_truthy_bool ?_
 cases k with
 | false=>exact ite_ff ⟨.bl false,H3,I3,rfl,q3⟩
 | true=>exact ite_tt (chain_last (thn (hc pins s3 σ H3 _ I3 q3) λw' s4 ⟨z',H4,I4,r4,q4⟩=>ho' pins s4 σ H4 y z' u w' Q I4 r2 r4 q4))
theorem gH:(sizeLine:Nat)<2 ^ 63:=by rw [sizeLine_eq]; decide
theorem aN:OpR X (binaryOp .Add) (λx y H Q=>∃ i j,x=.str i/\y=.str j/\i.length+j.length<=sizeLine/\Q (.str (i++j)) H):=by
 intro pins s σ H x y v u Q I rx ry h
 obtain ⟨i,j,rfl,rfl,hz,q⟩:=h
 obtain ⟨t,rfl⟩:=rx
 obtain ⟨t',rfl⟩:=ry
 exact add_str (λt' tk=>⟨.str (i++j),H,I.tok _,⟨_,rfl⟩,q⟩) hz
theorem eG {x:V} {us:List Value} (r:kY [x] us):∃ u,us=[u]/\k9 x u:=by
 cases r with
 | cons r1 r2=>cases r2; exact ⟨_,rfl,r1⟩
theorem vals2 {x y:V} {us:List Value} (r:kY [x,y] us):∃ u w',us=[u,w']/\k9 x u/\k9 y w':=by
 cases r with
 | cons r1 r2=>
  cases r2 with
  | cons r3 r4=>cases r4; exact ⟨_,_,rfl,r1,r3⟩
theorem call_abs:cE X (.builtin "abs") (λxs H Q=>∃ i,xs=[.int i]/\Q (.int (if i<0 then -i else i)) H):=by
 intro pins s σ H xs us Q I r h
 obtain ⟨i,rfl,q⟩:=h
 obtain ⟨u,rfl,t,rfl⟩:=eG r
 exact call_abs_int λu tk=>⟨.int (if i<0 then -i else i),H,I.tok _,⟨_,rfl⟩,q⟩
theorem call_max2 (hc:X.calm=true):cE X (.builtin "max") (λxs H Q=>∃ i j,xs=[.int i,.int j]/\Q (.int (if j > i then j else i)) H):=by
 intro pins s σ H xs us Q I r h
 obtain ⟨i,j,rfl,q⟩:=h
 obtain ⟨u,w',rfl,⟨t,rfl⟩,⟨t',rfl⟩⟩:=vals2 r
 refine max_two_ints (I.ok.hd hc) λh' tk k=>⟨_,H,I.kept k,?_,q⟩
 by_cases hj:j > i
 ·rw [if_pos hj,if_pos hj]; exact ⟨_,rfl⟩
 ·rw [if_neg hj,if_neg hj]; exact ⟨_,rfl⟩
theorem bO:cE X (.type "int") (λxs H Q=>(∃ i,xs=[.int i]/\Q (.int i) H)\/∃ k,xs=[.bl k]/\Q (.int (if k then 1 else 0)) H):=by
 intro pins s σ H xs us Q I r h
 rcases h with ⟨i,rfl,q⟩ | ⟨k,rfl,q⟩
 ·obtain ⟨u,rfl,t,rfl⟩:=eG r
  exact call_int_int ⟨.int i,H,I,⟨_,rfl⟩,q⟩
 ·obtain ⟨u,rfl,r1⟩:=eG r
  cases r1
  exact call_int_bool ⟨.int (if k then 1 else 0),H,I.tok _,⟨_,rfl⟩,q⟩
theorem aQ:cE X (.type "str") (λxs H Q=>∃ i,xs=[.int i]/\i.natAbs.log2<1920/\Q (.str (toString i)) H):=by
 intro pins s σ H xs us Q I r h
 obtain ⟨i,rfl,hz,q⟩:=h
 obtain ⟨u,rfl,t,rfl⟩:=eG r
 exact PySem.P.str_of_int hz ⟨.str _,H,I.tok _,⟨_,rfl⟩,q⟩
end
structure ObjM (h:Heap) (x dx C:Addr) (mA:Str->Option Value):Prop where
 obj:h.get? x=some (instObj C dx)
 ns:h.Ns1 dx mA
 ne:dx ≠ x
theorem lookIn_ns {h:Heap} {dx:Addr} {mA:Str->Option Value} (n:h.Ns1 dx mA):∃ od,h.get? dx=some od/\∀ name,lookIn name od=some (mA name):=by
 obtain ⟨o,es,ep,ho,hd,hk,_,hm⟩:=n
 refine ⟨o,ho,λname=>?_⟩
 have e:=hm name
 unfold nsFind findBy at e
 rw [<- Array.find?_toList] at e
 unfold lookIn
 rw [hd]
 dsimp only
 split
 ·rename_i y q
  rw [q] at e
  exact congrArg some e
 ·rename_i q
  rw [q] at e
  have a:es.toList.any (·.refKey)=false:=by
   rw [List.any_eq_false]
   intro y hy
   obtain ⟨z,t,hkey⟩:=hk y (Array.mem_toList_iff.mp hy)
   simp [DictEntry.refKey,hkey]
  have a':¬ es.toList.any (·.refKey)=true:=by rw [a]; exact Bool.false_ne_true
  rw [if_neg a']
  exact congrArg some e
theorem ObjM.look {h:Heap} {x dx C:Addr} {mA:Str->Option Value} (I:ObjM h x dx C mA):∃ od,PySem.W.InstAt h x (instObj C dx) C (some od)/\∀ name,lookIn name od=some (mA name):=
 let ⟨od,ho,hl⟩:=lookIn_ns I.ns
 ⟨od,⟨I.obj,rfl,rfl,ho⟩,hl⟩
section
variable {prog:Program} {w:World} {A:Around} {E:Value->Shared->Prop} {s:Shared} {K:Frag} {x dx C f:Addr} {mA:Str->Option Value} {name:Str} {v:Value}
theorem get_map {expr:Bool} {Q:Value->Shared->Prop} (X:K.In s.heap) (I:ObjM s.heap x dx C mA) (hg:plainGet K C name=true) (hh:hasDictIn K C=true)
  (ha:findIn K (.ref C) name=some none) (hv:mA name=some v) (hv':PySem.W.handedIn v=true) (h:Q v { s with toks:=s.toks+1 }) :
  wpAny (model prog w) A (getAttr (.ref x) name expr) Q E s:=by
 obtain ⟨od,J,hl⟩:=I.look
 exact PySem.W.get_value X J (PySem.W.plainGet_of hg).1 (PySem.W.findObj_own hh ha rfl (by rw [hl,hv])) hv' h
theorem get_meth {pl:Sem Bool} {Q:Value × List Value->Shared->Prop} (X:K.In s.heap) (I:ObjM s.heap x dx C mA) (hg:plainGet K C name=true)
  (hf:findIn K (.ref C) name=some (some (.ref f))) (ht:isFn K (.ref f)=true) (hv:mA name=none) (h:Q (.ref f,[.ref x]) s) :
  wpAny (model prog w) A (getMethod (.ref x) name pl) Q E s:=by
 obtain ⟨od,J,hl⟩:=I.look
 exact PySem.W.method_fn X J (PySem.W.plainGet_of hg).1 (PySem.W.plainGet_of hg).2 hf (beq_iff_eq.mp ht) (by show (lookIn name od).map (·.isSome)=some false; rw [hl,hv]; rfl) h
theorem set_map {ns:List Str} {Q:Unit->Shared->Prop} (X:K.In s.heap) (I:ObjM s.heap x dx C mA)
  (hs:findIn K (.ref C) "__setattr__"=some (some (.builtin "object.__setattr__"))) (hp:plainOver K C=true) (ht:PySem.W.takerIn K C name=some none) (hh:hasDictIn K C=true)
  (hw:PySem.Within mA ns) (hsz:ns.length<=sizeLine)
  (h:∀ h',ObjM h' x dx C (λy=>if y=name then some v else mA y)->Heap.SameBut dx s.heap h'->Q () { s with heap:=h',toks:=s.toks+2 }) :
  wpAny (model prog w) A (setAttr (.ref x) name v) Q E s:=by
 obtain ⟨od,J,hl⟩:=I.look
 refine PySem.W.set_plain X J hs (PySem.W.osa_open (s:={ s with toks:=s.toks+1 }) (r:=none) X J hp ht λb=>?_)
 obtain ⟨cd,hc,hd'⟩:=PySem.W.any_some hh
 have hx:s.heap.get? x=some ⟨.ref C,some dx,.plain,#[]⟩:=I.obj
 refine wpAny_bind (wpAny_pure (wpAny_bind (wpAny_bind (wpAny_loadPart hx (wpAny_bind (PySem.W.Looks.here (s:={ s with toks:=s.toks+1 }) (PySem.W.looks_clsIn X hc) ?_))))))
 rw [hd']
 refine wpAny_pure (a:=some dx) (wpAny_bind (wpAny_pure (wpAny_bind ?_)))
 refine wpAny_nsSet1 (s:={ s with toks:=s.toks+1 }) I.ns λh' hn2 hs2=>?_
 obtain ⟨oD,esD,epD,hoD,hdD,hcD⟩:=hn2.count (PySem.Within.cons name v hw)
 refine wpAny_bind (wpAny_lookBehind hoD (by rw [hdD]; exact pastItsLine_dict (Nat.le_trans hcD (by rw [length_cons]; omega))) ?_)
 exact wpAny_pure (h _ ⟨(hs2.2 _ (Ne.symm I.ne)).trans I.obj,hn2,I.ne⟩ hs2)
theorem make_map {R:Result->Shared->Prop} {vs:List Value} {kw:List (Str × Value)} (X:K.In s.heap) (hm:makesIn K C=true)
  (hi:findIn K (.ref C) "__init__"=some (some (.ref f))) (hf:PySem.W.typeIn K (.ref f)=some (.type "function"))
  (h:codeAny (model prog w) (A.under (.builtin "type.__call__" ⟨.ref C::vs,kw⟩)) (.call (.ref f) ⟨.ref (s.heap.objs.size+1)::vs,kw⟩) (PySem.W.InitBack (s.heap.objs.size+1) R)
   { s with heap:=(s.heap.push emptyDict).push (instObj C s.heap.objs.size) }) :
  codeAny (model prog w) A (.call (.ref C) ⟨vs,kw⟩) R s:=by
 obtain ⟨hh,g,d,t,os⟩:=s
 exact PySem.W.make_core (PySem.W.makes_of X hm) (PySem.W.looks_findIn X hi) (λself=>PySem.W.bind_fn X self hf) (.inl rfl) h
theorem make_map0 {R:Result->Shared->Prop} (X:K.In s.heap) (hm:makesIn K C=true)
  (hi:findIn K (.ref C) "__init__"=some (some (.builtin "object.__init__")))
  (hb:∀ self,PySem.W.Looks (model prog w) s.heap (bindSpecial (.builtin "object.__init__") self) (.builtin "object.__init__",[self]))
  (h:codeAny (model prog w) (A.under (.builtin "type.__call__" ⟨[.ref C],[]⟩)) (.call (.builtin "object.__init__") ⟨[.ref (s.heap.objs.size+1)],[]⟩) (PySem.W.InitBack (s.heap.objs.size+1) R)
   { s with heap:=(s.heap.push emptyDict).push (instObj C s.heap.objs.size) }) :
  codeAny (model prog w) A (.call (.ref C) ⟨[],[]⟩) R s:=by
 obtain ⟨hh,g,d,t,os⟩:=s
 exact PySem.W.make_core (PySem.W.makes_of X hm) (PySem.W.looks_findIn X hi) hb (.inr ⟨rfl,rfl⟩) h
end
def fh (f:Str) (v:V):List (Str × V)->List (Str × V)
 | []=>[(f,v)]
 | (g,x)::r=>if g=f then (g,v)::r else (g,x)::fh f v r
theorem gY (f g:Str) (v:V):∀ fs:List (Str × V),(fh f v fs).lookup g=if g=f then some v else fs.lookup g
 | []=>by
  show List.lookup g [(f,v)]=_
  by_cases h:g=f
  ·have hb:(g == f)=true:=beq_iff_eq.mpr h
   simp only [List.lookup,hb,if_pos h]
  ·have hb:(g == f)=false:=beq_eq_false_iff_ne.mpr h
   simp only [List.lookup,hb,if_neg h]
 | (k,x)::r=>by
  have ih:=gY f g v r
  rw [show fh f v ((k,x)::r)=(if k=f then (k,v)::r else (k,x)::fh f v r) from rfl]
  by_cases hk:k=f
  ·rw [if_pos hk]
   by_cases h:g=k
   ·have hb:(g == k)=true:=beq_iff_eq.mpr h
    simp only [List.lookup,hb,if_pos (h.trans hk)]
   ·have hb:(g == k)=false:=beq_eq_false_iff_ne.mpr h
    simp only [List.lookup,hb,if_neg (λe:g=f=>h (e.trans hk.symm))]
  ·rw [if_neg hk]
   by_cases h:g=k
   ·have hb:(g == k)=true:=beq_iff_eq.mpr h
    simp only [List.lookup,hb,if_neg (λe:g=f=>hk (h.symm.trans e))]
   ·have hb:(g == k)=false:=beq_eq_false_iff_ne.mpr h
    simp only [List.lookup,hb]
    exact ih
theorem gB (f:Str) (v:V):∀ fs:List (Str × V),f ∈ (fh f v fs).map (·.1)/\∀ g,g ∈ fs.map (·.1)->g ∈ (fh f v fs).map (·.1)
 | []=>⟨by simp [fh],λg h=>by simp at h⟩
 | (k,x)::r=>by
  obtain ⟨i1,i2⟩:=gB f v r
  rw [show fh f v ((k,x)::r)=(if k=f then (k,v)::r else (k,x)::fh f v r) from rfl]
  by_cases hk:k=f
  ·rw [if_pos hk]
   subst hk
   exact ⟨by simp,λg h=>by simpa using h⟩
  ·rw [if_neg hk]
   refine ⟨?_,λg h=>?_⟩
   ·rw [map_cons]
    exact mem_cons_of_mem _ i1
   ·rw [map_cons] at h ⊢
    rcases List.mem_cons.mp h with e | e
    ·exact List.mem_cons.mpr (.inl e)
    ·exact mem_cons_of_mem _ (i2 g e)
theorem gW (f:Str) (v:V):∀ fs:List (Str × V),(fh f v fs).length<=fs.length+1
 | []=>by simp [fh]
 | (k,x)::r=>by
  have ih:=gW f v r
  rw [show fh f v ((k,x)::r)=(if k=f then (k,v)::r else (k,x)::fh f v r) from rfl]
  by_cases hk:k=f
  ·rw [if_pos hk,length_cons,length_cons]; omega
  ·rw [if_neg hk,length_cons,length_cons]; omega
theorem RelO.some_of {v:V} {o:Option Value} (r:RelO (some v) o):∃ u,o=some u/\k9 v u:=by
 cases o with
 | none=>exact (show False from r).elim
 | some u=>exact ⟨u,rfl,r⟩
theorem RelO.none_of {o:Option Value} (r:RelO none o):o=none:=by
 cases o with
 | none=>rfl
 | some u=>exact (show False from r).elim
theorem handed_of {v:V} {u:Value} (r:k9 v u):PySem.W.handedIn u=true:=by
 cases v with
 | non=>cases (show u=Value.none from r); rfl
 | bl b=>cases (show u=Value.bool b from r); rfl
 | int i=>obtain ⟨t,e⟩:=(show ∃ t,u=Value.int i t from r); cases e; rfl
 | str x=>obtain ⟨t,e⟩:=(show ∃ t,u=Value.str x t from r); cases e; rfl
 | byt b=>obtain ⟨t,e⟩:=(show ∃ t,u=Value.bytes b t from r); cases e; rfl
 | flt b=>obtain ⟨t,e⟩:=(show ∃ t,u=Value.float b t from r); cases e; rfl
 | ref a=>cases (show u=Value.ref a from r); rfl
 | ty n=>cases (show u=Value.type n from r); rfl
section
variable {P:Program} {w:World} {H H':Hp} {h h':Heap} {a C dx:Addr} {fs fs':List (Str × V)}
theorem ie (hok:HOk P w H h) (e:H a=some (.ins C dx fs)):∃ mA,ObjM h a dx C mA/\(∀ f,RelO (fs.lookup f) (mA f))/\PySem.Within mA (fs.map (·.1))/\fs.length<=1000/\H dx=some (.own a):=by
 obtain ⟨d,z,ne,ob,mA,n,r,q⟩:=(show ls P w H h a (.ins C dx fs) from hok a _ e)
 exact ⟨mA,⟨ob,n,ne⟩,r,q,z,d⟩
end
structure Cls (K:Frag) (C:Addr):Prop where
 pg:plainGet K C Str.empty=true
 hd:hasDictIn K C=true
 po:plainOver K C=true
 sa:findIn K (.ref C) "__setattr__"=some (some (.builtin "object.__setattr__"))
theorem Cls.get {K:Frag} {C:Addr} (c:Cls K C) (f:Str):plainGet K C f=true:=c.pg
def lO (K:Frag) (C:Addr) (f:Str):Prop:=findIn K (.ref C) f=some none
theorem lO.taker {K:Frag} {C:Addr} {f:Str} (n:lO K C f):PySem.W.takerIn K C f=some none:=by
 unfold PySem.W.takerIn
 rw [show findIn K (.ref C) f=some none from n]
 rfl
structure dZ (K:Frag) (C:Addr) (m:Str) (f:Addr):Prop where
 at_:findIn K (.ref C) m=some (some (.ref f))
 fn:isFn K (.ref f)=true
 kp:keepIn K (.ref f)=true
section
variable {X:Cx} {pins:List (Addr × Obj)} {σ:St} {H:Hp} {s:Shared} {a C dx:Addr} {fs:List (Str × V)} {f:Str} {v:V} {A:Around} {E:Value->Shared->Prop}
theorem getattr_ok {b:Bool} {Q:Value->Shared->Prop} (I:Inv X pins σ H s) (e:H a=some (.ins C dx fs)) (c:Cls X.K C) (n:lO X.K C f) (l:fs.lookup f=some v)
  (h:∀ u s',Inv X pins σ H s'->k9 v u->Q u s'):wpAny (model X.prog X.w) A (getAttr (.ref a) f b) Q E s:=by
 obtain ⟨mA,O,r,_,_,_⟩:=ie I.hok e
 obtain ⟨u,hu,ru⟩:=RelO.some_of (v:=v) (o:=mA f) (by rw [<- l]; exact r f)
 exact get_map I.kIn O (c.get f) c.hd n hu (handed_of ru) (h u _ (I.tok _) ru)
theorem fC {m:Str} {g:Addr} {pl:Sem Bool} {Q:Value × List Value->Shared->Prop} (I:Inv X pins σ H s) (e:H a=some (.ins C dx fs)) (c:Cls X.K C) (k:dZ X.K C m g) (l:fs.lookup m=none)
  (h:Q (.ref g,[.ref a]) s):wpAny (model X.prog X.w) A (getMethod (.ref a) m pl) Q E s:=by
 obtain ⟨mA,O,r,_,_,_⟩:=ie I.hok e
 have hn:mA m=none:=RelO.none_of (by rw [<- l]; exact r m)
 exact get_meth I.kIn O (c.get m) k.at_ k.fn hn h
theorem setattr_ok {y:V} {u:Value} {Q:Unit->Shared->Prop} (I:Inv X pins σ H s) (e:H a=some (.ins C dx fs)) (c:Cls X.K C) (n:lO X.K C f) (hl:fs.length<1000) (ry:k9 y u)
  (h:∀ s',Inv X pins σ (upd H a (.ins C dx (fh f y fs))) s'->Q () s'):wpAny (model X.prog X.w) A (setAttr (.ref a) f u) Q E s:=by
 obtain ⟨mA,O,r,wi,_,ho⟩:=ie I.hok e
 have hz:(fs.map (·.1)).length<=sizeLine:=by rw [length_map,sizeLine_eq]; omega
 refine set_map I.kIn O c.sa c.po n.taker c.hd wi hz λh' O' sb=>h _ ?_
 have hd:∃ o,h'.get? dx=some o:=let ⟨o,_,_,e',_⟩:=O'.ns; ⟨o,e'⟩
 refine I.write (x:=a) (e:=dx) (by rw [e]; exact True.intro) (.inr ho) (λb q hb z=>(sb.2 b hb).trans z) hd ?_
 refine ⟨by rw [au O.ne]; exact ho,?_,O.ne,O'.obj,_,O'.ns,λg=>?_,λg hg=>?_⟩
 ·have:=gW f y fs; omega
 ·show RelO ((fh f y fs).lookup g) (if g=f then some u else mA g)
  rw [gY]
  by_cases q:g=f
  ·rw [if_pos q,if_pos q]; exact ry
  ·rw [if_neg q,if_neg q]; exact r g
 ·by_cases q:g=f
  ·rw [q]; exact (gB f y fs).1
  ·refine (gB f y fs).2 g (wi g λz=>hg ?_)
   show (if g=f then some u else mA g)=none
   rw [if_neg q]; exact z
theorem Inv.made (I:Inv X pins σ H s):Inv X pins σ (upd (upd H s.heap.objs.size (.own (s.heap.objs.size+1))) (s.heap.objs.size+1) (.ins C s.heap.objs.size []))
  { s with heap:=(s.heap.push emptyDict).push (instObj C s.heap.objs.size) }:=by
 have e1:(s.heap.push emptyDict).get? s.heap.objs.size=some emptyDict:=get?_push_size s.heap rfl
 have e2:((s.heap.push emptyDict).push (instObj C s.heap.objs.size)).get? (s.heap.objs.size+1)=some (instObj C s.heap.objs.size):=by
  have:=get?_push_size (s.heap.push emptyDict) (o:=instObj C s.heap.objs.size) rfl
  rwa [size_push] at this
 have e3:(s.heap.push emptyDict).Ns s.heap.objs.size (λ_=>none):=⟨emptyDict,#[],_,e1,rfl,(λe he=>absurd he (by simp)),λ_=>rfl⟩
 have I1:=I.laid (a:=s.heap.objs.size) (o:=.own (s.heap.objs.size+1)) (h':=s.heap.push emptyDict) (t':=s.toks) (λb u q=>get?_push_of_some _ q) (Nat.le_refl _) ⟨_,e1⟩
 refine I1.laid (a:=s.heap.objs.size+1) (o:=.ins C s.heap.objs.size []) (t':=s.toks) (λb u q=>get?_push_of_some _ q) (Nat.le_of_eq (size_push _ _)) ?_
 have ne:s.heap.objs.size ≠ s.heap.objs.size+1:=Nat.ne_of_lt (Nat.lt_succ_self _)
 refine ⟨by rw [au ne,af],Nat.zero_le _,ne,e2,λ_=>none,(Heap.Ns1.of_empty e3).at λo q=>get?_push_of_some _ q,λ_=>True.intro,λy hy=>absurd rfl hy⟩
theorem attr_of {prog:Program} {w:World} {env:Env} {e:Expr} {f:Str} {pos:Pos} {s:Shared} {Q:Value->Shared->Prop} (hb:attributeBase e f env (eval e env)=eval e env)
  (h:wpAny (model prog w) A (eval e env) (λo s₁=>wpAny (model prog w) A (getAttr o f true) Q E s₁) E s):wpAny (model prog w) A (eval (.Attribute e f pos) env) Q E s:=
 Attribute_any_ h (by rw [arm_eval_Attribute,hb])
end
def tFld (K:Frag) (ta:TE) (f:Str):TE:=λσ H Q=>ta σ H λx H1=>∃ a C dx fs v,x=.ref a/\H1 a=some (.ins C dx fs)/\Cls K C/\lO K C f/\fs.lookup f=some v/\Q v H1
def sFld (K:Frag) (ta tv:TE) (f:Str):TS:=λD σ H=>tv σ H λy H1=>ta σ H1 λx H2=>∃ a C dx fs,x=.ref a/\H2 a=some (.ins C dx fs)/\Cls K C/\lO K C f/\fs.length<1000/\
 D.nx σ (upd H2 a (.ins C dx (fh f y fs)))
section
variable {X:Cx} {o e value:Expr} {f:Str} {pos pos' tpos:Pos} {ta tv:TE}
theorem eW (he:PE X e ta) (hb:attributeBase e f X.env (eval e X.env)=eval e X.env):PE X (.Attribute e f pos) (tFld X.K ta f):=by
 intro pins s σ H Q I h
 refine attr_of hb (thn (he pins s σ H _ I h) λu s1 ⟨x,H1,I1,rx,a,C,dx,fs,v,ex,ea,c,n,l,q⟩=>?_)
 subst ex
 obtain rfl:u=Value.ref a:=rx
 exact getattr_ok I1 ea c n l λu' s2 I2 ru=>⟨v,H1,I2,ru,q⟩
theorem ps_fld (ha:PE X o ta) (hv:PE X value tv) (hs:swapsWith value (some (.Attribute o f pos')) pos.line X.env=pure false):PS X (.Assign [.Attribute o f pos'] value pos) (sFld X.K ta tv f):=by
 intro pins s σ H D I h
 refine plainObj_wpAny_Assign_Attribute (thn (hv pins s σ H _ I h) λu s1 ⟨y,H1,I1,ry,q⟩=>thn (ha pins s1 σ H1 _ I1 q) λov s2 ⟨x,H2,I2,rx,a,C,dx,fs,ex,ea,c,n,l,q2⟩=>?_) hs
 subst ex
 obtain rfl:ov=Value.ref a:=rx
 exact setattr_ok I2 ea c n l ry λs3 I3=>⟨σ,_,I3,q2⟩
theorem methcall_of {pl:Sem Bool} {m:Str} {apos:Pos} {args:List Expr} {pins:List (Addr × Obj)} {s:Shared} {σ:St} {H:Hp} {Q:Value->Shared->Prop} {te:TE} (he:PE X e te) (I:Inv X pins σ H s)
  (h:te σ H λx H1=>∃ a C dx fs g,x=.ref a/\H1 a=some (.ins C dx fs)/\Cls X.K C/\dZ X.K C m g/\fs.lookup m=none/\
   ∀ s1,Inv X pins σ H1 s1->wpAny (model X.prog X.w) X.A (callWith pos (.ref g) [.ref a] (backTo pos (starEach args X.env)) (backToKw pos (keywordEach [] X.env))) Q X.xe s1)
  (ht:eval (.Call (.Attribute e m apos) args [] pos) X.env=(do
   let ov <- eval e X.env
   standAt apos.atName
   let (f,first) <- holding [ov] (getMethod ov m pl)
   callWith pos f first (backTo pos (starEach args X.env)) (backToKw pos (keywordEach [] X.env)))) :
  wpAny (model X.prog X.w) X.A (eval (.Call (.Attribute e m apos) args [] pos) X.env) Q X.xe s:=by
 refine PySem.W.methodCall_KW (pl:=pl) (thn (he pins s σ H _ I h) λu s1 ⟨x,H1,I1,rx,a,C,dx,fs,g,ex,ea,c,k,l,q⟩=>?_) ht
 subst ex
 obtain rfl:u=Value.ref a:=rx
 exact fC I1 ea c k l (q s1 I1)
end
section
variable {X:Cx} {pins:List (Addr × Obj)} {σ:St} {H:Hp} {s:Shared} {A:Around} {E:Value->Shared->Prop} {Q:Value->Shared->Prop} {c:Value} {b:Bool}
inductive lR (K:Frag) (H:Hp):V->Value->Prop where
 | non:lR K H .non (.type "NoneType")
 | bl (x:Bool):lR K H (.bl x) (.type "bool")
 | int (i:Int):lR K H (.int i) (.type "int")
 | str (x:Str):lR K H (.str x) (.type "str")
 | flt (x:UInt64):lR K H (.flt x) (.type "float")
 | lst {a:Addr} {xs:List V} (e:H a=some (.lst xs)):lR K H (.ref a) (.type "list")
 | frz {a:Addr} {o:Obj} {xs:List V} (e:H a=some (.frz o (.lst xs))):lR K H (.ref a) (.type "list")
 | tup {a:Addr} {xs:List V} (e:H a=some (.tup xs)):lR K H (.ref a) (.type "tuple")
 | dK {a:Addr} {kvs:List (Key × V)} (e:H a=some (.dK kvs)):lR K H (.ref a) (.type "dict")
 | dT {a:Addr} {kvs:List (List Key × V)} (e:H a=some (.dT kvs)):lR K H (.ref a) (.type "dict")
 | ins {a C dx:Addr} {fs:List (Str × V)} (e:H a=some (.ins C dx fs)) (cl:Cls K C) (ha:findIn K (.ref C) "__class__"=some (some (.builtin "object.__class__")))
   (hn:specialIn K (.builtin "object.__class__") "__get__"=some (some (.builtin "getset_descriptor.__get__"))) (htk:takesIn K (.builtin "object.__class__")=some true)
   (hm:mroIn K C (.type "object")=some true):lR K H (.ref a) (.ref C)
theorem isinst_ok {x:V} {u t:Value} (I:Inv X pins σ H s) (rx:k9 x u) (ty:lR X.K H x t) (e:kitOne X.K t c=some b) (h:∀ tk,Q (.bool b) { s with toks:=tk }) :
  wpAny (model X.prog X.w) A (call (.builtin "isinstance") [u,c]) Q E s:=by
 cases ty with
 | non=>cases (show u=Value.none from rx); exact kia_one PySem.W.kitx_none I.kIn True.intro e (λz=>nomatch z) h
 | bl y=>cases (show u=Value.bool y from rx); exact kia_one PySem.W.kitx_bool I.kIn True.intro e (λz=>nomatch z) h
 | int i=>obtain ⟨t,q⟩:=(show ∃ t,u=Value.int i t from rx); cases q; exact kia_one PySem.W.kitx_int I.kIn True.intro e (λz=>nomatch z) h
 | str y=>obtain ⟨t,q⟩:=(show ∃ t,u=Value.str y t from rx); cases q; exact kia_one PySem.W.kitx_str I.kIn True.intro e (λz=>nomatch z) h
 | flt y=>obtain ⟨t,q⟩:=(show ∃ t,u=Value.float y t from rx); cases q; exact kia_one PySem.W.kitx_float I.kIn True.intro e (λz=>nomatch z) h
 | @lst a xs ea=>
  cases (show u=Value.ref a from rx)
  obtain ⟨_,_,n,_,h1⟩:=(show ls X.prog X.w H s.heap a (.lst xs) from I.hok a _ ea)
  exact kia_one PySem.W.kitx_list I.kIn ⟨_,h1,rfl⟩ e (λz=>nomatch z) h
 | @frz a ob xs ea=>
  cases (show u=Value.ref a from rx)
  obtain ⟨_,_,_,n,_,h1⟩:=(show ls X.prog X.w H s.heap a (.frz ob (.lst xs)) from I.hok a _ ea)
  exact kia_one PySem.W.kitx_list I.kIn ⟨_,h1,rfl⟩ e (λz=>nomatch z) h
 | @tup a xs ea=>
  cases (show u=Value.ref a from rx)
  obtain ⟨_,_,_,p⟩:=(show ls X.prog X.w H s.heap a (.tup xs) from I.hok a _ ea)
  obtain ⟨o,h1,h2,_⟩:=p
  exact kia_one PySem.W.kitx_tuple I.kIn ⟨o,h1,h2⟩ e (λz=>nomatch z) h
 | @dK a kvs ea=>
  cases (show u=Value.ref a from rx)
  obtain ⟨_,_,vs,_,p⟩:=(show ls X.prog X.w H s.heap a (.dK kvs) from I.hok a _ ea)
  obtain ⟨o,es,ep,h1,h2,_⟩:=p
  exact kia_one PySem.W.kitx_dict I.kIn ⟨o,h1,h2.1⟩ e (λz=>nomatch z) h
 | @dT a kvs ea=>
  cases (show u=Value.ref a from rx)
  obtain ⟨_,_,xs,_,o,es,ep,h1,h2,_⟩:=(show ls X.prog X.w H s.heap a (.dT kvs) from I.hok a _ ea)
  exact kia_one PySem.W.kitx_dict I.kIn ⟨o,h1,h2.1⟩ e (λz=>nomatch z) h
 | @ins a C dx fs ea cl ha hn htk hm=>
  cases (show u=Value.ref a from rx)
  obtain ⟨mA,O,_⟩:=ie I.hok ea
  obtain ⟨od,J,_⟩:=O.look
  exact kia_one (PySem.W.kitx_own (cl.get _) cl.hd ha hn htk hm) I.kIn J e (λz=>nomatch z) h
end
structure lA (k:Nat) (A:Around):Prop where
 hd:A.handled=none
 dp:A.depth+3*k+5<recursionLimit
 un:A.units+16*k+200<cLine
theorem lA.mono {j k:Nat} {A:Around} (r:lA k A) (h:j<=k):lA j A:=⟨r.hd,by have:=r.dp; omega,by have:=r.un; omega⟩
theorem lA.deeper {k:Nat} {A:Around} (r:lA (k+1) A) (env:Env):lA k (A.deeper env):=
 ⟨r.hd,by have:=r.dp; show A.depth+1+3*k+5<_; omega,by have:=r.un; show A.units+3+16*k+200<_; omega⟩
theorem lA.in1 {k:Nat} {A:Around} (r:lA (k+1) A):lA k A.in1:=
 ⟨r.hd,by have:=r.dp; show A.depth+3*k+5<_; omega,by have:=r.un; show A.units+1+16*k+200<_; omega⟩
theorem make_depth {A:Around} {C:Addr} {us:List Value} {kw:List (Str × Value)}:(A.under (.builtin "type.__call__" ⟨.ref C::us,kw⟩)).depth=A.depth+1:=by
 first | rfl | simp [Around.under,Code.weight,Code.isCreation,Code.isGuard,Code.isCaller,Code.frames,Code.isFrame,guardIds]
theorem make_units {A:Around} {C:Addr} {us:List Value} {kw:List (Str × Value)}:(A.under (.builtin "type.__call__" ⟨.ref C::us,kw⟩)).units=A.units+1:=by
 first | rfl | simp [Around.under,Code.cUnits,Code.frames,Code.isFrame]
theorem lA.make {k:Nat} {A:Around} (r:lA (k+1) A) (C:Addr) (us:List Value) (kw:List (Str × Value)):lA k (A.under (.builtin "type.__call__" ⟨.ref C::us,kw⟩)):=
 ⟨r.hd,by have:=r.dp; rw [make_depth]; omega,by have:=r.un; rw [make_units]; omega⟩
theorem lA.depth {k:Nat} {A:Around} (r:lA k A):A.depth<recursionLimit:=by have:=r.dp; omega
theorem lA.units {k:Nat} {A:Around} (r:lA k A):A.units+64<cLine:=by have:=r.un; omega
def er:TA:=λ_ H Q=>Q [] H
def cc (ta:TE) (tr:TA):TA:=λσ H Q=>ta σ H λx H1=>tr σ H1 λxs H2=>Q (x::xs) H2
section
variable {X:Cx} {e:Expr} {es:List Expr} {te:TE} {t:TA} {pos:Pos}
theorem ag:PA X [] er:=λ_ _ _ _ H Q I h=>Calls.spliced_nil ⟨[],H,I,.nil,h⟩
theorem aa (ha:PE X e te) (hr:PA X es t) (hs:starEach (e::es) X.env=(false,eval e X.env)::starEach es X.env:=by rfl):PA X (e::es) (cc te t):=by
 intro pos pins s σ H Q I h
 rw [hs]
 show wpAny _ _ (spliced ((false,eval e X.env)::backTo pos (starEach es X.env))) _ _ s
 refine Calls.spliced_cons (thn (ha pins s σ H _ I h) λu s1 ⟨x,H1,I1,r1,q1⟩=>?_)
 exact thn (hr pos pins s1 σ H1 _ I1 q1) λus s2 ⟨xs,H2,I2,r2,q2⟩=>⟨x::xs,H2,I2,.cons r1 r2,q2⟩
def tTup (t:TA):TE:=λσ H Q=>t σ H λxs H1=>xs.length<=sizeLine/\∀ p,H1 p=none->Q (.ref p) (upd H1 p (.tup xs))
def tLst (t:TA):TE:=λσ H Q=>t σ H λxs H1=>xs.length<=sizeLine/\∀ p,H1 p=none->Q (.ref p) (upd H1 p (.lst xs))
theorem bE {x1} (h:PA X es t):PE X (.Tuple es x1 pos) (tTup t):=by
 intro pins s σ H Q I hq
 refine wpAny_Tuple_spliced (thn (h pos pins s σ H _ I hq) λus s1 ⟨xs,H1,I1,r,z,q⟩=>⟨by rw [<- r.length]; exact z,?_⟩)
 have hf:H1 s1.heap.objs.size=none:=I1.hok.fresh (Nat.le_refl _)
 refine ⟨.ref s1.heap.objs.size,upd H1 s1.heap.objs.size (.tup xs),I1.laid (t':=s1.toks) (λb u e=>get?_push_of_some _ e) (Nat.le_refl _) ?_,rfl,q _ hf⟩
 exact ⟨z,us,r,⟨_,get?_push_size _ rfl,rfl,_,rfl⟩⟩
theorem aV (h:PA X es t):PE X (.List es pos) (tLst t):=by
 intro pins s σ H Q I hq
 refine wpAny_List_spliced (thn (h pos pins s σ H _ I hq) λus s1 ⟨xs,H1,I1,r,z,q⟩=>⟨by rw [<- r.length]; exact z,?_⟩)
 have hf:H1 s1.heap.objs.size=none:=I1.hok.fresh (Nat.le_refl _)
 refine ⟨.ref s1.heap.objs.size,upd H1 s1.heap.objs.size (.lst xs),I1.laid (t':=s1.toks) (λb u e=>get?_push_of_some _ e) (Nat.le_refl _) ?_,rfl,q _ hf⟩
 exact ⟨z,us,0,r,get?_push_size _ rfl⟩
end
abbrev Sp:=List V->Hp->VK->XK->Prop
abbrev CXT:=List Env->Hp->Shared->XK->Value->Shared->Prop
structure Env0 (P:Program) (w:World) (K:Frag) (mg:Str->Option Value) (base:Heap) (A:Around) (outer:List Env) (s:Shared) (H:Hp):Prop where
 frames:A.frames=some outer
 mod:Mod K mg base
 bs:∀ b o,base.get? b=some o->s.heap.get? b=some o/\H b=none
 bsz:base.objs.size<=s.heap.objs.size
 funs:s.heap.FunFrames base outer
 frf:∀ b ∈ frs outer,H b=none
 hok:HOk P w H s.heap
 bare:AllBare s.gens
def CE (outer:List Env) (P:Program) (w:World) (H:Hp) (s:Shared) (Q:VK) (u:Value) (s':Shared):Prop:=
 ∃ v H',s'.os=s.os/\AllBare s'.gens/\Un (frs outer) [] H H' s.heap s'.heap/\HOk P w H' s'.heap/\k9 v u/\Q v H'
def CR (CX:CXT) (outer:List Env) (P:Program) (w:World) (H:Hp) (s:Shared) (Q:VK) (E:XK) (r:Result) (s':Shared):Prop:=
 match r with
 | .ok (.ret u)=>CE outer P w H s Q u s'
 | .ok _=>False
 | .error e=>CX outer H s E e s'
structure kZ (P:Program) (w:World) (K:Frag) (mg:Str->Option Value) (base:Heap) (CX:CXT) (k:Nat) (f:Addr) (fd:FuncData) (ps:List Str) (sp:Sp):Prop where
 len:∀ vs H Q E,sp vs H Q E->vs.length=ps.length
 run:∀ (A:Around) (outer:List Env) (s:Shared) (H:Hp) (args:Args) (us:List Value) (vs:List V) (Q:VK) (E:XK),lA k A->Env0 P w K mg base A outer s H->BindsTo s fd args (ps.zip us)->kY vs us->sp vs H Q E->
  codeAny (model P w) A (.call (.ref f) args) (CR CX outer P w H s Q E) s
theorem kZ.mono {P:Program} {w:World} {K:Frag} {mg:Str->Option Value} {base:Heap} {CX:CXT} {j k:Nat} {f:Addr} {fd:FuncData} {ps:List Str} {sp:Sp} (F:kZ P w K mg base CX j f fd ps sp) (h:j<=k) :
  kZ P w K mg base CX k f fd ps sp:=⟨F.len,λA outer s H args us vs Q E hr=>F.run A outer s H args us vs Q E (hr.mono h)⟩
theorem Env0.make {P:Program} {w:World} {K:Frag} {mg:Str->Option Value} {base:Heap} {A:Around} {outer:List Env} {s:Shared} {H:Hp} (e:Env0 P w K mg base A outer s H) (C:Addr) (us:List Value) (kw:List (Str × Value)) :
  Env0 P w K mg base (A.under (.builtin "type.__call__" ⟨.ref C::us,kw⟩)) outer s H:=⟨by first | exact e.frames | (simpa [Around.under,Code.envs,Code.isFrame,pushEnvs] using e.frames),e.mod,e.bs,e.bsz,e.funs,e.frf,e.hok,e.bare⟩
theorem Env0.in1 {P:Program} {w:World} {K:Frag} {mg:Str->Option Value} {base:Heap} {A:Around} {outer:List Env} {s:Shared} {H:Hp} (e:Env0 P w K mg base A outer s H) :
  Env0 P w K mg base A.in1 outer s H:=⟨e.frames,e.mod,e.bs,e.bsz,e.funs,e.frf,e.hok,e.bare⟩
section
variable {X:Cx} {pins:List (Addr × Obj)} {σ:St} {H:Hp} {s s':Shared}
theorem Inv.env0 (I:Inv X pins σ H s):Env0 X.prog X.w X.K X.mg X.base X.A X.stack s H:=
 ⟨I.ok.frames,I.ok.mod,I.bs,Nat.le_trans I.ok.bsz I.sz,I.stack,I.stkFree,I.hok,I.bare⟩
theorem Inv.after {Q:VK} {u:Value} (I:Inv X pins σ H s) (h:CE X.stack X.prog X.w H s Q u s'):EP X pins σ Q u s':=by
 obtain ⟨v,H',os,bare,un,hok,r,q⟩:=h
 obtain ⟨hh,g,d,t,os'⟩:=s'
 obtain rfl:os'=s.os:=os
 exact ⟨v,H',I.call (h':=hh) (g':=g) (d':=d) (t':=t) (ch:=[]) un hok bare (λb z=>absurd z (by simp)),r,q⟩
end
def tCall (sp:Sp) (dvs:List V) (E:XK) (t:TA):TE:=λσ H Q=>t σ H λvs H1=>sp (vs++dvs) H1 Q E
def fQ (C:Addr) (m:Str) (sp:Sp) (dvs:List V) (E:XK) (ta:TE) (t:TA):TE:=λσ H Q=>ta σ H λx H1=>∃ a dx fs,x=.ref a/\H1 a=some (.ins C dx fs)/\fs.lookup m=none/\
 t σ H1 λvs H2=>sp (x::(vs++dvs)) H2 Q E
def tMake (C:Addr) (sp:Sp) (dvs:List V) (E:XK) (t:TA):TE:=λσ H Q=>t σ H λvs H1=>∀ x dx,H1 x=none->H1 dx=none->dx ≠ x->
 sp (.ref x::(vs++dvs)) (upd (upd H1 dx (.own x)) x (.ins C dx [])) (λv H2=>v=.non/\Q (.ref x) H2) E
def lL (K:Frag) (fd:FuncData) (ps:List Str) (ds:List Value):Prop:=
 ∀ (s:Shared) (us:List Value),K.In s.heap->(us++ds).length=ps.length->BindsTo s fd ⟨us,[]⟩ (ps.zip (us++ds))
theorem lL.all {K:Frag} {fd:FuncData} {ps:List Str} (h:∀ us:List Value,us.length=ps.length->bindArgs fd ⟨us,[]⟩=pure (ps.zip us)):lL K fd ps []:=λs us _ hl=>by
 rw [append_nil] at hl ⊢
 exact .of_eq (h us hl)
def dh (CX:CXT) (X:Cx) (E:XK):Prop:=∀ (pins:List (Addr × Obj)) (σ:St) (H:Hp) (s:Shared) (e:Value) (s':Shared),Inv X pins σ H s->CX X.stack H s E e s'->X.xe e s'
section
variable {X:Cx} {CX:CXT} {k:Nat} {f C:Addr} {fd:FuncData} {ps:List Str} {sp:Sp} {dvs:List V} {ds:List Value} {E:XK} {x m:Str} {p pos apos:Pos} {e o:Expr} {es:List Expr} {ta:TE} {t:TA}
theorem run_fn {pins:List (Addr × Obj)} {σ:St} {H:Hp} {s:Shared} {Q:VK} {us:List Value} {vs:List V} (F:kZ X.prog X.w X.K X.mg X.base CX k f fd ps sp) (hr:lA k X.A) (hb:lL X.K fd ps ds) (hd:kY dvs ds) (hx:dh CX X E)
  (I:Inv X pins σ H s) (r:kY vs us) (h:sp (vs++dvs) H Q E):wpAny (model X.prog X.w) X.A (call (.ref f) us) (EP X pins σ Q) X.xe s:=by
 have r2:kY (vs++dvs) (us++ds):=r.append hd
 have hl:(us++ds).length=ps.length:=by rw [<- r2.length]; exact F.len _ _ _ _ h
 refine wpAny_call (codeAny_mono (F.run X.A X.stack s H ⟨us,[]⟩ (us++ds) (vs++dvs) Q E hr I.env0 (hb s us I.kIn hl) r2 h) λr s' hq=>?_)
 cases r with
 | error e=>exact hx pins σ H s e s' I hq
 | ok fl=>
  cases fl with
  | ret u=>exact I.after hq
  | next=>exact False.elim hq
  | brk=>exact False.elim hq
  | cont=>exact False.elim hq
theorem pe_call (F:kZ X.prog X.w X.K X.mg X.base CX k f fd ps sp) (hr:lA k X.A) (hg:Gl X x) (hm:X.mg x=some (.ref f)) (hk:keepIn X.K (.ref f)=true) (hb:lL X.K fd ps ds) (hd:kY dvs ds) (hx:dh CX X E)
  (ha:PA X (e::es) t) (hdb:(x == ("__debug__" : Str))=false:=by decide) (he:starEach (e::es) X.env=(false,eval e X.env)::starEach es X.env:=by rfl) (hpl:(backTo pos (starEach es X.env)).any (·.1)=false:=by rfl) :
  PE X (.Call (.Name x p) (e::es) [] pos) (tCall sp dvs E t):=by
 intro pins s σ H Q I h
 refine wpAny_Call_Name_kw (f6 I hg hm ?_ hdb)
 refine PySem.W.callWith_K (h₀:=X.base) I.ok.mod.kin hk (thn (ha pos pins s σ H _ I h) λus s1 ⟨vs,H1,I1,r,q⟩=>⟨I1.kIn,?_⟩) he hpl
 exact run_fn F hr hb hd hx I1 r q
theorem pe_meth {pl:Sem Bool} (he:PE X o ta) (c:Cls X.K C) (hm:dZ X.K C m f) (F:kZ X.prog X.w X.K X.mg X.base CX k f fd ps sp) (hr:lA k X.A) (hb:lL X.K fd ps ds) (hd:kY dvs ds) (hx:dh CX X E) (ha:PA X (e::es) t)
  (hst:starEach (e::es) X.env=(false,eval e X.env)::starEach es X.env:=by rfl) (hpl:(backTo pos (starEach es X.env)).any (·.1)=false:=by rfl)
  (ht:eval (.Call (.Attribute o m apos) (e::es) [] pos) X.env=(do
   let ov <- eval o X.env
   standAt apos.atName
   let (f,first) <- holding [ov] (getMethod ov m pl)
   callWith pos f first (backTo pos (starEach (e::es) X.env)) (backToKw pos (keywordEach [] X.env))):=by rfl) :
  PE X (.Call (.Attribute o m apos) (e::es) [] pos) (fQ C m sp dvs E ta t):=by
 intro pins s σ H Q I h
 refine PySem.W.methodCall_KW (pl:=pl) (thn (he pins s σ H _ I h) λu s1 ⟨x,H1,I1,rx,a,dx,fs,ex,ea,l,q⟩=>?_) ht
 subst ex
 obtain rfl:u=Value.ref a:=rx
 refine fC I1 ea c hm l ?_
 refine PySem.W.callWith_K (first:=[.ref a]) (h₀:=X.base) I.ok.mod.kin hm.kp (thn (ha pos pins s1 σ H1 _ I1 q) λus s2 ⟨vs,H2,I2,r,q2⟩=>⟨I2.kIn,?_⟩) hst hpl
 exact run_fn (us:=.ref a::us) (vs:=.ref a::vs) F hr hb hd hx I2 (.cons rfl r) q2
theorem pe_meth0 {pl:Sem Bool} (he:PE X o ta) (c:Cls X.K C) (hm:dZ X.K C m f) (F:kZ X.prog X.w X.K X.mg X.base CX k f fd ps sp) (hr:lA k X.A) (hb:lL X.K fd ps ds) (hd:kY dvs ds) (hx:dh CX X E)
  (ht:eval (.Call (.Attribute o m apos) [] [] pos) X.env=(do
   let ov <- eval o X.env
   standAt apos.atName
   let (f,first) <- holding [ov] (getMethod ov m pl)
   callWith pos f first (backTo pos (starEach [] X.env)) (backToKw pos (keywordEach [] X.env))):=by rfl) :
  PE X (.Call (.Attribute o m apos) [] [] pos) (fQ C m sp dvs E ta er):=by
 intro pins s σ H Q I h
 refine PySem.W.methodCall_KW (pl:=pl) (thn (he pins s σ H _ I h) λu s1 ⟨x,H1,I1,rx,a,dx,fs,ex,ea,l,q⟩=>?_) ht
 subst ex
 obtain rfl:u=Value.ref a:=rx
 refine fC I1 ea c hm l ?_
 exact PySem.W.callWith_K0 (first:=[.ref a]) I1.kIn hm.kp (run_fn (us:=[.ref a]) (vs:=[.ref a]) F hr hb hd hx I1 (.cons rfl .nil) q)
structure Mk (K:Frag) (C f:Addr):Prop where
 makes:makesIn K C=true
 init:findIn K (.ref C) "__init__"=some (some (.ref f))
 fn:isFn K (.ref f)=true
 kp:keepIn K (.ref C)=true
theorem run_make {pins:List (Addr × Obj)} {σ:St} {H:Hp} {s:Shared} {Q:VK} {us:List Value} {vs:List V} (M:Mk X.K C f) (F:kZ X.prog X.w X.K X.mg X.base CX k f fd ps sp) (hr:lA (k+1) X.A) (hb:lL X.K fd ps ds) (hd:kY dvs ds)
  (hx:dh CX X E) (I:Inv X pins σ H s) (r:kY vs us)
  (h:∀ x dx,H x=none->H dx=none->dx ≠ x->sp (.ref x::(vs++dvs)) (upd (upd H dx (.own x)) x (.ins C dx [])) (λv H2=>v=.non/\Q (.ref x) H2) E) :
  wpAny (model X.prog X.w) X.A (call (.ref C) us) (EP X pins σ Q) X.xe s:=by
 have hq:=h (s.heap.objs.size+1) s.heap.objs.size (I.hok.fresh (Nat.le_succ _)) (I.hok.fresh (Nat.le_refl _)) (Nat.ne_of_lt (Nat.lt_succ_self _))
 have I2:=Inv.made (C:=C) I
 have r2:kY (V.ref (s.heap.objs.size+1)::(vs++dvs)) (Value.ref (s.heap.objs.size+1)::(us++ds)):=.cons rfl (r.append hd)
 have hl:(Value.ref (s.heap.objs.size+1)::us++ds).length=ps.length:=by
  have e:=r2.length
  rw [F.len _ _ _ _ hq] at e
  exact e.symm
 refine wpAny_call (make_map (f:=f) I.kIn M.makes M.init (beq_iff_eq.mp M.fn) (codeAny_mono (F.run _ X.stack _ _ ⟨Value.ref (s.heap.objs.size+1)::us,[]⟩ (Value.ref (s.heap.objs.size+1)::(us++ds)) _ _ E (hr.make C us [])
  (I2.env0.make C us []) (hb _ (Value.ref (s.heap.objs.size+1)::us) I2.kIn hl) r2 hq) λr s' hq'=>?_))
 cases r with
 | error e=>exact hx pins σ _ _ e s' I2 hq'
 | ok fl=>
  cases fl with
  | ret u=>
   obtain ⟨v,H',I3,rv,ev,q3⟩:=I2.after hq'
   subst ev
   exact ⟨rv,⟨V.ref (s.heap.objs.size+1),H',I3,rfl,q3⟩⟩
  | next=>exact False.elim hq'
  | brk=>exact False.elim hq'
  | cont=>exact False.elim hq'
theorem pe_make (M:Mk X.K C f) (F:kZ X.prog X.w X.K X.mg X.base CX k f fd ps sp) (hr:lA (k+1) X.A) (hg:Gl X x) (hm:X.mg x=some (.ref C)) (hb:lL X.K fd ps ds) (hd:kY dvs ds) (hx:dh CX X E)
  (ha:PA X (e::es) t) (hdb:(x == ("__debug__" : Str))=false:=by decide) (he:starEach (e::es) X.env=(false,eval e X.env)::starEach es X.env:=by rfl) (hpl:(backTo pos (starEach es X.env)).any (·.1)=false:=by rfl) :
  PE X (.Call (.Name x p) (e::es) [] pos) (tMake C sp dvs E t):=by
 intro pins s σ H Q I h
 refine wpAny_Call_Name_kw (f6 I hg hm ?_ hdb)
 refine PySem.W.callWith_K (h₀:=X.base) I.ok.mod.kin M.kp (thn (ha pos pins s σ H _ I h) λus s1 ⟨vs,H1,I1,r,q⟩=>⟨I1.kIn,?_⟩) he hpl
 exact run_make M F hr hb hd hx I1 r q
end
def PK (X:Cx) (kws:List Keyword) (t:TA):Prop:=
 ∀ (pos:Pos) (pins:List (Addr × Obj)) (s:Shared) (σ:St) (H:Hp) (Q:List V->Hp->Prop),Inv X pins σ H s->t σ H Q->wpAny (model X.prog X.w) X.A (evalAll ((backToKw pos (keywordEach kws X.env)).map (·.2))) (AP X pins σ Q) X.xe s
section
variable {X:Cx} {CX:CXT} {k:Nat} {f C:Addr} {fd:FuncData} {ps ks:List Str} {sp:Sp} {E:XK} {x m:Str} {p pos apos kpos:Pos} {e o:Expr} {es:List Expr} {kws:List Keyword} {te ta:TE} {t tk:TA} {nm:Option Str}
theorem pk_nil:PK X [] er:=λ_ _ _ _ H Q I h=>wpAny_evalAll_nil ⟨[],H,I,.nil,h⟩
theorem pk_cons (ha:PE X e te) (hr:PK X kws t):PK X (⟨nm,e,kpos⟩ :: kws) (cc te t):=by
 intro pos pins s σ H Q I h
 show wpAny _ _ (evalAll ((do let v <- eval e X.env; standAt pos; pure v)::(backToKw pos (keywordEach kws X.env)).map (·.2))) _ _ s
 refine wpAny_evalAll_cons (wpAny_bind (thn (ha pins s σ H _ I h) λu s1 ⟨x,H1,I1,r1,q1⟩=>wpAny_bind (wpAny_standAt (wpAny_pure ?_))))
 exact thn (hr pos pins s1 σ H1 _ I1 q1) λus s2 ⟨xs,H2,I2,r2,q2⟩=>⟨x::xs,H2,I2,.cons r1 r2,q2⟩
variable {g:List Value->List Value->List Value} {gV:List V->List V->List V}
end
structure kX (N P:List Str) (sc:Scope):Prop where
 kind:sc.kind=.function
 co:sc.isCoroutine=false
 gen:sc.isGenerator=false
 nd:N.Nodup
 pre:N.take P.length=P
 par:∀ x ∈ P,sc.names.lookup x=some .local\/sc.names.lookup x=some .cell
 nofree:∀ y ∈ sc.names,y.2 ≠ .free
theorem jA {kindOf:Str->Option NameKind} {x:Str}:∀ {binds:List (Str × Value)} {m:Str->Option Value},(∀ v,(x,v) ∉ binds)->bindL kindOf binds m x=m x
 | [],_,_=>rfl
 | (n,v)::r,m,h=>by
  unfold bindL
  rw [jA λw hw=>h w (mem_cons_of_mem _ hw)]
  split
  ·have:x ≠ n:=by rintro rfl; exact h v mem_cons_self
   simp [this]
  ·rfl
theorem jw {kindOf:Str->Option NameKind} {x:Str}:∀ {binds:List (Str × Value)} {m:Str->Option Value},(∀ v,(x,v) ∉ binds)->bindC kindOf binds m x=m x
 | [],_,_=>rfl
 | (n,v)::r,m,h=>by
  unfold bindC
  rw [jw λw hw=>h w (mem_cons_of_mem _ hw)]
  split
  ·rfl
  ·have:x ≠ n:=by rintro rfl; exact h v mem_cons_self
   simp [this]
theorem jX {kindOf:Str->Option NameKind} {x:Str} {v:Value}:∀ {P:List Str} {vs:List Value} {i:Nat} {m:Str->Option Value},P.Nodup->P[i]? = some x->vs[i]? = some v->kindOf x=some .local->
  bindL kindOf (P.zip vs) m x=some v
 | [],_,_,_,_,h,_,_=>by simp at h
 | _::_,[],_,_,_,_,h,_=>by simp at h
 | p::P,w::vs,0,m,nd,h1,h2,hk=>by
  simp at h1 h2; subst h1; subst h2
  show bindL kindOf ((p,w)::P.zip vs) m p=_
  unfold bindL
  rw [jA λv hv=>(List.nodup_cons.mp nd).1 (of_mem_zip hv).1,if_pos hk]
  simp
 | p::P,w::vs,i+1,m,nd,h1,h2,hk=>by
  show bindL kindOf ((p,w)::P.zip vs) m x=_
  unfold bindL
  exact jX (i:=i) (List.nodup_cons.mp nd).2 (by simpa using h1) (by simpa using h2) hk
theorem jZ {kindOf:Str->Option NameKind} {x:Str} {v:Value}:∀ {P:List Str} {vs:List Value} {i:Nat} {m:Str->Option Value},P.Nodup->P[i]? = some x->vs[i]? = some v->kindOf x ≠ some .local->
  bindC kindOf (P.zip vs) m x=some v
 | [],_,_,_,_,h,_,_=>by simp at h
 | _::_,[],_,_,_,_,h,_=>by simp at h
 | p::P,w::vs,0,m,nd,h1,h2,hk=>by
  simp at h1 h2; subst h1; subst h2
  show bindC kindOf ((p,w)::P.zip vs) m p=_
  unfold bindC
  rw [jw λv hv=>(List.nodup_cons.mp nd).1 (of_mem_zip hv).1,if_neg hk]
  simp
 | p::P,w::vs,i+1,m,nd,h1,h2,hk=>by
  show bindC kindOf ((p,w)::P.zip vs) m x=_
  unfold bindC
  exact jZ (i:=i) (List.nodup_cons.mp nd).2 (by simpa using h1) (by simpa using h2) hk
def eJ (N:List Str) (vs:List V):St:=vs.map some++List.replicate (N.length-vs.length) none
def cX (CX:CXT) (P:Program) (w:World) (K:Frag) (mg:Str->Option Value) (base:Heap) (N:List Str) (qual:Str) (scope:Scope) (f:Addr) (cd:Value) (A:Around) (outer:List Env) (s:Shared) (H:Hp) (E:XK):Cx where
 prog:=P
 w:=w
 K:=K
 mg:=mg
 base:=base
 A:=A.deeper (envOfC qual scope s.heap.objs.size f cd)
 N:=N
 s₀:=s
 H₀:=H
 env:=envOfC qual scope s.heap.objs.size f cd
 outer:=outer
 stack:=envOfC qual scope s.heap.objs.size f cd::outer
 ex:=[]
 calm:=true
 fn:=λ_=>true
 pn:=[]
 xe:=λe s'=>wpAny (model P w) (A.deeper (envOfC qual scope s.heap.objs.size f cd)) (leaving (envOfC qual scope s.heap.objs.size f cd) e) (λ_ s''=>CX outer H s E e s'') (λe' s''=>CX outer H s E e' s'') s'
theorem cell_has {sc:Scope} {n:Nat} {x:Str} (h:sc.names.lookup x=some .cell):∃ c,(cellsFrom n sc.names []).lookup x=some c:=by
 have q:=PySem.W.cellsFrom_some sc.names n [] (.inl h)
 exact Option.isSome_iff_exists.mp q
theorem inv_start {CX:CXT} {P:Program} {w:World} {K:Frag} {mg:Str->Option Value} {base:Heap} {N ps:List Str} {qual:Str} {scope:Scope} {f:Addr} {cd:Value} {A:Around} {outer:List Env} {s s1:Shared} {H:Hp} {E:XK} {us:List Value} {vs:List V}
  (S:kX N ps scope) (hd:A.handled=none) (e0:Env0 P w K mg base A outer s H) (hl:vs.length=ps.length) (r:kY vs us)
  (x:InCallC s s.heap.objs.size (bindL (envOfC qual scope s.heap.objs.size f cd).kindOf (ps.zip us) λ_=>none) (cellsFrom (s.heap.objs.size+1) scope.names []) (bindC (envOfC qual scope s.heap.objs.size f cd).kindOf (ps.zip us) λ_=>none) s1) :
  Inv (cX CX P w K mg base N qual scope f cd A outer s H E) [] (eJ N vs) H s1:=by
 have hpl:ps.length<=N.length:=by have:=congrArg List.length S.pre; rw [length_take] at this; omega
 obtain ⟨h1,tk,rfl,hk⟩:=x.done
 have noA:∀ b:Addr,b ∉ (cX CX P w K mg base N qual scope f cd A outer s H E).ex:=λb z=>absurd (show b ∈ ([]:List Addr) from z) (by simp)
 refine ⟨⟨e0.mod,S.kind,rfl,rfl,Nat.le_refl _,λy z c h1 h2=>?_,λy hy=>?_,λy c _ h=>?_,λ_=>hd,Around.frames_deeper e0.frames,.inr ⟨rfl,rfl⟩,λb z=>absurd z (noA b),e0.bs,e0.bsz,λb _ _=>noA b,λb z=>absurd z (noA b),e0.funs,e0.frf⟩,
  rfl,e0.bare,Un.kept hk,⟨_,x.toInCall.ns,λi y v h1 h2 h3=>?_⟩,λy c h=>⟨_,x.cell y c h⟩,e0.hok.fresh (Nat.le_refl _),λy c h=>?_,λp hp=>absurd (show p ∈ ([]:List (Addr × Obj)) from hp) (by simp),e0.hok.kept hk,?_⟩
 ·exact name_of_addr x.apart (PySem.mem_of_lookup h1) (PySem.mem_of_lookup h2)
 ·have hy:scope.names.lookup y=some .cell\/scope.names.lookup y=some .free:=hy
  rcases hy with hy | hy
  ·exact cell_has hy
  ·exact absurd rfl (S.nofree _ (PySem.mem_of_lookup hy))
 ·exact Nat.le_of_lt (x.above y c (PySem.mem_of_lookup h))
 ·have hi:i<vs.length:=by
   unfold eJ at h2
   by_cases hi:i<vs.length
   ·exact hi
   ·rw [List.getElem?_append_right (by simpa using hi)] at h2
    rw [List.getElem?_replicate] at h2
    split at h2<;>cases h2
  have ha:vs[i]? = some v:=by
   unfold eJ at h2
   rw [List.getElem?_append_left (by simpa using hi),getElem?_map] at h2
   cases e:vs[i]? with
   | none=>rw [e] at h2; cases h2
   | some a=>rw [e] at h2; cases h2; rfl
  obtain ⟨u,hu,rv⟩:=r.get ha
  have hp:ps[i]? = some y:=by
   rw [<- S.pre,List.getElem?_take_of_lt (by omega)]; exact h1
  have ndP:ps.Nodup:=by rw [<- S.pre]; exact S.nd.sublist (take_sublist _ _)
  refine ⟨u,rv,?_⟩
  rcases S.par y (mem_of_getElem? hp) with k | k
  ·exact .inl ⟨k,jX ndP hp hu k⟩
  ·obtain ⟨c,e⟩:=cell_has (n:=s.heap.objs.size+1) k
   refine .inr ⟨.inl k,c,e,?_⟩
   have q:=x.cell y c e
   rw [jZ ndP hp hu (by show scope.names.lookup y ≠ _; rw [k]; decide)] at q
   exact q
 ·exact e0.hok.fresh (Nat.le_of_lt (x.above y c (PySem.mem_of_lookup h)))
 ·unfold eJ
  show _=N.length
  rw [length_append,length_map,length_replicate]
  omega
theorem fn_of {CX:CXT} {P:Program} {w:World} {K:Frag} {mg:Str->Option Value} {base:Heap} {k:Nat} {f:Addr} {name qual:Str} {params:Arguments} {body:List Stmt} {scope:Scope} {dV kV doc pm cdv ct oc:Value} {an od:Option Addr}
  {osl:Array (Option Value)} {N ps:List Str} {sp:Sp} (lk:K.lookup f=some ⟨oc,od,.func (fnOf name qual params body scope dV kV doc pm an cdv ct),osl⟩) (hcd:codeIn K cdv qual=true) (S:kX N ps scope)
  (len:∀ vs H Q E,sp vs H Q E->vs.length=ps.length)
  (hbody:∀ (A:Around) (outer:List Env) (s:Shared) (H:Hp) (vs:List V) (Q:VK) (E:XK),lA k (A.deeper (envOfC qual scope s.heap.objs.size f cdv))->sp vs H Q E->
   ∃ t,PSs (cX CX P w K mg base N qual scope f cdv A outer s H E) body t/\t { nx:=λ_ H'=>Q .non H',rt:=Q } (eJ N vs) H) :
  kZ P w K mg base CX (k+1) f (fnOf name qual params body scope dV kV doc pm an cdv ct) ps sp:=by
 refine ⟨len,λA outer s H args us vs Q E hr e0 hb r hsp=>?_⟩
 have hl:=len _ _ _ _ hsp
 have KX:K.In s.heap:=e0.mod.kin.keeps λb o e=>(e0.bs b o e).1
 have lim:s.heap.NoLimit:=e0.mod.nolimit.keeps λb o e=>(e0.bs b o e).1
 have hkind:∀ y ∈ ps.zip us,scope.names.lookup y.1=some .local\/(scope.names.lookup y.1=some .cell/\((cellsFrom (s.heap.objs.size+1) scope.names []).lookup y.1).isSome=true):=λ⟨n,v⟩ hy=>by
  rcases S.par n (of_mem_zip hy).1 with q | q
  ·exact .inl q
  ·exact .inr ⟨q,PySem.W.cellsFrom_some _ _ _ (.inl q)⟩
 refine codeAny_call_function hr.depth (KX _ _ lk) rfl S.co S.gen rfl (PySem.W.codeRec_of KX hcd) (hb _ _ _ _ ?_)
 refine wpAny_newFunctionEnv_cells S.kind hkind λenv he s1 x=>?_
 subst he
 refine ⟨lim.keeps x.toInCall.keep,codeAny_func ?_⟩
 obtain ⟨t,ht,hq⟩:=hbody A outer s H vs Q E (hr.deeper _) hsp
 have I:Inv (cX CX P w K mg base N qual scope f cdv A outer s H E) [] (eJ N vs) H s1:=inv_start S hr.hd e0 hl r x
 refine wpAny_mono (ht [] s1 (eJ N vs) H _ I hq) (λfl s' hs=>?_) λe s' hs=>hs
 have fin:∀ {σ':St} {H':Hp} {v:V} {u:Value},Inv (cX CX P w K mg base N qual scope f cdv A outer s H E) [] σ' H' s'->k9 v u->Q v H'->CE outer P w H s Q u s':=
  λ{σ' H' v u} J rv q=>⟨v,H',J.os,J.bare,J.base,J.hok,rv,q⟩
 cases fl with
 | ret u=>
  obtain ⟨v,σ',H',J,rv,q⟩:=hs
  exact fin J rv q
 | next=>
  obtain ⟨σ',H',J,q⟩:=hs
  exact fin (v:=V.non) (u:=Value.none) J rfl q
 | brk=>
  obtain ⟨_,_,_,q⟩:=hs
  exact False.elim q
 | cont=>
  obtain ⟨_,_,_,q⟩:=hs
  exact False.elim q
section
variable {X:Cx} {x:Str} {p pos:Pos} {e:Expr} {es:List Expr} {t:TA} {id T:String} {r:List V->Hp->VK->Prop}
def tCB (r:List V->Hp->VK->Prop) (t:TA):TE:=λσ H Q=>t σ H λvs H1=>r vs H1 Q
theorem cI (hc:cE X (.builtin id) r) (hg:Gl X x) (hm:X.mg x=none) (hv:bootBuiltins x=some (.builtin id)) (ha:PA X (e::es) t) (hn:x ≠ "__name__":=by decide) (hdb:(x == ("__debug__" : Str))=false:=by decide)
  (he:starEach (e::es) X.env=(false,eval e X.env)::starEach es X.env:=by rfl) (hpl:(backTo pos (starEach es X.env)).any (·.1)=false:=by rfl):PE X (.Call (.Name x p) (e::es) [] pos) (tCB r t):=by
 intro pins s σ H Q I h
 refine wpAny_Call_Name_kw (eR I hg hm hv ?_ hn hdb)
 exact PyProof.Rows.callWith_builtin1 (thn (ha pos pins s σ H _ I h) λus s1 ⟨vs,H1,I1,r1,q1⟩=>hc pins s1 σ H1 vs us Q I1 r1 q1) he hpl
theorem aI (hc:cE X (.type T) r) (hg:Gl X x) (hm:X.mg x=none) (hv:bootBuiltins x=some (.type T)) (ha:PA X (e::es) t) (hn:x ≠ "__name__":=by decide) (hdb:(x == ("__debug__" : Str))=false:=by decide)
  (he:starEach (e::es) X.env=(false,eval e X.env)::starEach es X.env:=by rfl) (hpl:(backTo pos (starEach es X.env)).any (·.1)=false:=by rfl):PE X (.Call (.Name x p) (e::es) [] pos) (tCB r t):=by
 intro pins s σ H Q I h
 refine wpAny_Call_Name_kw (eR I hg hm hv ?_ hn hdb)
 exact PyProof.Rows.callWith_type1 (thn (ha pos pins s σ H _ I h) λus s1 ⟨vs,H1,I1,r1,q1⟩=>hc pins s1 σ H1 vs us Q I1 r1 q1) he hpl
end
end L2
namespace HT
open PySem PyProof.Rows
def lexLt:List Int->List Int->Bool
 | [],[]=>false
 | [],_::_=>true
 | _::_,[]=>false
 | x::xs,y::ys=>if x=y then lexLt xs ys else decide (x<y)
theorem lexLt_cons (x y:Int) (xs ys:List Int):lexLt (x::xs) (y::ys)=if x=y then lexLt xs ys else decide (x<y):=rfl
theorem jk:lexLt [] []=false:=rfl
theorem i4 (y:Int) (ys:List Int):lexLt [] (y::ys)=true:=rfl
theorem iS (x:Int) (xs:List Int):lexLt (x::xs) []=false:=rfl
theorem eqAt_int (A:Around) (s:Shared) (a:Int) (t:Tok) (c:Int) (u:Tok):∃ e,SeqAt.EqAt A s (.int a t) (.int c u) e/\(e=true↔a=c):=
 ⟨(a == c),SeqAt.EqAt.int_int a t c u,by simp⟩
theorem rcLt_int (A:Around) (s:Shared) (a:Int) (t:Tok) (c:Int) (u:Tok) (prog:Program) (w:World) (E:Value->Shared->Prop) (Q:Value->Shared->Prop) (h:Q (.bool (decide (a<c))) s) :
  wpAny (model prog w) A (richCompare .Lt (.int a t) (.int c u)) Q E s:=
 (PyProof.Rows.lt_int h:wpAny (model prog w) A (compareOp .Lt (.int a t) (.int c u)) Q E s)
section
open PySem.SeqAt
open PySem.AutoSeq1 (wpAny_loadPart')
open PySem.MeetsSeq PySem.MeetsSeq2 PySem.MeetsSeq3
theorem jp (l b:Addr) (items items2:Array Value) (n n2:Nat) (dd dd2:Option Addr) (sl sl2:Array (Option Value)) (ns ms:List Int) (hi:IntsAre items.toList ns) (hj:IntsAre items2.toList ms) :
  Meets (Builtin.«tuple.__lt__» ⟨[.ref l,.ref b],[]⟩)
   (λ_ R s=>s.heap.get? l=some { cls:=.type "tuple",dict:=dd,data:=.seq items n,slots:=sl }/\s.heap.get? b=some { cls:=.type "tuple",dict:=dd2,data:=.seq items2 n2,slots:=sl2 }/\
    R (.ok (.ret (.bool (lexLt ns ms)))) s):=
 .of_wp λprog w A R s h=>by
  obtain ⟨hp,g,d,tk,os⟩:=s; obtain ⟨hl,hb,h⟩:=h
  have f2:=AutoSeq1.sub_tuple_tuple
  have z1:items.size=ns.length:=by rw [<- hi.length]; simp
  have z2:items2.size=ms.length:=by rw [<- hj.length]; simp
  wp_walk using wpAny_loadPart' hl,wpAny_loadPart' hb,wpAny_forIn_list _ (λrest b s'=>b.1=none/\s'=⟨hp,g,d,tk,os⟩/\∃ (vs ws:List Value) (ns' ms':List Int),rest=vs.zip ws/\
   IntsAre vs ns'/\IntsAre ws ms'/\ns'.length+items2.size=ms'.length+items.size/\R (.ok (.ret (.bool (lexLt ns' ms')))) ⟨hp,g,d,tk,os⟩) _
  case turn=>
   rintro ⟨y,x⟩ rest b s' ⟨hb',rfl,vs,ws,ns',ms',hz,hvi,hwi,hlen,hR⟩
   cases hvi with
   | nil=>rw [List.zip_nil_left] at hz; cases hz
   | cons a t hvi'=>
    cases hwi with
    | nil=>rw [List.zip_nil_right] at hz; cases hz
    | cons c u hwi'=>
     rw [List.zip_cons_cons] at hz
     injection hz with hyx hrest
     injection hyx with hy hx
     subst hy hx
     rw [lexLt_cons] at hR
     simp only [length_cons] at hlen
     obtain ⟨e,he,hiff⟩:=eqAt_int A.in1 ⟨hp,g,d,tk,os⟩ a t c u
     refine wpAny_bind (he prog w _ _ ?_)
     cases e with
     | true=>
      rw [if_pos (hiff.mp rfl)] at hR
      wp_walk
      exact ⟨rfl,rfl,_,_,_,_,hrest,hvi',hwi',by omega,hR⟩
     | false=>
      rw [if_neg (λq=>absurd (hiff.mpr q) Bool.false_ne_true)] at hR
      have hri:=rcLt_int A.in1 ⟨hp,g,d,tk,os⟩ a t c u prog w
      wp_walk using hri
      exact ⟨_,rfl,by simpa using hR⟩
  case fin=>
   rintro ⟨b1,b2⟩ s' ⟨hb',rfl,vs,ws,ns',ms',hz,hvi,hwi,hlen,hR⟩
   simp only at hb'
   subst hb'
   have hv:lexLt ns' ms'=decide (items.size<items2.size):=by
    cases hvi with
    | nil=>
     cases hwi with
     | nil=>
      simp only [length_nil] at hlen
      rw [jk]
      exact (decide_eq_false (by omega)).symm
     | cons c u hw=>
      simp only [length_nil,length_cons] at hlen
      rw [i4]
      exact (decide_eq_true (by omega)).symm
    | cons a t hv=>
     cases hwi with
     | nil=>
      simp only [length_nil,length_cons] at hlen
      rw [iS]
      exact (decide_eq_false (by omega)).symm
     | cons c u hw=>
      rw [List.zip_cons_cons] at hz
      cases hz
   rw [hv] at hR
   wp_walk
   exact ⟨_,rfl,by simpa [Builtin.Tuple.tupleCompareSizes] using hR⟩
  case h=>
   exact ⟨rfl,rfl,items.toList,items2.toList,ns,ms,rfl,hi,hj,by omega,h⟩
end
section
variable {prog:Program} {w:World} {A:Around} {E:Value->Shared->Prop} {s:Shared}
theorem lt_tupInts {l b:Addr} {items items2:Array Value} {ns ms:List Int} {Q:Value->Shared->Prop} (hl:IsTup s.heap l items) (hb:IsTup s.heap b items2) (hi:IntsAre items.toList ns) (hj:IntsAre items2.toList ms)
  (hu:A.units<cLine) (h:Q (.bool (lexLt ns ms)) s):wpAny (model prog w) A (compareOp .Lt (.ref l) (.ref b)) Q E s:=by
 obtain ⟨⟨cls,dd,data,sl⟩,ho,hc,n,hd⟩:=id hl
 obtain ⟨⟨cls2,dd2,data2,sl2⟩,ho2,hc2,n2,hd2⟩:=id hb
 simp only at hc hd hc2 hd2
 subst hc hd hc2 hd2
 exact richCompare_meets_room (op:=.Lt) ⟨_,ho,rfl⟩ ⟨_,ho2,rfl⟩ PySem.F.slot_tuple_lt PySem.F.entry_tuple_lt (PySem.F.args_tuple_lt_2 _ _) (jp l b items items2 n n2 dd dd2 sl sl2 ns ms hi hj)
  ⟨ho,ho2,show Value.bool (lexLt ns ms) ≠ Value.notImplemented/\Q (.bool (lexLt ns ms)) s from ⟨(λx=>nomatch x),h⟩⟩ hu
def sIx (n d:Nat):Option Int->Nat
 | none=>d
 | some v=>if v<0 then (v+(n:Int)).toNat else min v.toNat n
end
end HT
namespace L2
open PySem PySem.Spec PyProof.Rows
abbrev TO:=St->Hp->(Option Int->Hp->Prop)->Prop
def PO (X:Cx) (e:Option Expr) (t:TO):Prop:=
 ∀ (pins:List (Addr × Obj)) (s:Shared) (σ:St) (H:Hp) (Q:Option Int->Hp->Prop),Inv X pins σ H s->t σ H Q->
  wpAny (model X.prog X.w) X.A (evalPart e X.env) (λu s'=>∃ o H',Inv X pins σ H' s'/\IsPart u o/\Q o H') X.xe s
def tNoPart:TO:=λ_ H Q=>Q none H
def tPart (t:TE):TO:=λσ H Q=>t σ H λx H1=>∃ i,x=.int i/\Q (some i) H1
theorem iw {ns:List Int}:∀ {us:List Value},kY (ns.map V.int) us->IntsAre us ns:=by
 induction ns with
 | nil=>intro us r; rw [map_nil] at r; cases r; exact .nil
 | cons n ns ih=>
  intro us r
  rw [map_cons] at r
  cases r with
  | cons r1 r2=>
   obtain ⟨t,e⟩:=r1
   subst e
   exact .cons n t (ih r2)
section
variable {X:Cx} {e:Expr} {te:TE} {lo hi:Option Expr} {tl th:TO} {pos p2:Pos}
theorem e9:PO X none tNoPart:=by
 intro pins s σ H Q I h
 rw [evalPart_none]
 exact wpAny_pure ⟨none,H,I,.none,h⟩
theorem bZ (h:PE X e te):PO X (some e) (tPart te):=by
 intro pins s σ H Q I hw
 rw [evalPart_some]
 refine thn (h pins s σ H _ I hw) λu s1 ⟨x,H1,I1,r1,q1⟩=>?_
 obtain ⟨i,rfl,q⟩:=q1
 obtain ⟨t,rfl⟩:=r1
 exact ⟨some i,H1,I1,.int i t,q⟩
def SlR (X:Cx) (r:V->Option Int->Option Int->Hp->VK->Prop):Prop:=
 ∀ (pins:List (Addr × Obj)) (s:Shared) (σ:St) (H:Hp) (x:V) (v vl vu:Value) (lo hi:Option Int) (sl:Addr) (Q:VK),Inv X pins σ H s->k9 x v->s.heap.IsSliceOf sl vl vu .none->IsPart vl lo->IsPart vu hi->r x lo hi H Q->
  ∃ T id,typeLookup (.type T) "__getitem__" = pure (some (.builtin id))/\s.TypeIs v T/\wpAny (model X.prog X.w) X.A (getItem v (.ref sl)) (EP X pins σ Q) X.xe s
def tSl (r:V->Option Int->Option Int->Hp->VK->Prop) (te:TE) (tl th:TO):TE:=λσ H Q=>te σ H λx H1=>tl σ H1 λl H2=>th σ H2 λu H3=>r x l u H3 Q
theorem dn {r:V->Option Int->Option Int->Hp->VK->Prop} (hr:SlR X r) (he:PE X e te) (hl:PO X lo tl) (hu:PO X hi th):PE X (.Subscript e (.Slice lo hi none p2) pos) (tSl r te tl th):=by
 intro pins s σ H Q I h
 refine Subscript_ (thn (he pins s σ H _ I h) λv s1 ⟨x,H1,I1,r1,q1⟩=>?_)
 refine wpAny_Slice (thn (hl pins s1 σ H1 _ I1 q1) λvl s2 ⟨l,H2,I2,pl,q2⟩=>thn (hu pins s2 σ H2 _ I2 q2) λvu s3 ⟨u,H3,I3,pu,q3⟩=>?_)
 rw [evalPart_none]
 refine wpAny_pure ?_
 have I4:Inv X pins σ H3 { s3 with heap:=s3.heap.push { cls:=.type "slice",data:=.fields #[vl,vu,.none] } }:=I3.kept (t':=s3.toks) λb ob q=>get?_push_of_some _ q
 obtain ⟨T,id,hT,ht,hg⟩:=hr pins { s3 with heap:=s3.heap.push { cls:=.type "slice",data:=.fields #[vl,vu,.none] } } σ H3 x v vl vu l u s3.heap.objs.size Q I4 r1 (Heap.IsSliceOf.new ..) pl pu q3
 show wpAny (model X.prog X.w) X.A (subscriptTail e (.Slice lo hi none p2) v (.ref s3.heap.objs.size)) (EP X pins σ Q) X.xe { s3 with heap:=s3.heap.push { cls:=.type "slice",data:=.fields #[vl,vu,.none] } }
 exact tail_any (ops:=[.ref s3.heap.objs.size,v]) ht hT hg (by with_unfolding_all rfl)
def cutV (xs:List V) (lo hi:Option Int):List V:=(xs.drop (HT.sIx xs.length 0 lo)).take (HT.sIx xs.length xs.length hi-HT.sIx xs.length 0 lo)
theorem cutV_length (xs:List V) (lo hi:Option Int):(cutV xs lo hi).length<=xs.length:=by
 unfold cutV
 rw [length_take,List.length_drop]
 omega
end
def ixN (n:Nat) (i:Int):Option Nat:=if 0<=i then (if i<n then some i.toNat else none) else if -(n:Int)<=i then some (i+n).toNat else none
def atI {α:Type} (xs:List α) (i:Int):Option α:=(ixN xs.length i).bind λj=>xs[j]?
theorem ixN_seq {n:Nat} {i:Int} {j:Nat} (h:ixN n i=some j):seqIndex? i n=some j/\j<n/\-(n:Int)<=i/\i<n:=by
 unfold ixN at h
 by_cases h0:0<=i
 ·rw [if_pos h0] at h
  by_cases h1:i<n
  ·rw [if_pos h1] at h
   have e:i.toNat=j:=Option.some.inj h
   exact ⟨by rw [seqIndex_of h0 h1,e],by omega,by omega,h1⟩
  ·rw [if_neg h1] at h; cases h
 ·rw [if_neg h0] at h
  by_cases h1:-(n:Int)<=i
  ·rw [if_pos h1] at h
   have e:(i+n).toNat=j:=Option.some.inj h
   exact ⟨by rw [seqIndex_neg (by omega) h1,e],by omega,h1,by omega⟩
  ·rw [if_neg h1] at h; cases h
theorem j7 {α:Type} {xs:List α} {i:Int} {v:α} (h:atI xs i=some v):∃ j,seqIndex? i xs.length=some j/\xs[j]? = some v/\j<xs.length/\-(xs.length:Int)<=i/\i<xs.length:=by
 unfold atI at h
 cases e:ixN xs.length i with
 | none=>rw [e] at h; cases h
 | some j=>
  rw [e] at h
  obtain ⟨h1,h2,h3,h4⟩:=ixN_seq e
  exact ⟨j,h1,h,h2,h3,h4⟩
theorem ay {α:Type} {xs:List α} {j:Nat} {v:α} (h:xs[j]? = some v):atI xs (j:Int)=some v:=by
 have hj:j<xs.length:=(List.getElem?_eq_some_iff.mp h).1
 have e:ixN xs.length (j:Int)=some j:=by
  unfold ixN
  rw [if_pos (by omega),if_pos (by omega)]; simp
 unfold atI; rw [e]; exact h
def PlainIx (b:Expr):Prop:=∀ o i,subscripted b false o i=operate [o,i] (getItem o i)
def IxR (X:Cx) (r:R2):Prop:=
 ∀ (value slice:Expr) (pins:List (Addr × Obj)) (s:Shared) (σ:St) (H:Hp) (x y:V) (v u:Value) (Q:VK),Inv X pins σ H s->k9 x v->k9 y u->r x y H Q->
  subscripted slice false v u=operate [v,u] (getItem v u)->wpAny (model X.prog X.w) X.A (subscriptTail value slice v u) (EP X pins σ Q) X.xe s
def MtR (X:Cx) (id:String) (r:V->List V->Hp->VK->Prop):Prop:=
 ∀ (pins:List (Addr × Obj)) (s:Shared) (σ:St) (H:Hp) (x:V) (xs:List V) (v:Value) (us:List Value) (Q:VK),Inv X pins σ H s->k9 x v->kY xs us->r x xs H Q->
  wpAny (model X.prog X.w) X.A (call (.builtin id) (v::us)) (EP X pins σ Q) X.xe s
section
variable {X:Cx} {a b:Expr} {ta tb:TE} {pos:Pos}
theorem aA {r:R2} (hr:IxR X r) (ha:PE X a ta) (hb:PE X b tb) (hs:PlainIx b):PE X (.Subscript a b pos) (tOp r ta tb):=by
 intro pins s σ H Q I h
 exact Subscript_ (binT ha hb I h λv u s2 x y H2 I2 rx ry q=>hr a b pins s2 σ H2 x y v u Q I2 rx ry q (hs _ _))
def rIxL (K:Frag):R2:=λx y H Q=>∃ p xs i v,x=.ref p/\y=.int i/\SqL K H p xs/\atI xs i=some v/\Q v H
def rIxT (K:Frag):R2:=λx y H Q=>∃ p xs i v,x=.ref p/\y=.int i/\SqT K H p xs/\atI xs i=some v/\Q v H
def rIxS:R2:=λx y H Q=>∃ z i c,x=.str z/\y=.int i/\z.length<=sizeLine/\atI z.cps.toList i=some c/\Q (.str ⟨#[c]⟩) H
theorem ix_list:IxR X (rIxL X.K):=by
 intro value slice pins s σ H x y v u Q I rx ry h hs
 obtain ⟨p,xs,i,z,rfl,rfl,hq,he,q⟩:=h
 cases rx
 obtain ⟨t,rfl⟩:=ry
 obtain ⟨its,r,pl,hz⟩:=I.list hq
 obtain ⟨j,h1,h2,h3,h4,h5⟩:=j7 he
 obtain ⟨w,ew,rw'⟩:=r.get h2
 have hl:=r.length
 have hn:=gH
 have fin:EP X pins σ Q w s:=⟨z,H,I,rw',q⟩
 by_cases h0:0<=i
 ·have hj:i.toNat=j:=by
   rw [seqIndex_of h0 h5] at h1
   exact Option.some.inj h1
  exact item_listR pl.isList h0 (by omega) (by rw [hj]; simpa using ew) fin hs
 ·have hj:(i+(its.toArray.size:Int)).toNat=j:=by
   rw [seqIndex_neg (by omega) h4] at h1
   rw [size_toArray,<- hl]
   exact Option.some.inj h1
  exact subscriptTail_builtinR (x:=w) pl.isList.typeIs slot_list_getitem.lookup
   (wpAny_getItem_list_neg (Q:=λr s'=>r=w/\EP X pins σ Q r s') pl.isList (by omega) (by rw [size_toArray]<;>omega) (by omega) (by rw [hj]; simpa using ew) ⟨rfl,fin⟩) hs
theorem ix_tup:IxR X (rIxT X.K):=by
 intro value slice pins s σ H x y v u Q I rx ry h hs
 obtain ⟨p,xs,i,z,rfl,rfl,hq,he,q⟩:=h
 cases rx
 obtain ⟨t,rfl⟩:=ry
 obtain ⟨its,r,pl,hz⟩:=I.tuple hq
 obtain ⟨j,h1,h2,h3,h4,h5⟩:=j7 he
 obtain ⟨w,ew,rw'⟩:=r.get h2
 have hl:=r.length
 have hn:=gH
 have fin:EP X pins σ Q w s:=⟨z,H,I,rw',q⟩
 exact subscriptTail_builtinR (x:=w) pl.typeIs slot_tuple_getitem.lookup
  (getItem_tuple (j:=j) (Q:=λr s'=>r=w/\EP X pins σ Q r s') pl (by omega) (by omega) (by rw [size_toArray,<- hl]; exact h1) (by simpa using ew) ⟨rfl,fin⟩) hs
theorem kP:IxR X rIxS:=by
 intro value slice pins s σ H x y v u Q I rx ry h hs
 obtain ⟨z,i,c,rfl,rfl,hz,he,q⟩:=h
 obtain ⟨t,rfl⟩:=rx
 obtain ⟨t',rfl⟩:=ry
 obtain ⟨j,h1,h2,h3,h4,h5⟩:=j7 he
 have hl:z.cps.toList.length=z.length:=by simp [Str.length]
 rw [hl] at h1 h4 h5
 have hn:=gH
 exact tail_any (typeIs_str s z t) slot_str_getitem.lookup (getItem_str (c:=c) (by
  have e1:decide (i < -(2 ^ 63:Int))=false:=decide_eq_false (by omega)
  have e2:decide (i ≥ 2 ^ 63)=false:=decide_eq_false (by omega)
  rw [e1,e2,Bool.or_false]) (by rw [h1]; simpa using h2) ⟨.str ⟨#[c]⟩,H,I.tok _,⟨_,rfl⟩,q⟩) hs
theorem mapSeq_set (its:List Value) (n j:Nat) (u:Value):Obj.mapSeq (·.setIfInBounds j u) { cls:=.type "list",data:=.seq its.toArray n }={ cls:=.type "list",data:=.seq (its.set j u).toArray n }:=by
 simp [Obj.mapSeq]
theorem Inv.lst {pins:List (Addr × Obj)} {σ:St} {H:Hp} {s:Shared} {p:Addr} {xs:List V} (I:Inv X pins σ H s) (h:H p=some (.lst xs)) :
  ∃ (its:List Value) (n:Nat),kY xs its/\s.heap.get? p=some { cls:=.type "list",data:=.seq its.toArray n }/\xs.length<=sizeLine:=by
 obtain ⟨z,its,n,r,e⟩:=I.hok p _ h
 exact ⟨its,n,r,e,z⟩
theorem Inv.lstUpd {pins:List (Addr × Obj)} {σ:St} {H:Hp} {s:Shared} {p:Addr} {xs ys:List V} {its its':List Value} {n n':Nat} {f:Obj->Obj} (I:Inv X pins σ H s) (h:H p=some (.lst xs))
  (ho:s.heap.get? p=some { cls:=.type "list",data:=.seq its.toArray n }) (hf:f { cls:=.type "list",data:=.seq its.toArray n }={ cls:=.type "list",data:=.seq its'.toArray n' }) (r:kY ys its') (hz:ys.length<=sizeLine) (t:Nat) :
  Inv X pins σ (upd H p (.lst ys)) { s with heap:=s.heap.update p f,toks:=t }:=by
 have e:(s.heap.update p f).get? p=some { cls:=.type "list",data:=.seq its'.toArray n' }:=by
  rw [get?_update_self f ho (by rw [hf]<;>rfl),hf]
 refine I.write (x:=p) (e:=p) (by rw [h]; trivial) (.inl rfl) (λb u hb q=>(get?_update_other _ _ (Ne.symm hb)).trans q) ⟨_,e⟩ ?_
 exact ⟨hz,its',n',r,e⟩
def rSetL:V->V->V->Hp->(Hp->Prop)->Prop:=λo i v H Q=>∃ p xs k j,o=.ref p/\i=.int k/\H p=some (.lst xs)/\ixN xs.length k=some j/\Q (upd H p (.lst (xs.set j v)))
theorem f9:PSet X rSetL:=by
 intro pins s σ H o i v ov iv u Q I ro ri rv h
 obtain ⟨p,xs,k,j,rfl,rfl,hp,hj,q⟩:=h
 cases ro
 obtain ⟨t,rfl⟩:=ri
 obtain ⟨its,n,r,ho,hz⟩:=I.lst hp
 obtain ⟨h1,h2,h3,h4⟩:=ixN_seq hj
 have hl:=r.length
 have hn:=gH
 have I':Inv X pins σ (upd H p (.lst (xs.set j v))) { s with heap:=s.heap.update p (Obj.mapSeq (·.setIfInBounds j u)) }:=
  I.lstUpd hp ho (mapSeq_set its n j u) (r.set rv j) (by rw [List.length_set]; exact hz) s.toks
 by_cases h0:0<=k
 ·have hk:k.toNat=j:=by
   rw [seqIndex_of h0 h4] at h1
   exact Option.some.inj h1
  exact PySem.W.ki_setAt ho h0 (by omega) (by rw [size_toArray,<- hl]; exact h4) (by rw [hk]; exact ⟨_,I',q⟩)
 ·have hk:(k+(its.toArray.size:Int)).toNat=j:=by
   rw [seqIndex_neg (by omega) h3] at h1
   rw [size_toArray,<- hl]
   exact Option.some.inj h1
  exact PySem.W.ki_setBack ho (by omega) (by rw [size_toArray,<- hl]; exact h3) (by omega) (by rw [hk]; exact ⟨_,I',q⟩)
theorem kC (lo hi:Option Int) (n:Nat):(sliceBounds lo hi none n).1=((HT.sIx n 0 lo:Nat):Int)/\(sliceBounds lo hi none n).2.1=((HT.sIx n n hi:Nat):Int)/\(sliceBounds lo hi none n).2.2=1:=by
 refine ⟨?_,?_,rfl⟩
 ·cases lo with
  | none=>simp [sliceBounds,HT.sIx]
  | some i=>
   simp only [sliceBounds,HT.sIx,Option.getD_none,show (1:Int) > 0 by decide,if_true]
   by_cases h:i<0
   ·simp only [h,if_true]<;>omega
   ·simp only [h,if_false]<;>omega
 ·cases hi with
  | none=>simp [sliceBounds,HT.sIx]
  | some i=>
   simp only [sliceBounds,HT.sIx,Option.getD_none,show (1:Int) > 0 by decide,if_true]
   by_cases h:i<0
   ·simp only [h,if_true]<;>omega
   ·simp only [h,if_false]<;>omega
theorem jm (its:List Value) (lo hi:Option Int):slicePick its.toArray lo hi none=((its.drop (HT.sIx its.length 0 lo)).take (HT.sIx its.length its.length hi-HT.sIx its.length 0 lo)).toArray:=by
 obtain ⟨h1,h2,h3⟩:=kC lo hi its.toArray.size
 unfold slicePick
 rw [h1,h2,h3]
 simp only [sliceRange_one,pick_run,size_toArray]<;>rfl
def rSlL (K:Frag):V->Option Int->Option Int->Hp->VK->Prop:=λx lo hi H Q=>∃ a xs,x=.ref a/\SqL K H a xs/\∀ p,H p=none->Q (.ref p) (upd H p (.lst (cutV xs lo hi)))
theorem sl_list:SlR X (rSlL X.K):=by
 intro pins s σ H x v vl vu lo hi sl Q I rx hs pl pu h
 obtain ⟨a,xs,rfl,hx,q⟩:=h
 cases rx
 obtain ⟨its,r,ht,hz⟩:=I.list hx
 have hlen:=r.length
 refine ⟨"list",_,slot_list_getitem.lookup,ht.isList.typeIs,?_⟩
 refine wpAny_getItem_list_slice ht.isList hs pl pu .none (by simp) ?_ (by rw [size_toArray]<;>omega)
 rw [jm,<- hlen]
 refine ⟨.ref s.heap.objs.size,_,I.laid (t':=s.toks) (o:=.lst (cutV xs lo hi)) (λb ob q=>get?_push_of_some _ q) (Nat.le_refl _) ?_,rfl,q _ (I.hok.fresh (Nat.le_refl _))⟩
 exact ⟨Nat.le_trans (cutV_length xs lo hi) hz,_,0,(r.drop (HT.sIx xs.length 0 lo)).take (HT.sIx xs.length xs.length hi-HT.sIx xs.length 0 lo),get?_push_size _ rfl⟩
theorem kK:cE X (.builtin "len") (λxs H Q=>∃ p ys,xs=[.ref p]/\(SqL X.K H p ys\/SqT X.K H p ys)/\Q (.int ys.length) H):=by
 intro pins s σ H xs us Q I r h
 obtain ⟨p,ys,rfl,hq,q⟩:=h
 obtain ⟨u,rfl,rx⟩:=eG r
 cases rx
 have hn:=gH
 rcases hq with hq | hq
 ·obtain ⟨its,r',pl,hz⟩:=I.list hq
  have hlen:=r'.length
  exact Calls.call_len_list pl.isList (by simp only [size_toArray]<;>omega) ⟨.int ys.length,H,I.tok _,⟨s.toks+1,by rw [size_toArray,hlen]⟩,q⟩
 ·obtain ⟨its,r',pl,hz⟩:=I.tuple hq
  have hlen:=r'.length
  exact len_tuple pl (by simp only [size_toArray]<;>omega) ⟨.int ys.length,H,I.tok _,⟨s.toks+1,by rw [size_toArray,hlen]⟩,q⟩
theorem kT:cE X (.builtin "len") (λxs H Q=>∃ z,xs=[.str z]/\z.length<=sizeLine/\Q (.int z.length) H):=by
 intro pins s σ H xs us Q I r h
 obtain ⟨z,rfl,hz,q⟩:=h
 obtain ⟨u,rfl,t,rfl⟩:=eG r
 have hn:=gH
 exact len_str (by omega) ⟨.int z.length,H,I.tok _,⟨_,rfl⟩,q⟩
theorem j5:cE X (.type "list") (λxs H Q=>∃ p ys,xs=[.ref p]/\(SqL X.K H p ys\/SqT X.K H p ys)/\∀ l,H l=none->Q (.ref l) (upd H l (.lst ys))):=by
 intro pins s σ H xs us Q I r h
 obtain ⟨p,ys,rfl,hq,q⟩:=h
 obtain ⟨u,rfl,rx⟩:=eG r
 cases rx
 have fin:∀ (its:List Value),kY ys its->ys.length<=sizeLine->∀ (h':Heap) (c':Nat),(∀ b o',s.heap.get? b=some o'->h'.get? b=some o')->
   h'.get? s.heap.objs.size=some { cls:=.type "list",dict:=none,data:=.seq its.toArray c',slots:=#[] }->EP X pins σ Q (.ref s.heap.objs.size) { s with heap:=h' }:=λits r' hz h' c' kp e=>
  ⟨.ref s.heap.objs.size,_,I.laid (t':=s.toks) kp (Nat.le_refl _) (show ls X.prog X.w _ h' _ (.lst ys) from ⟨hz,its,c',r',e⟩),rfl,q _ (I.hok.fresh (Nat.le_refl _))⟩
 rcases hq with hq | hq
 ·obtain ⟨its,r',pl,hz⟩:=I.list hq
  have hlen:=r'.length
  obtain ⟨o,ho,hc,n,hd⟩:=pl.isList
  exact call_list_seq p (.inl rfl) ho hc hd (λh' c' kp e=>fin its r' hz h' c' kp e) (by simp only [size_toArray]<;>omega)
 ·obtain ⟨its,r',pl,hz⟩:=I.tuple hq
  have hlen:=r'.length
  obtain ⟨o,ho,hc,n,hd⟩:=pl
  exact call_list_seq p (.inr rfl) ho hc hd (λh' c' kp e=>fin its r' hz h' c' kp e) (by simp only [size_toArray]<;>omega)
theorem jo:cE X (.type "tuple") (λxs H Q=>∃ p ys,xs=[.ref p]/\((SqL X.K H p ys/\∀ l,H l=none->Q (.ref l) (upd H l (.tup ys)))\/(SqT X.K H p ys/\Q (.ref p) H))):=by
 intro pins s σ H xs us Q I r h
 obtain ⟨p,ys,rfl,h⟩:=h
 obtain ⟨u,rfl,rx⟩:=eG r
 cases rx
 rcases h with ⟨hq,q⟩ | ⟨hq,q⟩
 ·obtain ⟨its,r',pl,hz⟩:=I.list hq
  have hlen:=r'.length
  refine call_tuple_list pl.isList (λh' kp=>?_) (by simp only [size_toArray]<;>omega)
  have I1:Inv X pins σ H { s with heap:=h' }:=I.kept (t':=s.toks) kp
  have I2:Inv X pins σ (upd H h'.objs.size (.tup ys)) { s with heap:=h'.push { cls:=.type "tuple",data:=.seq its.toArray } }:=
   I1.laid (t':=s.toks) (λb o e=>get?_push_of_some _ e) (Nat.le_refl _) (show ls X.prog X.w _ _ _ (.tup ys) from ⟨hz,its,r',IsTup.new _ _⟩)
  exact ⟨.ref h'.objs.size,_,I2,rfl,q _ (I1.hok.fresh (Nat.le_refl _))⟩
 ·obtain ⟨its,r',pl,hz⟩:=I.tuple hq
  exact call_tuple_same pl ⟨.ref p,H,I,rfl,q⟩
def tyV (K:Frag) (T:String) (x:V) (H:Hp):Prop:=match x with
 | .str _=>T = "str"
 | .int _=>T = "int"
 | .ref p=>(T = "list"/\∃ xs,SqL K H p xs)\/(T = "tuple"/\∃ o,K.lookup p=some o/\o.cls=.type "tuple"/\o.dict=none) \/
   (T = "dict"/\((∃ kvs,H p=some (.dK kvs))\/∃ kvs,H p=some (.dT kvs)))\/(T = "set"/\∃ S n,H p=some (.set S n))
 | _=>False
theorem tyV_is {pins:List (Addr × Obj)} {σ:St} {H:Hp} {s:Shared} {T:String} {x:V} {v:Value} (I:Inv X pins σ H s) (r:k9 x v) (ty:tyV X.K T x H) :
  s.TypeIs v T/\∀ a,v=.ref a->∃ ob,s.heap.get? a=some ob/\ob.dict=none:=by
 cases x with
 | str z=>
  obtain ⟨t,rfl⟩:=r
  cases (show T = "str" from ty)
  exact ⟨typeIs_str s z t,λ_ e=>nomatch e⟩
 | int i=>
  obtain ⟨t,rfl⟩:=r
  cases (show T = "int" from ty)
  exact ⟨typeIs_int s i t,λ_ e=>nomatch e⟩
 | ref p=>
  cases r
  rcases ty with ⟨rfl,xs,hq⟩ | ⟨rfl,o,hk,hc,hd⟩ | ⟨rfl,hk⟩ | ⟨rfl,S,n,hk⟩
  ·obtain ⟨its,_,pl,_⟩:=I.list hq
   refine ⟨pl.isList.typeIs,λa e=>?_⟩
   cases e
   obtain ⟨o,n,e,c,hd,_⟩:=pl
   exact ⟨o,e,hd⟩
  ·refine ⟨⟨o,I.kIn p o hk,hc⟩,λa e=>?_⟩
   cases e
   exact ⟨o,I.kIn _ o hk,hd⟩
  ·have z:∃ o,s.heap.get? p=some o/\o.ExactDict:=by
    rcases hk with ⟨kvs,hk⟩ | ⟨kvs,hk⟩
    ·obtain ⟨_,_,_,_,o,_,_,e,ex,_⟩:=I.hok p _ hk
     exact ⟨o,e,ex⟩
    ·obtain ⟨_,_,_,_,o,_,_,e,ex,_⟩:=I.hok p _ hk
     exact ⟨o,e,ex⟩
   obtain ⟨o,e,ex⟩:=z
   refine ⟨⟨o,e,ex.1⟩,λa e2=>?_⟩
   cases e2
   exact ⟨o,e,ex.2.1⟩
  ·obtain ⟨o,_,_,_,e,ex,_⟩:=I.hok p _ hk
   refine ⟨⟨o,e,ex.1⟩,λa e2=>?_⟩
   cases e2
   exact ⟨o,e,ex.2.1⟩
 | _=>exact False.elim ty
def tBM (K:Frag) (T:String) (r:V->List V->Hp->VK->Prop) (to:TE) (t:TA):TE:=λσ H Q=>to σ H λx H1=>tyV K T x H1/\t σ H1 λxs H2=>r x xs H2 Q
variable {o e:Expr} {es:List Expr} {to:TE} {t:TA} {name:Str} {apos cpos:Pos} {T id:String} {r:V->List V->Hp->VK->Prop}
theorem fY (pa:PlainAttrs T) (slot:Slot T name id) (hty:typeOf (.builtin id)=pure (.type "method_descriptor")) (hm:MtR X id r) (ho:PE X o to) (ha:PA X (e::es) t)
  (hbase:attributeBase o name X.env (eval o X.env)=eval o X.env:=by rfl)
  (hfew:((backTo cpos (starEach (e::es) X.env)).all (λx=>!x.1) && (backToKw cpos (keywordEach [] X.env)).all (λx=>x.1.isSome)
   && decide ((e::es).length+([]:List Keyword).length+(if ([]:List Keyword).isEmpty then 0 else 1)<30))=true:=by rfl)
  (hline:(apos.endLine == cpos.line)=true:=by rfl) (hs:starEach (e::es) X.env=(false,eval e X.env)::starEach es X.env:=by rfl) (hplain:(backTo cpos (starEach es X.env)).any (·.1)=false:=by rfl) :
  PE X (.Call (.Attribute o name apos) (e::es) [] cpos) (tBM X.K T r to t):=by
 intro pins s σ H Q I h
 refine wpAny_Call_method_late hbase hfew hline rfl (thn (ho pins s σ H _ I h) λv s1 ⟨x,H1,I1,r1,ty,q1⟩=>?_)
 obtain ⟨h1,h2⟩:=tyV_is I1 r1 ty
 refine ⟨T,id,pa,slot,hty,h1,h2,?_⟩
 have hA:=ha cpos pins s1 σ H1 _ I1 q1
 rw [hs] at hA ⊢
 refine Calls.callWith_builtin (by show (false || (backTo cpos (starEach es X.env)).any (·.1))=false; rw [hplain]<;>rfl) (Calls.evalArgs_plain ?_)
 exact thn hA λus s2 ⟨vs,H2,I2,r2,q2⟩=>hm pins s2 σ H2 x vs v us Q I2 r1 r2 q2
end
def MtM (X:Cx) (id:String) (r:V->List V->Hp->VK->Prop):Prop:=
 ∀ (pins:List (Addr × Obj)) (s:Shared) (σ:St) (H:Hp) (x:V) (xs:List V) (v:Value) (us:List Value) (Q:VK),Inv X pins σ H s->k9 x v->kY xs us->r x xs H Q->
  wpAny (model X.prog X.w) X.A (call (.builtin id) (v::us)) (EP X pins σ Q) X.xe s
theorem kY.one:∀ {x:V} {us:List Value},kY [x] us->∃ u,us=[u]/\k9 x u
 | _,_,.cons r .nil=>⟨_,rfl,r⟩
theorem kY.two:∀ {x y:V} {us:List Value},kY [x,y] us->∃ u v,us=[u,v]/\k9 x u/\k9 y v
 | _,_,_,.cons r (.cons q .nil)=>⟨_,_,rfl,r,q⟩
theorem kY.reverse {xs:List V} {us:List Value} (h:kY xs us):kY xs.reverse us.reverse:=by
 induction h with
 | nil=>exact .nil
 | cons r t ih=>rw [List.reverse_cons,List.reverse_cons]; exact kY.append ih (.cons r .nil)
section
variable {X:Cx} {pins:List (Addr × Obj)} {σ:St} {H:Hp} {s:Shared} {l b:Addr} {xs ys zs:List V}
theorem Inv.lset {its its':List Value} {n:Nat} {f:Array Value->Array Value} {t':Nat} (I:Inv X pins σ H s) (hH:H l=some (.lst xs))
  (e:s.heap.get? l=some { cls:=.type "list",data:=.seq its.toArray n }) (hf:f its.toArray=its'.toArray) (hv:kY ys its') (hz:ys.length<=sizeLine) :
  Inv X pins σ (upd H l (.lst ys)) { s with heap:=s.heap.update l (Obj.mapSeq f),toks:=t' }:=by
 have q:=PySem.IsL.update e f
 rw [hf] at q
 refine I.write (x:=l) (e:=l) (by rw [hH]; exact trivial) (.inl rfl) (λb' u hb hu=>(get?_update_other s.heap (Obj.mapSeq f) (Ne.symm hb)).trans hu) ⟨_,q⟩ ?_
 exact ⟨hz,its',_,hv,q⟩
theorem Inv.lnew {its:List Value} {t':Nat} (I:Inv X pins σ H s) (hv:kY ys its) (hz:ys.length<=sizeLine) :
  Inv X pins σ (upd H s.heap.objs.size (.lst ys)) { s with heap:=s.heap.push { cls:=.type "list",data:=.seq its.toArray },toks:=t' }:=
 I.laid (λ_ _ q=>get?_push_of_some _ q) (Nat.le_refl _) ⟨hz,its,0,hv,get?_push_size _ rfl⟩
theorem Inv.fresh (I:Inv X pins σ H s):H s.heap.objs.size=none:=I.hok.fresh (Nat.le_refl _)
theorem Inv.lstM (I:Inv X pins σ H s) (hH:H l=some (.lst xs)):xs.length<=sizeLine/\∃ (its:List Value) (n:Nat),kY xs its/\xs.length=its.length/\s.heap.get? l=some { cls:=.type "list",data:=.seq its.toArray n }:=by
 obtain ⟨z,its,n,r,e⟩:=I.hok l _ hH
 exact ⟨z,its,n,r,r.length,e⟩
theorem notLongL {n:Nat} (h:n<=sizeLine):Builtin.List.listTooLong n=false:=by
 unfold Builtin.List.listTooLong
 exact decide_eq_false (by omega)
end
section
variable {X:Cx}
def rAppend:V->List V->Hp->VK->Prop:=λx vs H Q=>∃ l xs y,x=.ref l/\vs=[y]/\H l=some (.lst xs)/\xs.length<sizeLine/\Q .non (upd H l (.lst (xs++[y])))
theorem jB:MtM X "list.append" rAppend:=by
 intro pins s σ H x vs v us Q I rx rv h
 obtain ⟨l,xs,y,rfl,rfl,hH,hz,q⟩:=h
 cases rx
 obtain ⟨u,rfl,ru⟩:=rv.one
 obtain ⟨z,its,n,r,hl,e⟩:=I.lstM hH
 refine call_meets F.slot_list_append ⟨_,e,rfl⟩ F.entry_list_append (F.args_list_append_2 _ _) (PySem.list_append l its.toArray n u (by rw [size_toArray]; omega)) ⟨e,?_⟩
 refine ⟨.non,_,I.lset (its':=its++[u]) hH e (by simp) (r.append (.cons ru .nil)) ?_,rfl,q⟩
 rw [length_append,length_singleton]
 omega
def rExtend:V->List V->Hp->VK->Prop:=λx vs H Q=>∃ l b xs zs,x=.ref l/\vs=[.ref b]/\H l=some (.lst xs)/\H b=some (.lst zs)/\xs.length+zs.length<=sizeLine/\Q .non (upd H l (.lst (xs++zs)))
theorem mt_extend:MtM X "list.extend" rExtend:=by
 intro pins s σ H x vs v us Q I rx rv h
 obtain ⟨l,b,xs,zs,rfl,rfl,hH,hB,hz,q⟩:=h
 cases rx
 obtain ⟨u,rfl,ru⟩:=rv.one
 cases ru
 obtain ⟨z,its,n,r,hl,e⟩:=I.lstM hH
 obtain ⟨z2,its2,n2,r2,hl2,e2⟩:=I.lstM hB
 have hsz:its.toArray.size+its2.toArray.size<=sizeLine:=by rw [size_toArray,size_toArray]; omega
 have hlong:¬ (!its.toArray.isEmpty && Builtin.List.listTooLong (its.toArray.size+its2.toArray.size))=true:=by
  rw [notLongL hsz,Bool.and_false]
  exact Bool.false_ne_true
 refine call_meets F.slot_list_extend ⟨_,e,rfl⟩ F.entry_list_extend (F.args_list_extend_2 _ _)
  (AutoSeq1.list_extend_list_list_0 l its.toArray n b its2.toArray n2 hlong (by rw [size_toArray]; omega) (by omega)) ⟨e,e2,?_⟩
 refine ⟨.non,_,I.lset (its':=its++its2) hH e (by simp) (r.append r2) ?_,rfl,q⟩
 rw [length_append]
 omega
def rCat:R2:=λx y H Q=>∃ l b xs zs,x=.ref l/\y=.ref b/\H l=some (.lst xs)/\H b=some (.lst zs)/\xs.length+zs.length<=sizeLine/\∀ p,H p=none->Q (.ref p) (upd H p (.lst (xs++zs)))
theorem op_cat:OpR X (binaryOp .Add) rCat:=by
 intro pins s σ H x y v u Q I rx ry h
 obtain ⟨l,b,xs,zs,rfl,rfl,hH,hB,hz,q⟩:=h
 cases rx
 cases ry
 obtain ⟨z,its,n,r,hl,e⟩:=I.lstM hH
 obtain ⟨z2,its2,n2,r2,hl2,e2⟩:=I.lstM hB
 refine PySem.P.add_list e e2 ?_ (by rw [size_toArray,size_toArray]; omega)
 have ea:its.toArray++its2.toArray=(its++its2).toArray:=by simp
 rw [ea]
 exact ⟨.ref _,_,I.lnew (t':=s.toks) (r.append r2) (by rw [length_append]; omega),rfl,q _ I.fresh⟩
end
end L2
namespace Att
open PySem PySem.W PySem.Calls PyProof.Rows
theorem hV {P:Params} {h:Heap}:∀ (ns:List Int) (vs:List Value),WellAll P h vs (ns.map WData.int)->IntsAre vs ns:=by
 intro ns
 induction ns with
 | nil=>
  intro vs w
  rw [map_nil] at w
  cases w
  exact .nil
 | cons n ns ih=>
  intro vs w
  rw [map_cons] at w
  cases w with
  | cons a b=>
   cases a
   exact .cons _ _ (ih _ b)
theorem script_of {l:OpenLaw} {n:Nat} (hn:l.most=some n) {P:Params} {h:Heap} {args:List WData} {vals:List Value}
  (hpre:l.row.toRowW.claim.pre args=true) (hwl:WellAll P h vals args) :
  ∃ a vs ns,vals=[Value.ref a]/\args=[WData.list (ns.map WData.int)]/\h.get? a=some { cls:=.type "list",data:=.seq vs.toArray }/\IntsAre vs ns/\ns.length<=n:=by
 have hsh:WShape.hasAll [] args [.list .int]=true:=(pre_splitW hpre).1
 have hc:l.pre.holds [] { args:=args }=true:=(pre_splitW hpre).2
 obtain ⟨d,r,rfl,h1,h2⟩:=hasAllW_cons hsh
 obtain rfl:=hasAllW_nil h2
 obtain ⟨xs,rfl,h3⟩:=hasW_list h1
 obtain ⟨ns,rfl⟩:=items_int h3
 have hlen:ns.length<=n:=by
  unfold OpenLaw.pre at hc
  have h4:(WTm.not (.lt (.lit (.int (n:Int))) (.len (.arg 0)))).holds [] { args:=[.list (ns.map .int)] }=true:=by
   have h4:=(holds_andW hc).1
   rw [hn] at h4
   exact h4
  have h5:=condW_of h4 (w_not (w_lt w_lit (w_len_list (w_arg rfl))))
  rw [length_map] at h5
  refine Nat.le_of_not_lt λq=>?_
  have q':(n:Int)<((ns.length:Nat):Int):=by omega
  first
   | (rw [decide_eq_true q'] at h5; exact absurd h5 (by decide))
   | (simp at h5; omega)
 cases hwl with
 | cons w1 w2=>
  cases w2
  cases w1 with
  | list ho hall=>exact ⟨_,_,ns,rfl,rfl,ho,hV ns _ hall,hlen⟩
theorem post_true (l:OpenLaw) (args:List WData):l.row.toRowW.claim.post args (.bool true) args=true:=
 postW_of (r:=l.row.toRowW) (X:=(true == true))
  (show WShape.has [] (.bool true) .bool=true by first | rfl | decide | simp [WShape.has,WShape.arms,WShape.armsAll])
  (show (WTm.eq .res (.lit (.bool true))).value [] { args:=args,res:=some (.bool true),after:=args }=some (.bool (true == true)) from w_eq_bool (w_res rfl) w_lit) rfl
theorem attach_call {l:OpenLaw} {n:Nat} {q:Program} {loose:List Str} {XP:(Str->Option Value)->Heap->Prop} {YP:World->Heap->Prop} {d:DefRec}
  (hn:l.most=some n) (hdf:d.params.defaults=[])
  (call:∀ (w:World) (s₀ s₁:Shared) (mg mb:Str->Option Value) (fa:Addr) (o:Obj) (pm cd doc:Value) (a:Addr) (vs:List Value) (ns:List Int),
   Ground q loose [] XP w s₀ mg mb s₁.heap->YP w s₁.heap->
   s₁.heap.get? fa=some o->o.data=.func (docDef d.name d.params d.body d.scope pm cd doc)->s₁.heap.CodeRec cd d.name->mg d.name=some (.ref fa)->
   s₁.heap.get? a=some { cls:=.type "list",data:=.seq vs.toArray }->IntsAre vs ns->ns.length<=n->s₁.gens = #[]->
   codeAny (model l.prog w) callerA (.call (.ref fa) ⟨[.ref a],[]⟩) (λr s'=>r=.ok (.ret (.bool true))/\OldK s₁.heap s'.heap/\s'.os=s₁.os/\AllBare s'.gens) s₁) :
  WalkO q loose XP YP l.row.toRowW d [] (λf vs=>PySem.call f vs):=by
 intro w s₀ s₁ mg mb G Y fa o pm cd doc dV kV ho hd hcd hD hmg hg args vals as hpre hlay hrd hwl hlo
 obtain rfl:dV=.none:=Dflts.none hD hdf
 obtain rfl:kV=.none:=Dflts.noKw hD
 obtain ⟨a,vs,ns,rfl,rfl,hobj,hints,hlen⟩:=script_of hn hpre hwl
 refine enter_call (codeAny_mono (call w s₀ s₁ mg mb fa o pm cd doc a vs ns G Y ho (fd_plain hd) hcd hmg hobj hints hlen hg) λr s' hq=>?_)
 obtain ⟨rfl,h2,h3,h4⟩:=hq
 exact ⟨.inl ⟨.bool true,.bool true,[],rfl,λ_=>rfl,.bool true,post_true l _,λ_=>⟨List.Pairwise.nil,λ_ hm=>(nomatch hm)⟩⟩,h2,h3,h4⟩
section
variable {prog:Program} {w:World} {A:Around} {E:Value->Shared->Prop} {s:Shared} {K:Frag}
end
end Att
namespace L2
open PySem PySem.Spec PyProof.Rows
theorem jU:∀ {vs:List Value} {ns:List Int},IntsAre vs ns->kY (ns.map V.int) vs
 | _,_,.nil=>.nil
 | _,_,.cons n t h=>.cons ⟨t,rfl⟩ (jU h)
def Only (H:Hp):Prop:=∀ b,H b=none\/∃ o xs,H b=some (.frz o (.lst xs))
theorem law_call {P:Program} {w:World} {K:Frag} {mg mb:Str->Option Value} {CX:CXT} {k:Nat} {fa a:Addr} {fd:FuncData} {x:Str} {sp:Sp} {s₁:Shared} {vs:List Value} {ns:List Int}
  (KX:K.In s₁.heap) (hns:s₁.heap.Ns mainGlobals mg) (hb:s₁.heap.Ns builtinsNs mb) (hbb:∀ x:Str,x ≠ "__name__"->mb x=bootBuiltins x) (hlim:s₁.heap.NoLimit) (hg:s₁.gens = #[])
  (ha:s₁.heap.get? a=some { cls:=.type "list",data:=.seq vs.toArray }) (hi:IntsAre vs ns) (hl:ns.length<=sizeLine) (hr:lA k callerA)
  (F:∀ base:Heap,K.In base->base.Ns mainGlobals mg->kZ P w K mg base CX k fa fd [x] sp) (hbind:∀ (s:Shared) (u:Value),BindsTo s fd ⟨[u],[]⟩ [(x,u)])
  (hsp:∀ H:Hp,Only H->SqL K H a (ns.map V.int)->sp [.ref a] H (λv _=>v=.bl true) λ_ _ _=>False)
  (hCX:∀ H e s',CX [] H s₁ (λ_ _ _=>False) e s'->False) :
  codeAny (model P w) callerA (.call (.ref fa) ⟨[.ref a],[]⟩) (λr s'=>r=.ok (.ret (.bool true))/\OldK s₁.heap s'.heap/\s'.os=s₁.os/\AllBare s'.gens) s₁:=by
 have rv:=jU hi
 have lenV:=hi.length
 have core:∀ H:Hp,Only H->SqL K H a (ns.map V.int)->HOk P w H s₁.heap->(∀ b,H b ≠ none->b=a)->(H a ≠ none->K.lookup a=none)->
   codeAny (model P w) callerA (.call (.ref fa) ⟨[.ref a],[]⟩) (λr s'=>r=.ok (.ret (.bool true))/\OldK s₁.heap s'.heap/\s'.os=s₁.os/\AllBare s'.gens) s₁:=by
  intro H hO hS hok hA hK
  have base_of:∀ {b:Addr} {o:Obj},s₁.heap.get? b=some o->H b=none->(kN s₁.heap H).get? b=some o:=λe n=>hidT_get e n
  have noA:∀ {b:Addr} {o:Obj} {es:Array DictEntry} {ep:Nat},s₁.heap.get? b=some o->o.data=.dict es ep->H b=none:=λ{b o es ep} e d=>by
   cases q:H b with
   | none=>rfl
   | some u=>
    have e':b=a:=hA b (by rw [q]; simp)
    subst e'
    rw [ha] at e; cases e
    have d':Data.seq vs.toArray _=Data.dict es ep:=d
    cases d'
  have nsK:∀ {b:Addr} {m:Str->Option Value},s₁.heap.Ns b m->(kN s₁.heap H).Ns b m:=λ{b m} ⟨o,es,ep,e,d,r⟩=>⟨o,es,ep,base_of e (noA e d),d,r⟩
  have hKb:K.In (kN s₁.heap H):=λb o e=>base_of (KX b o e) (by
   cases q:H b with
   | none=>rfl
   | some u=>
    have e':b=a:=hA b (by rw [q]; simp)
    subst e'
    rw [hK (by rw [q]; simp)] at e; cases e)
  have hM:Mod K mg (kN s₁.heap H):=⟨hKb,nsK hns,⟨mb,nsK hb,hbb⟩,let ⟨mc,h1,h2⟩:=hlim; ⟨mc,nsK h1,h2⟩⟩
  have e0:Env0 P w K mg (kN s₁.heap H) callerA [] s₁ H:=⟨rfl,hM,λb o e=>of_hidT e,Nat.le_of_eq (hidT_size _ _),trivial,λb hb=>absurd (show b ∈ ([]:List Addr) from hb) (by simp),hok,.of_eq hg⟩
  refine codeAny_mono ((F _ hKb (nsK hns)).run callerA [] s₁ H ⟨[.ref a],[]⟩ [.ref a] [.ref a] _ _ hr e0 (hbind s₁ (.ref a)) (.cons rfl .nil) (hsp H hO hS)) λr s' h=>?_
  cases r with
  | error e=>exact (hCX H e s' h).elim
  | ok fl=>
   cases fl with
   | next=>exact False.elim h
   | brk=>exact False.elim h
   | cont=>exact False.elim h
   | ret u=>
    obtain ⟨v,H',os,bare,un,hok',r',q⟩:=h
    have q':v=.bl true:=q
    subst q'
    obtain rfl:u=Value.bool true:=r'
    refine ⟨rfl,OldK.of_keep λb o e=>?_,os,bare⟩
    cases q:H b with
    | none=>exact un.keep b o e q (by intro z; exact absurd (show b ∈ ([]:List Addr) from z) (by simp)) (by simp)
    | some u=>
     rcases hO b with z | ⟨ob,xs,z⟩
     ·rw [q] at z; cases z
     ·have z2:=un.frzs b ob _ z
      obtain ⟨e1,_⟩:=hok b _ z
      obtain ⟨e2,_⟩:=hok' b _ z2
      rw [e] at e1; cases e1
      exact e2
 cases hk:K.lookup a with
 | some o=>
  have e:=KX a o hk
  rw [ha] at e
  cases e
  refine core (λ_=>none) (λ_=>.inl rfl) (.inr ⟨_,vs.toArray,_,hk,rfl,rfl,rfl,by rw [size_toArray,lenV]; exact hl,by simpa using rv⟩) (λb u z=>by have z':(none:Option HO)=some u:=z; cases z') (λb z=>absurd rfl z) λz=>absurd rfl z
 | none=>
  refine core (λb=>if b=a then some (.frz { cls:=.type "list",data:=.seq vs.toArray } (.lst (ns.map V.int))) else none) (λb=>?_) (.inl (.inr ⟨{ cls:=.type "list",data:=.seq vs.toArray },if_pos rfl⟩)) (λb u z=>?_) (λb z=>?_) λ_=>hk
  ·by_cases hb:b=a
   ·exact .inr ⟨_,_,if_pos hb⟩
   ·exact .inl (if_neg hb)
  ·by_cases hb:b=a
   ·have z':=(if_pos hb).symm.trans z
    cases z'
    subst hb
    exact ⟨ha,by rw [length_map]; exact hl,vs,_,rv,ha⟩
   ·have z':=(if_neg hb).symm.trans z
    cases z'
  ·by_cases hb:b=a
   ·exact hb
   ·exact absurd (if_neg hb) z
theorem walk_of {l:PySem.W.OpenLaw} {n k:Nat} {q:Program} {loose:List Str} {XP:(Str->Option Value)->Heap->Prop} {YP:World->Heap->Prop} {d:DefRec} {K:Params->Frag} {CX:World->CXT} {sp:World->Sp} {x:Str}
  (hn:l.most=some n) (hn2:n<=sizeLine) (hdf:d.params.defaults=[]) (hr:lA k callerA)
  (hY:∀ (w:World) (h:Heap),YP w h->(K w.params).In h)
  (F:∀ (w:World) (mg:Str->Option Value) (fa:Addr) (h:Heap),(K w.params).In h->h.Ns mainGlobals mg->mg d.name=some (.ref fa)->
   ∃ fd:FuncData,(∀ (s:Shared) (u:Value),BindsTo s fd ⟨[u],[]⟩ [(x,u)])/\
    ∀ base:Heap,(K w.params).In base->base.Ns mainGlobals mg->kZ l.prog w (K w.params) mg base (CX w) k fa fd [x] (sp w))
  (hsp:∀ (w:World) (H:Hp) (a:Addr) (ns:List Int),ns.length<=n->Only H->SqL (K w.params) H a (ns.map V.int)->sp w [.ref a] H (λv _=>v=.bl true) λ_ _ _=>False)
  (hCX:∀ (w:World) (H:Hp) (s:Shared) (e:Value) (s':Shared),CX w [] H s (λ_ _ _=>False) e s'->False) :
  PySem.W.WalkO q loose XP YP l.row.toRowW d [] (λf vs=>PySem.call f vs):=by
 refine Att.attach_call hn hdf λw s₀ s₁ mg mb fa o pm cd doc a vs ns G Y ho hd hcd hmg hobj hints hlen hg=>?_
 have KX:=hY w _ Y
 obtain ⟨fd,hb,hF⟩:=F w mg fa _ KX G.T.g hmg
 exact law_call KX G.T.g G.T.b G.T.builtins G.T.nolimit hg hobj hints (Nat.le_trans hlen hn2) hr hF hb (λH hO hS=>hsp w H a ns hlen hO hS) λH e s'=>hCX w H s₁ e s'
def inClass (s:Stmt) (j:Nat):Stmt:=match s with
 | .ClassDef _ _ _ body _ _ _ _ _ _ _=>body.getD j (.Pass ⟨0,0,0,0⟩)
 | _=>.Pass ⟨0,0,0,0⟩
def aM (s:Stmt):Arguments:=match s with
 | .FunctionDef _ a _ _ _ _ _ _ _ _=>a
 | _=>{ posonlyargs:=[],args:=[],vararg:=none,kwonlyargs:=[],kw_defaults:=[],kwarg:=none,defaults:=[] }
def aJ (s:Stmt):List Stmt:=match s with
 | .FunctionDef _ _ b _ _ _ _ _ _ _=>b
 | _=>[]
def aj (s:Stmt):Scope:=match s with
 | .FunctionDef _ _ _ _ _ _ sc _ _ _=>sc
 | _=>{ kind:=.function,names:=[],isGenerator:=false,isCoroutine:=false }
abbrev CX0:CXT:=λ_ _ _ _ _ _=>False
abbrev E0:XK:=λ_ _ _=>False
theorem pass0 {X:Cx}:dh CX0 X E0:=λ_ _ _ _ _ _ _ h=>h.elim
structure Fun (K:Frag) (x qual:Str) (st:Stmt) (f:Addr) (fd:FuncData):Prop where
 ex:∃ (oc:Value) (od:Option Addr) (kV doc pm:Value) (an:Option Addr) (cdv ct:Value) (osl:Array (Option Value)),
  fd=fnOf x qual (aM st) (aJ st) (aj st) .none kV doc pm an cdv ct/\K.lookup f=some ⟨oc,od,.func fd,osl⟩/\codeIn K cdv qual=true
 kp:keepIn K (.ref f)=true
section
variable {P:Program} {w:World} {K:Frag} {mg:Str->Option Value} {base:Heap}
theorem Fun.ok {x qual:Str} {st:Stmt} {f:Addr} {fd:FuncData} {N ps:List Str} {k:Nat} {sp:Sp} (F:Fun K x qual st f fd) (S:kX N ps (aj st)) (len:∀ vs H Q E,sp vs H Q E->vs.length=ps.length)
  (hbody:∀ (cdv:Value) (A:Around) (outer:List Env) (s:Shared) (H:Hp) (vs:List V) (Q:VK) (E:XK),lA k (A.deeper (envOfC qual (aj st) s.heap.objs.size f cdv))->sp vs H Q E->
   ∃ t,PSs (cX CX0 P w K mg base N qual (aj st) f cdv A outer s H E).nox (aJ st) t/\t { nx:=λ_ H'=>Q .non H',rt:=Q } (eJ N vs) H):kZ P w K mg base CX0 (k+1) f fd ps sp:=by
 obtain ⟨oc,od,kV,doc,pm,an,cdv,ct,osl,rfl,lk,hcd⟩:=F.ex
 refine fn_of lk hcd S len λA outer s H vs Q E hr hsp=>?_
 obtain ⟨t,h,q⟩:=hbody cdv A outer s H vs Q E hr hsp
 exact ⟨t,h.nox,q⟩
theorem Fun.binds {x qual:Str} {st:Stmt} {f:Addr} {fd:FuncData} {ps:List Str} (F:Fun K x qual st f fd)
  (h:∀ (kV doc pm:Value) (an:Option Addr) (cdv ct:Value) (us:List Value),us.length=ps.length->bindArgs (fnOf x qual (aM st) (aJ st) (aj st) .none kV doc pm an cdv ct) ⟨us,[]⟩=pure (ps.zip us)):lL K fd ps []:=by
 obtain ⟨oc,od,kV,doc,pm,an,cdv,ct,osl,rfl,lk,hcd⟩:=F.ex
 exact .all (h kV doc pm an cdv ct)
theorem cC {x qual:Str} {st:Stmt} {f:Addr} {oc:Value} {od an:Option Addr} {osl:Array (Option Value)} {kV doc pm cdv ct:Value} (l:K.lookup f=some ⟨oc,od,.func (fnOf x qual (aM st) (aJ st) (aj st) .none kV doc pm an cdv ct),osl⟩)
  (c:codeIn K cdv qual=true) (k:keepIn K (.ref f)=true):Fun K x qual st f (fnOf x qual (aM st) (aJ st) (aj st) .none kV doc pm an cdv ct):=⟨⟨oc,od,kV,doc,pm,an,cdv,ct,osl,rfl,l,c⟩,k⟩
end
theorem gG {n:Nat} (h:n<=1000):n<sizeLine:=Nat.lt_of_le_of_lt h (by decide)
section
variable {X:Cx}
theorem pv (i:Nat) {x:Str} {pos:Pos} (hN:X.N[i]? = some x:=by rfl) (hv:Vis X.env.scope x:=by first | exact Or.inl rfl | exact Or.inr (Or.inl rfl) | exact Or.inr (Or.inr rfl)) (hd:(x == ("__debug__" : Str))=false:=by decide)
  (hcd:(x == ("__classdict__" : Str))=false:=by decide):PE X (.Name x pos) (tVar i):=pe_var hN hv hd hcd
end
theorem be {A B:Prop} (h:B):if false=true then A else B:=by
 rw [if_neg Bool.false_ne_true]
 exact h
theorem bG {A B:Prop} (h:A):if true=true then A else B:=by
 rw [if_pos rfl]
 exact h
theorem aY {c A B:Prop} [Decidable c] (h1:c->A) (h2:¬ c->B):if c then A else B:=by
 by_cases h:c
 ·rw [if_pos h]
  exact h1 h
 ·rw [if_neg h]
  exact h2 h
theorem iteNS {c A B:Prop} [Decidable c] (hc:c) (h:B):if (!decide c)=true then A else B:=by
 rw [decide_eq_true hc]
 exact be h
def kW (H H':Hp):Prop:=∀ b o,H b=some o->H' b=some o
theorem kW.refl (H:Hp):kW H H:=λ_ _ h=>h
theorem kW.trans {H H1 H2:Hp} (a:kW H H1) (b:kW H1 H2):kW H H2:=λc o h=>b c o (a c o h)
theorem kW.free {H H':Hp} (e:kW H H') {l:Addr} (h:H' l=Option.none):H l=Option.none:=by
 cases q:H l with
 | none=>rfl
 | some o=>
  rw [e l o q] at h
  cases h
theorem kW.seq {K:Frag} {H H':Hp} {a:Addr} {xs:List V} (e:kW H H') (h:SqL K H a xs):SqL K H' a xs:=by
 rcases h with (h | ⟨o,h⟩) | h
 ·exact .inl (.inl (e _ _ h))
 ·exact .inl (.inr ⟨o,e _ _ h⟩)
 ·exact .inr h
section
variable {prog:Program} {w:World} {A:Around} {R:Result->Shared->Prop} {s:Shared}
theorem ko {elt target iter:Expr} {ifs:List Expr} {scope:Scope} {pos:Pos} {it acc:Value} {env:Env} (I:Nat->Shared->Prop)
  (turn:∀ n s,I n s->wpAny (model prog w) A (pyNext it) (λr s₁=>match r with
   | none=>R (.ok .next) s₁
   | some v=>wpAny (model prog w) A (letOwnedTupleGo target it v) (λ_ s₁'=>wpAny (model prog w) A (assign target env v) (λ_ s₂=>
     wpAny (model prog w) A (forIn ifs true λc r=>if r=true then do let ok <- isTrue c env (eval c env); pure (ForInStep.yield ok) else pure (ForInStep.yield r)) (λok s₃=>
      if ok=true then wpAny (model prog w) A (eval elt env) (λx s₄=>
       wpAny (model prog w) A (call (.builtin "list.append") [acc,x]) (λ_ s₅=>∃ m,m<n/\I m s₅) (λ_ _=>False) s₄) (λ_ _=>False) s₃
      else ∃ m,m<n/\I m s₃) (λ_ _=>False) s₂) (λ_ _=>False) s₁') (λ_ _=>False) s₁) (λ_ _=>False) s)
  (n:Nat) (h:I n s) :
  codeAny (model prog w) A (.compLoop (.ListComp elt [⟨target,iter,ifs,0⟩] scope pos) 0 it acc env) R s:=by
 refine codeAny_loop rfl I (λn s hI=>?_) n h
 show wpAny _ A ((compTurn (.ListComp elt [⟨target,iter,ifs,0⟩] scope pos) 0 it acc env).onRaise (λx=>do noteFrame x env; theTreesLotGoes x)) _ _ s
 refine wpAny_noted ?_
 rw [compTurn_list]
 refine wpAny_bind (wpAny_standAt (wpAny_bind (wpAny_mono (turn n s hI) (λr s₁ h₁=>?_) λ_ _ h'=>h'.elim)))
 cases r with
 | none=>exact wpAny_pure h₁
 | some v=>
  refine wpAny_bind (wpAny_mono h₁ (λ_ s₁' h₁'=>?_) λ_ _ h'=>h'.elim)
  refine wpAny_bind (wpAny_mono h₁' (λ_ s₂ h₂=>wpAny_bind (wpAny_mono h₂ (λok s₃ h₃=>?_) λ_ _ h'=>h'.elim)) λ_ _ h'=>h'.elim)
  cases ok with
  | false=>exact wpAny_pure ⟨rfl,h₃⟩
  | true=>
   exact wpAny_bind (wpAny_bind (wpAny_mono h₃ (λx s₄ h₄=>wpAny_bind (wpAny_mono h₄ (λ_ s₅ h₅=>wpAny_pure (wpAny_pure ⟨rfl,h₅⟩)) λ_ _ h'=>h'.elim)) λ_ _ h'=>h'.elim))
end
def cM (env:Env):List (Str × NameKind)->List (Str × Addr)->List (Str × Addr)
 | [],cs=>cs
 | (n,k)::r,cs=>cM env r (if k == .free then (n,(env.cells.lookup n).getD 0)::cs else cs)
theorem iI {env:Env}:∀ (l:List (Str × NameKind)) (cs:List (Str × Addr)),(∀ x ∈ l,x.2=.free->∃ c,env.cells.lookup x.1=some c)->
  (do let r <- forIn l cs (λ(x:Str × NameKind) (cs:List (Str × Addr))=>if (x.2 == .free)=true then do let a <- cellOf env x.1; pure (ForInStep.yield ((x.1,a)::cs)) else pure (ForInStep.yield cs)); pure r:Sem (List (Str × Addr)))=pure (cM env l cs)
 | [],cs,_=>rfl
 | (n,k)::r,cs,h=>by
  have ih:=λcs'=>iI (env:=env) r cs' λx hx=>h x (mem_cons_of_mem _ hx)
  rw [forIn_cons]
  cases hk:(k == NameKind.free) with
  | false=>
   simp only [hk,Bool.false_eq_true,if_false]
   show (do let r <- forIn r cs _; pure r:Sem _)=_
   rw [ih]
   simp only [cM,hk,Bool.false_eq_true,if_false]
  | true=>
   obtain ⟨c,hc⟩:=h (n,k) mem_cons_self (by simpa using hk)
   have hco:cellOf env n=pure c:=by unfold cellOf; simp only at hc; rw [hc]
   simp only [hk,if_true,hco]
   show (do let r <- forIn r ((n,c)::cs) _; pure r:Sem _)=_
   rw [ih]
   simp only at hc
   simp only [cM,hk,if_true,hc,Option.getD_some]
theorem iD {env:Env} {scope:Scope} (h:∀ x ∈ scope.names,x.2=.free->∃ c,env.cells.lookup x.1=some c):closureFor scope env=pure (cM env scope.names []):=by
 have q:=iI scope.names [] h
 unfold closureFor
 exact congrArg (λ(m:Sem (List (Str × Addr)))=>m >>= pure) q
theorem cls_in {env:Env}:∀ (l:List (Str × NameKind)) (cs:List (Str × Addr)) (n:Str) (c:Addr),(∀ x ∈ l,x.2=.free->∃ c,env.cells.lookup x.1=some c)->
  (cM env l cs).lookup n=some c->env.cells.lookup n=some c\/cs.lookup n=some c
 | [],cs,n,c,_,h=>.inr h
 | (m,k)::r,cs,n,c,hf,h=>by
  have ih:=cls_in r (if (k == .free)=true then (m,(env.cells.lookup m).getD 0)::cs else cs) n c (λx hx=>hf x (mem_cons_of_mem _ hx)) h
  cases hk:(k == NameKind.free) with
  | false=>
   simp only [hk,Bool.false_eq_true,if_false] at ih
   exact ih
  | true=>
   simp only [hk,if_true] at ih
   rcases ih with ih | ih
   ·exact .inl ih
   ·cases hx:n == m with
    | true=>
     simp only [lookup_cons,hx] at ih
     obtain ⟨c',hc'⟩:=hf (m,k) mem_cons_self (by simpa using hk)
     simp only at hc'
     rw [hc'] at ih
     have e:n=m:=by simpa using hx
     subst e
     exact .inl (hc'.trans ih)
    | false=>
     simp only [lookup_cons,hx] at ih
     exact .inr ih
theorem cls_keep {env:Env}:∀ (l:List (Str × NameKind)) (cs:List (Str × Addr)) (n:Str),(∃ c,cs.lookup n=some c)->∃ c,(cM env l cs).lookup n=some c
 | [],cs,n,h=>h
 | (m,k)::r,cs,n,⟨c,h⟩=>by
  refine cls_keep r _ n ?_
  by_cases hk:(k == NameKind.free)=true
  ·rw [if_pos hk]
   cases hx:n == m with
   | true=>exact ⟨(env.cells.lookup m).getD 0,by simp only [lookup_cons,hx]⟩
   | false=>exact ⟨c,by simp only [lookup_cons,hx]; exact h⟩
  ·rw [if_neg hk]
   exact ⟨c,h⟩
theorem j8 {env:Env}:∀ (l:List (Str × NameKind)) (cs:List (Str × Addr)) (n:Str),(n,NameKind.free) ∈ l->∃ c,(cM env l cs).lookup n=some c
 | [],_,_,h=>absurd h (by simp)
 | (m,k)::r,cs,n,h=>by
  rcases List.mem_cons.mp h with e | e
  ·cases e
   refine cls_keep r _ _ ?_
   exact ⟨_,by simp [lookup_cons]; rfl⟩
  ·exact j8 r _ n e
theorem cG {env:Env}:∀ (names:List (Str × NameKind)) (x:Str),
  (names.map λ(n,k)=>if (k == NameKind.free && env.scope.kind == .function && env.kindOf n == some .cell) then (n,NameKind.cell) else (n,k)).lookup x
   = (names.lookup x).map λk=>if (k == NameKind.free && env.scope.kind == .function && env.kindOf x == some .cell)=true then NameKind.cell else k
 | [],x=>rfl
 | (n,k)::r,x=>by
  have ih:=cG (env:=env) r x
  show List.lookup x ((if (k == NameKind.free && env.scope.kind == .function && env.kindOf n == some .cell)=true then (n,NameKind.cell) else (n,k))::_)=_
  cases hx:x == n with
  | true=>
   have e:x=n:=by simpa using hx
   subst e
   by_cases hc:(k == NameKind.free && env.scope.kind == .function && env.kindOf x == some .cell)=true
   ·rw [if_pos hc]; simp only [lookup_cons,hx,Option.map_some]; rw [if_pos hc]
   ·rw [if_neg hc]; simp only [lookup_cons,hx,Option.map_some]; rw [if_neg hc]
  | false=>
   by_cases hc:(k == NameKind.free && env.scope.kind == .function && env.kindOf n == some .cell)=true
   ·rw [if_pos hc]; simp only [lookup_cons,hx]; exact ih
   ·rw [if_neg hc]; simp only [lookup_cons,hx]; exact ih
def kO (outer scope:Scope):Bool:=
 scope.kind == .function && outer.kind == .function && scope.names.all λx=>x.2 != .cell && (x.2 != .local || scope.names.lookup x.1 == some .local) && (x.2 != .free || (outer.names.lookup x.1 == some .cell || outer.names.lookup x.1 == some .free))
def jv (XN N:List Str) (src:List (Option Nat)) (scope:Scope):Bool:=
 src.length == N.length && (List.range N.length).all λi=>match src[i]?.join with
  | none=>true
  | some j=>N[i]? == XN[j]? && (N[i]?).any λx=>scope.names.lookup x == some .free
def du (src:List (Option Nat)) (σ:St):St:=src.map λo=>o.bind λj=>(σ[j]?).join
def cxC (X:Cx) (N:List Str) (scope:Scope) (s:Shared) (H:Hp) (ex:List Addr):Cx where
 prog:=X.prog
 w:=X.w
 K:=X.K
 mg:=X.mg
 base:=X.base
 A:=X.A
 N:=N
 s₀:=s
 H₀:=H
 env:=compEnvC scope (cM X.env scope.names []) s.heap.objs.size X.env
 outer:=X.stack
 stack:=X.stack
 ex:=ex
 fn:=λ_=>false
 calm:=X.calm
 pn:=[]
 xe:=λ_ _=>False
structure lK (X:Cx) (scope:Scope):Prop where
 kind:scope.kind=.function
 nocell:∀ x ∈ scope.names,x.2 ≠ .cell
 names:∀ x ∈ scope.names,x.2=.local->scope.names.lookup x.1=some .local
 free:∀ x ∈ scope.names,x.2=.free->X.env.kindOf x.1=some .cell\/X.env.kindOf x.1=some .free
theorem jW {X:Cx} {scope:Scope} (h:kO X.env.scope scope=true):lK X scope:=by
 unfold kO at h
 simp only [Bool.and_eq_true,beq_iff_eq,all_eq_true,Bool.or_eq_true,bne_iff_ne] at h
 obtain ⟨⟨h1,_⟩,h2⟩:=h
 refine ⟨h1,λx hx=>(h2 x hx).1.1,λx hx e=>?_,λx hx e=>?_⟩
 ·rcases (h2 x hx).1.2 with z | z
  ·exact absurd e z
  ·exact z
 ·rcases (h2 x hx).2 with z | z
  ·exact absurd e z
  ·exact z
theorem lK.cells {X:Cx} {scope:Scope} (f:lK X scope) (ok:X.Ok):∀ x ∈ scope.names,x.2=.free->∃ c,X.env.cells.lookup x.1=some c:=λx hx e=>ok.has x.1 (f.free x hx e)
theorem lK.cl {X:Cx} {scope:Scope} (f:lK X scope) (ok:X.Ok) {n:Str} {c:Addr} (h:(cM X.env scope.names []).lookup n=some c):X.env.cells.lookup n=some c:=by
 rcases cls_in _ _ _ _ (f.cells ok) h with z | z
 ·exact z
 ·cases z
theorem lK.kf {X:Cx} {scope:Scope} (f:lK X scope) {x:Str} (h:(relabel scope X.env).names.lookup x=some .cell\/(relabel scope X.env).names.lookup x=some .free):scope.names.lookup x=some .free:=by
 unfold relabel at h
 simp only at h
 rw [cG] at h
 cases e:scope.names.lookup x with
 | none=>rw [e] at h; rcases h with z | z<;>cases z
 | some k=>
  rw [e] at h
  simp only [Option.map_some,Option.some.injEq] at h
  cases k with
  | free=>rfl
  | cell=>exact absurd rfl (f.nocell _ (PySem.mem_of_lookup e))
  | _=>simp at h
theorem lK.fk {X:Cx} {scope:Scope} {x:Str} (h:scope.names.lookup x=some .free):(relabel scope X.env).names.lookup x=some .cell\/(relabel scope X.env).names.lookup x=some .free:=by
 unfold relabel
 simp only
 rw [cG,h]
 simp only [Option.map_some,Option.some.injEq]
 split
 ·exact .inl rfl
 ·exact .inr rfl
theorem srcOk_ix {XN N:List Str} {src:List (Option Nat)} {scope:Scope} (h:jv XN N src scope=true):src.length=N.length/\∀ (i:Nat) (x:Str) (j:Nat),N[i]? = some x->src[i]? = some (some j)->XN[j]? = some x/\scope.names.lookup x=some .free:=by
 unfold jv at h
 simp only [Bool.and_eq_true,beq_iff_eq,all_eq_true] at h
 refine ⟨h.1,λi x j h1 h2=>?_⟩
 have hi:i<N.length:=(List.getElem?_eq_some_iff.mp h1).1
 have q:=h.2 i (List.mem_range.mpr hi)
 rw [h2,h1] at q
 simp only [Option.join_some,Bool.and_eq_true,beq_iff_eq,Option.any_some] at q
 exact ⟨q.1.symm,q.2⟩
section
variable {X:Cx} {pins:List (Addr × Obj)} {σ:St} {H:Hp} {s:Shared}
theorem comp_start {N:List Str} {src:List (Option Nat)} {scope:Scope} {ex:List Addr} {h1:Heap} {m:Str->Option Value} {tk:Nat} (I:Inv X pins σ H s) (f:lK X scope) (hsrc:jv X.N N src scope=true)
  (hex:∀ b ∈ ex,b<s.heap.objs.size/\b ≠ X.env.locals/\b ∉ X.fs/\(∀ x c,X.env.cells.lookup x=some c->c ≠ b)/\∀ o,X.base.get? b ≠ some o)
  (hn:h1.Ns s.heap.objs.size m) (hk:∀ b o,s.heap.get? b=some o->h1.get? b=some o) :
  Inv (cxC X N scope s H ex) [] (du src σ) H { s with heap:=h1,toks:=tk }:=by
 obtain ⟨hlen,hix⟩:=srcOk_ix hsrc
 have ok:=I.ok
 have cellL:∀ x c,(cM X.env scope.names []).lookup x=some c->∃ v,s.heap.IsCell c v:=λx c e=>I.cell x c (f.cl ok e)
 have cellLt:∀ x c,(cM X.env scope.names []).lookup x=some c->c<s.heap.objs.size:=λx c e=>by
  obtain ⟨v,o,ho,_⟩:=cellL x c e
  exact lt_size ho
 have fsL:∀ b ∈ frs X.stack,b ∈ X.env.locals::X.fs:=I.stkSub
 refine ⟨⟨ok.mod,f.kind,ok.glob,ok.blt,Nat.le_refl _,λx y c h1 h2=>ok.inj x y c (f.cl ok h1) (f.cl ok h2),λx hx=>?_,λx c hx=>?_,ok.hd,ok.frames,.inl rfl,λb hb=>⟨Nat.ne_of_lt (hex b hb).1,λx c e=>(hex b hb).2.2.2.1 x c (f.cl ok e)⟩,I.bs,Nat.le_trans ok.bsz I.sz,λb o e hb=>(hex b hb).2.2.2.2 o e,λb hb hb'=>?_,I.stack,I.stkFree⟩,
  rfl,I.bare,Un.kept hk,⟨m,hn,λi x v e1 e2 e3=>?_⟩,λx c e=>?_,I.hok.fresh (Nat.le_refl _),λx c e=>I.freeC x c (f.cl ok e),λp hp=>absurd (show p ∈ ([]:List (Addr × Obj)) from hp) (by simp),I.hok.kept hk,?_⟩
 ·exact j8 _ _ _ (PySem.mem_of_lookup (f.kf hx))
 ·cases hx
 ·rcases List.mem_cons.mp (fsL b hb') with z | z
  ·exact (hex b hb).2.1 z
  ·exact (hex b hb).2.2.1 z
 ·have e2':(du src σ)[i]? = some (some v):=e2
  unfold du at e2'
  rw [getElem?_map] at e2'
  cases hs:src[i]? with
  | none=>rw [hs] at e2'; cases e2'
  | some o=>
   rw [hs] at e2'
   cases o with
   | none=>cases e2'
   | some j=>
    obtain ⟨q1,q2⟩:=hix i x j e1 hs
    have e4:σ[j]? = some (some v):=by
     simp only [Option.map_some,Option.bind_some,Option.some.injEq] at e2'
     cases z:σ[j]? with
     | none=>rw [z] at e2'; cases e2'
     | some o=>rw [z] at e2'; simp only [Option.join_some] at e2'; rw [e2']
    have kx:=f.free (x,.free) (PySem.mem_of_lookup q2) rfl
    obtain ⟨mX,hnX,hl⟩:=I.loc
    obtain ⟨u,r,l⟩:=hl j x v q1 e4 (by rcases kx with z | z; exact .inr (.inl z); exact .inr (.inr z))
    refine ⟨u,r,.inr ⟨lK.fk (X:=X) q2,?_⟩⟩
    rcases l with ⟨l,_⟩ | ⟨_,c,ec,ic⟩
    ·rcases kx with z | z
     ·rw [z] at l; cases l
     ·rw [z] at l; cases l
    ·obtain ⟨c',hc'⟩:=j8 (env:=X.env) scope.names [] x (PySem.mem_of_lookup q2)
     have z:=f.cl ok hc'
     rw [ec] at z
     cases z
     obtain ⟨oc,ho,hd⟩:=ic
     exact ⟨c,hc',oc,hk c oc ho,hd⟩
 ·obtain ⟨v,o,ho,hd⟩:=cellL x c e
  exact ⟨v,o,hk c o ho,hd⟩
 ·show (du src σ).length=N.length
  unfold du
  rw [length_map]
  exact hlen
def PIf (X:Cx) (ifs:List Expr) (t:TT):Prop:=
 ∀ (pins:List (Addr × Obj)) (s:Shared) (σ:St) (H:Hp) (Q:Bool->Hp->Prop),Inv X pins σ H s->t σ H Q->
  wpAny (model X.prog X.w) X.A (forIn ifs true λc r=>if r=true then do let ok <- isTrue c X.env (eval c X.env); pure (ForInStep.yield ok) else pure (ForInStep.yield r)) (TP X pins σ Q) X.xe s
def tYes:TT:=λ_ H Q=>Q true H
theorem cN:PIf X [] tYes:=λpins s σ H Q I h=>wpAny_pure ⟨H,I,h⟩
theorem ii {c:Expr} {t:TT} (hc:PT X c t):PIf X [c] t:=by
 intro pins s σ H Q I h
 rw [forIn_cons]
 simp only [if_true]
 refine wpAny_bind (wpAny_bind (thn (hc pins s σ H Q I h) λb s1 q=>wpAny_pure ?_))
 exact wpAny_pure q
def dG (J:It) (src:List (Option Nat)) (g:TG) (tt:TT) (te:TE) (σ:St) (H1:Hp) (Q:VK):Prop:=∀ acc,H1 acc=none->
 ∃ W:Nat->Nat->St->Hp->Prop,(∃ m,W 0 m (du src σ) (upd H1 acc (.lst [])))/\∀ i m σ H,W i m σ H->
  (J.stop i H/\Q (.ref acc) H)\/(J.go i H/\∃ N:St->Hp->Prop,(∀ σ' H',N σ' H'->∃ m',m' < m/\W (i+1) m' σ' H')/\∀ x H',J.yld i H x H'->g x σ H' λσ2 H2=>tt σ2 H2 λb H3=>
   if b=true then te σ2 H3 λy H4=>∃ ys,H4 acc=some (.lst ys)/\ys.length<sizeLine/\N σ2 (upd H4 acc (.lst (ys++[y]))) else N σ2 H3)
def tComp (src:List (Option Nat)) (wi:TI) (g:TG) (tt:TT) (te:TE):TE:=λσ H Q=>wi σ H λJ H1=>dG J src g tt te σ H1 Q
theorem comp_run {elt tg iter:Expr} {ifs:List Expr} {scope:Scope} {pos:Pos} {N:List Str} {src:List (Option Nat)} {g:TG} {tt:TT} {te:TE} (use:Option (Value->Sem Unit)) (PQ:Value->Shared->Prop) (E:Value->Shared->Prop)
  (hcalm:X.calm=true) (f:lK X scope) (hsrc:jv X.N N src scope=true)
  (hb:∀ (s:Shared) (H:Hp) (ex:List Addr),PG (cxC X N scope s H ex) tg g/\PIf (cxC X N scope s H ex) ifs tt/\PE (cxC X N scope s H ex) elt te)
  {it:Addr} {fp:List Addr} {tn:Nat->Heap->Prop} {J:It} (I:Inv X pins σ H s) (T:kz X.prog X.w X.K tg J fp it tn) (st:tn 0 s.heap) (hf:∀ b ∈ fp,fN X pins H b) {Q:VK}
  (h:dG J src g tt te σ H Q)
  (hfin:∀ (acc C:Addr) (s':Shared) (H':Hp) (m:Str->Option Value),s'.heap.Ns C m->fN X pins H' C->(∀ h',Heap.SameBut C s'.heap h'->Inv X pins σ H' { s' with heap:=h' })->Q (.ref acc) H'->compPost (model X.prog X.w) X.A E use PQ (.ref acc) C (.ok .next) s') :
  wpAny (model X.prog X.w) X.A (newList []) (λacc s₃=>
   wpAny (model X.prog X.w) X.A (newFunctionEnv scope X.env.globals (cM X.env scope.names []) [] X.env.qual none .none (some X.env)) (λcenv s₄=>
    codeAny (model X.prog X.w) X.A (.compStart (.ListComp elt [⟨tg,iter,ifs,0⟩] scope pos) 0 (.ref it) acc { cenv with scope:=relabel scope X.env }) (compPost (model X.prog X.w) X.A E use PQ acc cenv.locals) s₄) E s₃) E s:=by
 have ok:=I.ok
 have I3:Inv X pins σ (upd H s.heap.objs.size (.lst [])) { s with heap:=s.heap.push { cls:=.type "list",data:=.seq ([]:List Value).toArray },toks:=s.toks }:=I.lnew (ys:=[]) (its:=[]) .nil (Nat.zero_le _)
 obtain ⟨W,⟨m0,w0⟩,turn⟩:=h s.heap.objs.size (I.hok.fresh (Nat.le_refl _))
 refine wpAny_newObj_type (wpAny_newFunctionEnv f.nocell (by intro y hy; simp at hy) (λh₁ hns₁ hsb₁=>?_) f.kind)
 dsimp only at hns₁ hsb₁ ⊢
 generalize hs3:({ s with heap:=s.heap.push { cls:=.type "list",data:=.seq ([]:List Value).toArray },toks:=s.toks }:Shared)=s3 at I3
 have e3:s3.heap=s.heap.push { cls:=.type "list",data:=.seq ([]:List Value).toArray }:=by rw [<- hs3]
 have hk:∀ b o,s3.heap.get? b=some o->h₁.get? b=some o:=λb o e=>by
  rw [e3] at e
  exact hsb₁.extBut b o (Nat.ne_of_lt (lt_size e)) (get?_push_of_some _ e)
 have up3:∀ b o,s.heap.get? b=some o->s3.heap.get? b=some o:=λb o e=>by rw [e3]; exact get?_push_of_some _ e
 have nacc:∀ b ∈ fp,b ≠ s.heap.objs.size:=λb hb z=>by
  obtain ⟨o,e,_⟩:=T.obj 0 _ st b hb
  exact absurd (lt_size e) (by rw [z]; exact Nat.lt_irrefl _)
 have hex:∀ b ∈ fp,b<s3.heap.objs.size/\b ≠ X.env.locals/\b ∉ X.fs/\(∀ x c,X.env.cells.lookup x=some c->c ≠ b)/\∀ o,X.base.get? b ≠ some o:=λb hb=>by
  obtain ⟨o,e,_⟩:=T.obj 0 _ st b hb
  obtain ⟨f0,f1,f2,f3,f4,f5⟩:=hf b hb
  refine ⟨lt_size (up3 b o e),f1,f2,f4,λo' z=>?_⟩
  rcases f3 with q | q
  ·exact ok.noex b o' z q
  ·exact absurd (Nat.lt_of_lt_of_le (lt_size (ok.bs b o' z).1) q) (Nat.lt_irrefl _)
 have hns₁':h₁.Ns s3.heap.objs.size (λx=>([]:List (Str × Value)).reverse.lookup x):=by rw [e3]; exact hns₁
 have IY0:Inv (cxC X N scope s3 (upd H s.heap.objs.size (.lst [])) fp) [] (du src σ) (upd H s.heap.objs.size (.lst [])) { s3 with heap:=h₁,toks:=s.toks+([]:List (Str × Value)).length }:=
  comp_start (tk:=s.toks+([]:List (Str × Value)).length) I3 f hsrc hex hns₁' hk
 generalize hY:cxC X N scope s3 (upd H s.heap.objs.size (.lst [])) fp=Y at IY0
 have hb':PG Y tg g/\PIf Y ifs tt/\PE Y elt te:=by rw [<- hY]; exact hb s3 _ fp
 obtain ⟨hg,ht,he⟩:=hb'
 have Yp:Y.prog=X.prog:=by rw [<- hY]; rfl
 have Yw:Y.w=X.w:=by rw [<- hY]; rfl
 have YK:Y.K=X.K:=by rw [<- hY]; rfl
 have YA:Y.A=X.A:=by rw [<- hY]; rfl
 have Yc:Y.calm=true:=by rw [<- hY]; exact hcalm
 have Yx:Y.xe=λ_ _=>False:=by rw [<- hY]; rfl
 have Ye:Y.env=compEnvC scope (cM X.env scope.names []) s3.heap.objs.size X.env:=by rw [<- hY]; rfl
 have Ys:Y.s₀=s3:=by rw [<- hY]; rfl
 have YH:Y.H₀=upd H s.heap.objs.size (.lst []):=by rw [<- hY]; rfl
 have Yf:Y.fs=frs X.stack:=by rw [<- hY]; rfl
 have Yex:Y.ex=fp:=by rw [<- hY]; rfl
 have Ypn:Y.pn=[]:=by rw [<- hY]; rfl
 have stat:∀ {H':Hp},(∀ b ∈ fp,H' b=none)->∀ b ∈ fp,fN Y [] H' b:=λ{H'} hn b hb=>by
  obtain ⟨x1,x2,x3,x4,x5⟩:=hex b hb
  refine ⟨hn b hb,?_,?_,.inl (by rw [Yex]; exact hb),?_,λp hp=>?_⟩
  ·rw [Ye]; exact Nat.ne_of_lt x1
  ·rw [Yf]
   intro z
   rcases List.mem_cons.mp (I.stkSub b z) with q | q
   ·exact x2 q
   ·exact x3 q
  ·rw [Ye]
   intro x c e
   exact x4 x c (f.cl ok e)
  ·rw [Ypn] at hp
   exact absurd hp (by simp)
 have loop:∀ s4:Shared,s4=({ s3 with heap:=h₁,toks:=s.toks+([]:List (Str × Value)).length }:Shared)->
   codeAny (model X.prog X.w) X.A (.compLoop (.ListComp elt [⟨tg,iter,ifs,0⟩] scope pos) 0 (.ref it) (.ref s.heap.objs.size) (compEnvC scope (cM X.env scope.names []) s3.heap.objs.size X.env))
    (compPost (model X.prog X.w) X.A E use PQ (.ref s.heap.objs.size) s3.heap.objs.size) s4:=by
  rintro s4 rfl
  refine ko (λn s'=>∃ i σ' H',Inv Y [] σ' H' s'/\tn i s'.heap/\(∀ b ∈ fp,H' b=none)/\W i n σ' H') ?_ m0
   ⟨0,du src σ,_,IY0,T.keep 0 _ _ st λb hb o e=>hk b o (up3 b o e),λb hb=>by rw [au (nacc b hb)]; exact (hf b hb).1,w0⟩
  rintro n s5 ⟨i,σ5,H5,I5,st5,fr5,w5⟩
  rcases turn i n σ5 H5 w5 with ⟨stop,qn⟩ | ⟨go,Nn,hNn,step⟩
  ·have q:=T.done Y Yp Yw YK Yc i [] s5 σ5 H5 (λ_ _=>False) I5 (stat fr5) st5 stop
   rw [YA] at q
   refine thn q λr s6 ⟨hr,I6⟩=>?_
   subst hr
   obtain ⟨m6,hn6,_⟩:=id I6.loc
   have eL:Y.env.locals=s3.heap.objs.size:=by rw [Ye]; rfl
   rw [eL] at hn6
   refine hfin s.heap.objs.size s3.heap.objs.size s6 H5 m6 hn6 (I3.fpOk (Nat.le_refl _) (by have z:=I6.free; rw [eL] at z; exact z)) (λh' sb=>?_) qn
   ·have b6:=I6.base
    rw [Ys,YH,Yf,Yex] at b6
    have ne:∀ b o,s3.heap.get? b=some o->b ≠ s3.heap.objs.size:=λb o e=>Nat.ne_of_lt (lt_size e)
    have u6:Un (frs X.stack) fp (upd H s.heap.objs.size (.lst [])) H5 s3.heap h':=
     ⟨λb o e n hb hx=>(sb.2 b (ne b o e)).trans (b6.keep b o e n hb hx),λb o e n hb hx=>by
       obtain ⟨sl,z⟩:=b6.slot b o e n hb hx
       exact ⟨sl,(sb.2 b (ne b o e)).trans z⟩,b6.free,λb o e hx=>by
       obtain ⟨o',z⟩:=b6.there b o e hx
       exact ⟨o',(sb.2 b (ne b o e)).trans z⟩,b6.tups,b6.frzs,b6.tbls⟩
    have fL:H5 s3.heap.objs.size=none:=by
     have z:=I6.free
     rw [eL] at z
     exact z
    have hok6:HOk X.prog X.w H5 h':=by
     have z:=I6.hok
     rw [Yp,Yw] at z
     intro b ob e
     refine (z b ob e).stay (λc w' hc q=>(sb.2 c ?_).trans q) (λ_ q=>q) λ_ _ q=>q
     rintro rfl
     rcases hc with rfl | hc
     ·rw [fL] at e; cases e
     ·rw [fL] at hc; cases hc
    have os6:s6.os=s3.os:=by
     have z:=I6.os
     rw [Ys] at z
     exact z
    refine Inv.call' (s':={ s6 with heap:=h' }) I3 os6 u6 hok6 I6.bare λb hb=>?_
    obtain ⟨f0,f1,f2,f3,f4,f5⟩:=hf b hb
    exact ⟨f3,f1,f4,f5⟩
  ·have q:=T.item Y Yp Yw YK Yc i [] s5 σ5 H5 (λ_ _=>False) I5 (stat fr5) st5 go
   rw [YA] at q
   refine thn q λr s6 ⟨u,hr,h6⟩=>?_
   subst hr
   refine thn h6 λ_ s7 ⟨x,H7,I7,r7,y7,st7,fr7⟩=>?_
   have I7':=I7.pinned (stat fr7) (T.obj _ _ st7)
   have back:∀ {σ9:St} {H9:Hp} {s9:Shared},Inv Y ([]++i6 fp s7.heap) σ9 H9 s9->tn (i+1) s9.heap/\∀ b ∈ fp,H9 b=none:=λ{σ9 H9 s9} I9=>
    ⟨T.keep _ _ _ st7 λb hb o e=>(I9.pin (b,o) (mem_append_right _ (mem_append_right _ (dD hb e)))).1,λb hb=>by
     obtain ⟨o,e,d⟩:=T.obj _ _ st7 b hb
     exact (I9.pin (b,o) (mem_append_right _ (mem_append_right _ (dD hb e)))).2.1⟩
   have g1:=hg _ s7 σ5 H7 x u _ I7' r7 (step x H7 y7)
   rw [YA,Yx,Yp,Yw,Ye] at g1
   refine thn g1 λ_ s8 ⟨σ8,H8,I8,q8⟩=>?_
   have g2:=ht _ s8 σ8 H8 _ I8 q8
   rw [YA,Yx,Yp,Yw,Ye] at g2
   refine thn g2 λb s9 ⟨H9,I9,q9⟩=>?_
   cases b with
   | false=>
    simp only [Bool.false_eq_true,if_false] at q9 ⊢
    obtain ⟨m',hm,w9⟩:=hNn _ _ q9
    exact ⟨m',hm,i+1,σ8,H9,I9.unpinned,(back I9).1,(back I9).2,w9⟩
   | true=>
    simp only [if_true] at q9 ⊢
    have g3:=he _ s9 σ8 H9 _ I9 q9
    rw [YA,Yx,Yp,Yw,Ye] at g3
    refine thn g3 λyv s10 ⟨y,H10,I10,r10,ys,hys,hz,n10⟩=>?_
    obtain ⟨m',hm,w10⟩:=hNn _ _ n10
    have g4:=jB (X:=Y) _ s10 σ8 H10 (.ref s.heap.objs.size) [y] (.ref s.heap.objs.size) [yv] (λ_ H11=>H11=upd H10 s.heap.objs.size (.lst (ys++[y]))) I10 rfl (.cons r10 .nil) ⟨_,ys,y,rfl,rfl,hys,hz,rfl⟩
    rw [YA,Yx,Yp,Yw] at g4
    refine thn g4 λ_ s11 ⟨_,H11,I11,_,e11⟩=>?_
    subst e11
    exact ⟨m',hm,i+1,σ8,_,I11.unpinned,(back I11).1,(back I11).2,w10⟩
 have q:=loop _ rfl
 have eqs:({ s3 with heap:=h₁,toks:=s.toks+([]:List (Str × Value)).length }:Shared)={ s with heap:=h₁,toks:=s.toks+([]:List (Str × Value)).length }:=by rw [<- hs3]
 rw [eqs] at q
 rw [e3] at q
 have stn:tn 0 h₁:=T.keep 0 _ _ st λb hb o e=>hk b o (up3 b o e)
 exact codeAny_compStart_list q (T.self X.A 0 _ _ _ stn q)
theorem cv {elt tg iter:Expr} {ifs:List Expr} {scope:Scope} {pos:Pos} {N:List Str} {src:List (Option Nat)} {wi:TI} {g:TG} {tt:TT} {te:TE}
  (hcalm:X.calm=true) (hsc:kO X.env.scope scope=true) (hsrc:jv X.N N src scope=true) (hi:PI X tg iter wi)
  (hb:∀ (s:Shared) (H:Hp) (ex:List Addr),PG (cxC X N scope s H ex) tg g/\PIf (cxC X N scope s H ex) ifs tt/\PE (cxC X N scope s H ex) elt te)
  (hs:∀ x,foldedSetIterable iter X.env x=pure x:=by intro _; rfl) :
  PE X (.ListComp elt [⟨tg,iter,ifs,0⟩] scope pos) (tComp src wi g tt te):=by
 intro pins s σ H Q I h
 have f:=jW hsc
 rw [eval_ListComp]
 refine wpAny_comprehension_free (use:=none) rfl hs (iD (f.cells I.ok)) f.kind f.names (thn (hi pins s σ H _ I h) λv s1 h1=>thn h1 λitv s2 h2=>?_)
 obtain ⟨it,fp,tn,J,H2,rfl,I2,T,st2,f2,q2⟩:=h2
 refine comp_run (N:=N) (src:=src) none (EP X pins σ Q) X.xe hcalm f hsrc hb I2 T st2 f2 q2 ?_
 intro acc C s' H' m hn _ hI hq
 exact ⟨m,hn,λh' sb=>⟨.ref acc,H',hI h' sb,rfl,hq⟩⟩
theorem kc {i:Nat} {y:Str} {py spos:Pos} {elt tg iter:Expr} {ifs:List Expr} {scope:Scope} {pos:Pos} {N:List Str} {src:List (Option Nat)} {wi:TI} {g:TG} {tt:TT} {te:TE}
  (hN:X.N.Nodup) (hix:X.N[i]? = some y) (hx:Loc X.env.scope y)
  (hcalm:X.calm=true) (hsc:kO X.env.scope scope=true) (hsrc:jv X.N N src scope=true) (hi:PI X tg iter wi)
  (hb:∀ (s:Shared) (H:Hp) (ex:List Addr),PG (cxC X N scope s H ex) tg g/\PIf (cxC X N scope s H ex) ifs tt/\PE (cxC X N scope s H ex) elt te)
  (hs:∀ x,foldedSetIterable iter X.env x=pure x:=by intro _; rfl)
  (hsw:swapsWith (.ListComp elt [⟨tg,iter,ifs,0⟩] scope pos) (some (.Name y py)) spos.line X.env=pure true:=by rfl)
  (hf:X.fn y=true\/X.env.scope.names.lookup y=some .local:=by first | exact .inl rfl | exact .inr rfl | assumption) :
  PS X (.Assign [.Name y py] (.ListComp elt [⟨tg,iter,ifs,0⟩] scope pos) spos) (tAsg (tComp src wi g tt te) (dm i)):=by
 intro pins s σ H D I h
 have f:=jW hsc
 rw [exec_Assign_Name_used _ _ _ _ hsw]
 refine wpAny_bind (wpAny_standAt (wpAny_bind ?_))
 show wpAny _ X.A (do let _ <- comprehension (.ListComp elt [⟨tg,iter,ifs,0⟩] scope pos) scope X.env _ (newList []) false (eval iter X.env) (some (assign (.Name y py) X.env))) _ _ s
 refine wpAny_bind (wpAny_mono (wpAny_comprehension_free (use:=some (assign (.Name y py) X.env)) (Q:=λ_ s'=>SP X pins D .next s') rfl hs (iD (f.cells I.ok)) f.kind f.names
  (thn (hi pins s σ H _ I h) λv s1 h1=>thn h1 λitv s2 h2=>?_)) (λ_ s' hq=>wpAny_pure (wpAny_pure hq)) λ_ _ e=>e)
 obtain ⟨it,fp,tn,J,H2,rfl,I2,T,st2,f2,q2⟩:=h2
 refine comp_run (N:=N) (src:=src) (some (assign (.Name y py) X.env)) (λ_ s'=>SP X pins D .next s') X.xe hcalm f hsrc hb I2 T st2 f2 (Q:=λx H1=>dm i x σ H1 D.nx) q2 ?_
 intro acc C s' H' m hn fpC hI hq
 obtain ⟨c0,c1,c2,c3,c4,c5⟩:=fpC
 have I':Inv X pins σ H' s':=hI s'.heap (Heap.SameBut.refl ..)
 show wpAny _ X.A (assign (.Name y py) X.env (.ref acc)) _ _ _
 refine wpAny_assign_Name (jV (v:=.ref acc) I' hN hix hx rfl (λs2 J2 ⟨a,sb,ha⟩=>?_) hf)
 have hCa:C ≠ a:=by
  rcases ha with rfl | ha
  ·exact c1
  ·exact λz=>c4 y a ha z.symm
 refine ⟨m,hn.sameBut sb hCa,λh' sb'=>?_⟩
 exact ⟨_,H',J2.turned (t':=s2.toks) (λb o hb e=>(sb'.2 b hb).trans e) c0 c1 c3 c4 c5,hq⟩
end
def SqI (t:Bool) (h:Heap) (it l:Addr) (i:Nat):Prop:=if t=true then h.IsTupleIter it l i else h.IsListIter it l i
def SqO (t:Bool) (h:Heap) (l:Addr) (xs:Array Value):Prop:=if t=true then h.IsTuple l xs else h.IsList l xs
def SqV (t:Bool) (K:Frag) (H:Hp) (a:Addr) (xs:List V):Prop:=if t=true then SqT K H a xs else SqL K H a xs
theorem SqI.at {t:Bool} {h h':Heap} {it l:Addr} {i:Nat} (x:SqI t h it l i) (k:∀ o,h.get? it=some o->h'.get? it=some o):SqI t h' it l i:=by
 cases t
 ·exact Heap.IsListIter.at x k
 ·obtain ⟨o,ho,r⟩:=(show h.IsTupleIter it l i from x)
  exact (show h'.IsTupleIter it l i from ⟨o,k o ho,r⟩)
theorem SqI.obj {t:Bool} {h:Heap} {it l:Addr} {i:Nat} (x:SqI t h it l i):∃ o,h.get? it=some o/\∀ v,o.data ≠ .cell v:=by
 cases t
 ·obtain ⟨o,ho,_,d⟩:=(show h.IsListIter it l i from x)
  exact ⟨o,ho,λv z=>by rw [d] at z; cases z⟩
 ·obtain ⟨o,ho,_,d⟩:=(show h.IsTupleIter it l i from x)
  exact ⟨o,ho,λv z=>by rw [d] at z; cases z⟩
theorem SqO.at {t:Bool} {h h':Heap} {l:Addr} {xs:Array Value} (x:SqO t h l xs) (k:∀ o,h.get? l=some o->h'.get? l=some o):SqO t h' l xs:=by
 cases t
 ·obtain ⟨o,ho,r⟩:=(show h.IsList l xs from x)
  exact (show h'.IsList l xs from ⟨o,k o ho,r⟩)
 ·obtain ⟨o,ho,r⟩:=(show h.IsTuple l xs from x)
  exact (show h'.IsTuple l xs from ⟨o,k o ho,r⟩)
theorem SqO.obj {t:Bool} {h:Heap} {l:Addr} {xs:Array Value} (x:SqO t h l xs):∃ o,h.get? l=some o:=by
 cases t
 ·obtain ⟨o,ho,r⟩:=(show h.IsList l xs from x)
  exact ⟨o,ho⟩
 ·obtain ⟨o,ho,r⟩:=(show h.IsTuple l xs from x)
  exact ⟨o,ho⟩
theorem Inv.seqV {X:Cx} {pins:List (Addr × Obj)} {σ:St} {H:Hp} {s:Shared} {t:Bool} {a:Addr} {xs:List V} (I:Inv X pins σ H s) (h:SqV t X.K H a xs):∃ its:List Value,kY xs its/\SqO t s.heap a its.toArray/\xs.length<=sizeLine:=by
 cases t
 ·obtain ⟨its,r,p,z⟩:=I.list (show SqL X.K H a xs from h)
  exact ⟨its,r,p.isList,z⟩
 ·obtain ⟨its,r,p,z⟩:=I.tuple (show SqT X.K H a xs from h)
  exact ⟨its,r,p,z⟩
theorem Inv.seqV_inj {X:Cx} {pins:List (Addr × Obj)} {σ:St} {H:Hp} {s:Shared} {t:Bool} {a:Addr} {xs ys:List V} (I:Inv X pins σ H s) (h:SqV t X.K H a xs) (h':SqV t X.K H a ys):xs=ys:=by
 cases t
 ·exact I.list_inj h h'
 ·exact I.tuple_inj h h'
section
variable {prog:Program} {w:World} {A:Around} {E:Value->Shared->Prop} {s:Shared}
theorem cV {it l:Addr} {i:Nat} {items:Array Value} {x:Value} {Q:Value->Shared->Prop} (hit:s.heap.IsTupleIter it l i)
  (hl:s.heap.IsTuple l items) (hx:items[i]? = some x)
  (hQ:∀ h',h'.IsTupleIter it l (i+1)->Heap.SameBut it s.heap h'->Q x { s with heap:=h' }) :
  wpAny (model prog w) A (Builtin.SmallTypes.nextOf (.ref it)) Q E s:=by
 obtain ⟨o,ho,hc,hd⟩:=id hit
 obtain ⟨ol,hol,_,nl,hdl⟩:=hl
 unfold Builtin.SmallTypes.nextOf
 refine wpAny_bind (wpAny_callSpecial?_slot (name:=Str.ofString "__next__") hit.typeIs F.slot_tuple_iterator_next
  (wpAny_call_entry F.slot_tuple_iterator_next hit.typeIs F.entry_tuple_iterator_next ?_ (F.args_tuple_iterator_next_1 _)))
 show wpAny _ _ (field (.ref it) 0 >>= _) _ _ s
 refine wpAny_bind (wpAny_field ho hd (x:=.ref l) rfl ?_)
 show wpAny _ _ (if (Value.ref l == Value.none)=true then _ else _) _ _ s
 rw [if_neg (show ¬ ((Value.ref l == Value.none)=true) from Bool.false_ne_true)]
 show wpAny _ _ (field (.ref it) 1 >>= _) _ _ s
 refine wpAny_bind (wpAny_field ho hd (x:=.int i 0) rfl ?_)
 show wpAny _ _ (seqItems? (.ref l) >>= _) _ _ s
 refine wpAny_bind (wpAny_seqItems hol hdl ?_)
 simp only [Int.toNat_natCast,hx]
 refine wpAny_bind (wpAny_setField ho hd (by simp) (wpAny_pure ⟨x,rfl,wpAny_pure (hQ _ ?_ (Heap.SameBut.update ..))⟩))
 exact ⟨_,get?_update_self _ ho (Obj.isFreed_of_fields (Obj.data_mapFields hd _)),(Obj.cls_mapFields ..).trans hc,by
  rw [Obj.data_mapFields hd]; simp [rawInt]⟩
theorem dj {it l:Addr} {i:Nat} {items:Array Value} {Q:Value->Shared->Prop} (hh:A.handled=none)
  (hit:s.heap.IsTupleIter it l i) (hl:s.heap.IsTuple l items) (hx:items[i]? = none)
  (hE:∀ h' e,Heap.ExtBut it s.heap h'->(∃ o,h'.get? e=some o/\o.cls=.type "StopIteration")->E (.ref e) { s with heap:=h' }) :
  wpAny (model prog w) A (Builtin.SmallTypes.nextOf (.ref it)) Q E s:=by
 obtain ⟨o,ho,hc,hd⟩:=id hit
 obtain ⟨ol,hol,_,nl,hdl⟩:=hl
 unfold Builtin.SmallTypes.nextOf
 refine wpAny_bind (wpAny_callSpecial?_slot (name:=Str.ofString "__next__") hit.typeIs F.slot_tuple_iterator_next
  (wpAny_call_entry F.slot_tuple_iterator_next hit.typeIs F.entry_tuple_iterator_next ?_ (F.args_tuple_iterator_next_1 _)))
 show wpAny _ _ (field (.ref it) 0 >>= _) _ _ s
 refine wpAny_bind (wpAny_field ho hd (x:=.ref l) rfl ?_)
 show wpAny _ _ (if (Value.ref l == Value.none)=true then _ else _) _ _ s
 rw [if_neg (show ¬ ((Value.ref l == Value.none)=true) from Bool.false_ne_true)]
 show wpAny _ _ (field (.ref it) 1 >>= _) _ _ s
 refine wpAny_bind (wpAny_field ho hd (x:=.int i 0) rfl ?_)
 show wpAny _ _ (seqItems? (.ref l) >>= _) _ _ s
 refine wpAny_bind (wpAny_seqItems hol hdl ?_)
 simp only [Int.toNat_natCast,hx]
 refine wpAny_bind (wpAny_rule (wpAny_bind (wpAny_setField ho hd (by simp) ?_)))
 show wpAny _ _ (newExc (.type "StopIteration") [] >>= _) _ _ _
 refine wpAny_bind ?_
 simp only [newExc,newTuple]
 refine wpAny_bind (wpAny_newObj_type ?_ (by size_fits))
 refine wpAny_bind (m:=firstArgMember _ _) (wpAny_of_eq (a:=Value.none) (by first | rfl | (simp only [firstArgMember]; rfl)) ?_)
 refine wpAny_newObj_type ?_ (by size_fits)
 simp only [raiseNew]
 refine wpAny_bind (wpAny_handled ?_)
 first | rw [show A.in1.handled=none from hh] | rw [hh]
 refine wpAny_bind (wpAny_pure (wpAny_throw ?_))
 exact hE _ _ (((Heap.SameBut.update ..).extBut.push _).push _) ⟨_,get?_push_size _ rfl,rfl⟩
theorem eQ {t:Bool} {it l:Addr} {i:Nat} {items:Array Value} {x:Value} {Q:Value->Shared->Prop} (hit:SqI t s.heap it l i)
  (hl:SqO t s.heap l items) (hx:items[i]? = some x)
  (hQ:∀ h',SqI t h' it l (i+1)->Heap.SameBut it s.heap h'->Q x { s with heap:=h' }) :
  wpAny (model prog w) A (Builtin.SmallTypes.nextOf (.ref it)) Q E s:=by
 cases t
 ·exact wpAny_nextOf_list_item hit hl hx hQ
 ·exact cV hit hl hx hQ
theorem i7 {t:Bool} {it l:Addr} {i:Nat} {items:Array Value} {Q:Value->Shared->Prop} (hh:A.handled=none)
  (hit:SqI t s.heap it l i) (hl:SqO t s.heap l items) (hx:items[i]? = none)
  (hE:∀ h' e,Heap.ExtBut it s.heap h'->(∃ o,h'.get? e=some o/\o.cls=.type "StopIteration")->E (.ref e) { s with heap:=h' }) :
  wpAny (model prog w) A (Builtin.SmallTypes.nextOf (.ref it)) Q E s:=by
 cases t
 ·exact wpAny_nextOf_list_end hh hit hl hx hE
 ·exact dj hh hit hl hx hE
theorem ju {t:Bool} {l:Addr} {items:Array Value} {Q:Value->Shared->Prop} (hl:SqO t s.heap l items)
  (hQ:∀ o,SqI t (s.heap.push o) s.heap.objs.size l 0->Q (.ref s.heap.objs.size) { s with heap:=s.heap.push o }):wpAny (model prog w) A (pyIter (.ref l)) Q E s:=by
 cases t
 ·exact wpAny_pyIter_list hl (hQ _ (show Heap.IsListIter _ _ _ _ from ⟨_,get?_push_size _ rfl,rfl,rfl⟩))
 ·exact wpAny_pyIter_tuple hl (hQ _ (show Heap.IsTupleIter _ _ _ _ from ⟨_,get?_push_size _ rfl,rfl,rfl⟩))
theorem zipN_item {t1 t2:Bool} {z TI TO i1 i2 l1 l2:Addr} {k1 k2:Nat} {xs ys:Array Value} {x y a b:Value} {Q:Value->Shared->Prop} (D:ZipApart z TI TO i1 i2 l1 l2)
  (hz:IsZip s.heap z TI TO .none) (hTI:IsPair s.heap TI (.ref i1) (.ref i2)) (hTO:IsPair s.heap TO a b)
  (h1:SqI t1 s.heap i1 l1 k1) (h2:SqI t2 s.heap i2 l2 k2) (hl1:SqO t1 s.heap l1 xs) (hl2:SqO t2 s.heap l2 ys) (hx:xs[k1]? = some x) (hy:ys[k2]? = some y)
  (hQ:∀ h',IsZip h' z TI TO (rawInt s.heap.objs.size)->IsPair h' TO x y->SqI t1 h' i1 l1 (k1+1)->SqI t2 h' i2 l2 (k2+1)->IsPair h' s.heap.objs.size x y->h'.objs.size=s.heap.objs.size+1->
   (∀ c o,c ≠ z->c ≠ TO->c ≠ i1->c ≠ i2->s.heap.get? c=some o->h'.get? c=some o)->Q (.ref s.heap.objs.size) { s with heap:=h' }) :
  wpAny (model prog w) A (Builtin.«zip.__next__» ⟨[.ref z],[]⟩) (λfin s'=>∃ v,fin=.done (.ret v)/\Q v s') E s:=by
 show wpAny _ _ (field (.ref z) 2 >>= _) _ _ _
 refine wpAny_bind (wpAny_field hz rfl (x:=.bool false) rfl ?_)
 show wpAny _ _ (field (.ref z) 3 >>= _) _ _ _
 refine wpAny_bind (wpAny_field hz rfl (x:=.ref TI) rfl ?_)
 refine wpAny_bind (wpAny_seqItems hTI rfl ?_)
 show wpAny _ _ (Builtin.SmallTypes.ownedTupleIsFree (.ref z) >>= _) _ _ _
 refine wpAny_bind ?_
 unfold Builtin.SmallTypes.ownedTupleIsFree
 refine wpAny_bind (wpAny_field hz rfl (x:=.none) rfl (wpAny_pure ?_))
 simp only [if_true]
 refine wpAny_bind (wpAny_rule ?_)
 refine wpAny_bind (wpAny_field hz rfl (x:=.ref TO) rfl ?_)
 refine wpAny_bind (wpAny_setField_rec hz (by simp) λh₁ hz₁ hs₁=>?_)
 replace hz₁:IsZip h₁ z TI TO .ellipsis:=hz₁
 refine wpAny_bind ?_
 simp only [List.zipIdx_cons,List.zipIdx_nil,forIn_cons,forIn_nil]
 refine wpAny_bind (wpAny_bind (wpAny_onRaise ?_))
 show wpAny _ _ (Builtin.SmallTypes.nextOf (.ref i1) >>= _) _ _ _
 refine wpAny_bind (eQ (h1.at λo e=>hs₁.extBut _ _ D.i1z e) (hl1.at λo e=>hs₁.extBut _ _ D.l1z e) hx λh₂ h1₂ hs₂=>wpAny_pure ?_)
 have hTO₂:IsPair h₂ TO a b:=hs₂.extBut _ _ D.TOi1 (hs₁.extBut _ _ D.TOz hTO)
 refine wpAny_bind (wpAny_seqItems hTO₂ rfl ?_)
 refine wpAny_bind (wpAny_updateSeq_pair hTO₂ λh₃ hTO₃ hs₃=>?_)
 replace hTO₃:IsPair h₃ TO x b:=hTO₃
 refine wpAny_bind (wpAny_letGo (wpAny_pure ?_))
 refine wpAny_bind (wpAny_bind (wpAny_onRaise ?_))
 show wpAny _ _ (Builtin.SmallTypes.nextOf (.ref i2) >>= _) _ _ _
 refine wpAny_bind (eQ (h2.at λo e=>hs₃.extBut _ _ D.TOi2.symm (hs₂.extBut _ _ D.i12.symm (hs₁.extBut _ _ D.i2z e)))
  (hl2.at λo e=>hs₃.extBut _ _ D.l2TO (hs₂.extBut _ _ D.l2i1 (hs₁.extBut _ _ D.l2z e))) hy λh₄ h2₄ hs₄=>wpAny_pure ?_)
 have hTO₄:IsPair h₄ TO x b:=hs₄.extBut _ _ D.TOi2 hTO₃
 refine wpAny_bind (wpAny_seqItems hTO₄ rfl ?_)
 refine wpAny_bind (wpAny_updateSeq_pair hTO₄ λh₅ hTO₅ hs₅=>?_)
 replace hTO₅:IsPair h₅ TO x y:=hTO₅
 refine wpAny_bind (wpAny_letGo (wpAny_pure (wpAny_pure ?_)))
 refine wpAny_bind (wpAny_seqItems hTO₅ rfl ?_)
 refine wpAny_bind (wpAny_newTuple ?_)
 have hsz:h₅.objs.size=s.heap.objs.size:=by rw [hs₅.1,hs₄.1,hs₃.1,hs₂.1,hs₁.1]
 have hz₅:IsZip h₅ z TI TO .ellipsis:=hs₅.extBut _ _ D.TOz.symm (hs₄.extBut _ _ D.i2z.symm (hs₃.extBut _ _ D.TOz.symm (hs₂.extBut _ _ D.i1z.symm hz₁)))
 have hk₅:∀ c o,c ≠ z->c ≠ TO->c ≠ i1->c ≠ i2->s.heap.get? c=some o->h₅.get? c=some o:=λc o c1 c2 c3 c4 e=>
  hs₅.extBut _ _ c2 (hs₄.extBut _ _ c4 (hs₃.extBut _ _ c2 (hs₂.extBut _ _ c3 (hs₁.extBut _ _ c1 e))))
 have h1₅:SqI t1 h₅ i1 l1 (k1+1):=h1₂.at λo e=>hs₅.extBut _ _ D.TOi1.symm (hs₄.extBut _ _ D.i12 (hs₃.extBut _ _ D.TOi1.symm e))
 have h2₅:SqI t2 h₅ i2 l2 (k2+1):=h2₄.at λo e=>hs₅.extBut _ _ D.TOi2.symm e
 have hzlt:z<h₅.objs.size:=lt_size hz₅
 have hTOlt:TO<h₅.objs.size:=lt_size hTO₅
 show wpAny _ _ (Builtin.SmallTypes.ownedTupleHandOut (.ref z) (.ref h₅.objs.size) >>= _) _ _ _
 refine wpAny_bind ?_
 unfold Builtin.SmallTypes.ownedTupleHandOut
 have hz₆:IsZip (h₅.push { cls:=.type "tuple",data:=.seq #[x,y] }) z TI TO .ellipsis:=get?_push_of_some _ hz₅
 refine wpAny_bind (wpAny_setField_rec hz₆ (by simp) λh₇ hz₇ hs₇=>?_)
 replace hz₇:IsZip h₇ z TI TO (rawInt h₅.objs.size):=hz₇
 refine wpAny_setField_rec hz₇ (by simp) λh₈ hz₈ hs₈=>?_
 replace hz₈:IsZip h₈ z TI TO (rawInt h₅.objs.size):=hz₈
 have up:∀ c o,c ≠ z->h₅.get? c=some o->h₈.get? c=some o:=λc o c1 e=>hs₈.extBut _ _ c1 (hs₇.extBut _ _ c1 (get?_push_of_some _ e))
 have hT₈:IsPair h₈ h₅.objs.size x y:=hs₈.extBut _ _ (Nat.ne_of_gt hzlt) (hs₇.extBut _ _ (Nat.ne_of_gt hzlt) (get?_push_size _ rfl))
 have hz8:h₈.objs.size=h₅.objs.size+1:=by rw [hs₈.1,hs₇.1,size_push]
 rw [hsz] at hz₈ hT₈ hz8
 refine wpAny_pure ⟨_,rfl,?_⟩
 show Q (.ref h₅.objs.size) _
 rw [hsz]
 exact hQ h₈ hz₈ (up _ _ D.TOz hTO₅) (h1₅.at λo e=>up _ o D.i1z e) (h2₅.at λo e=>up _ o D.i2z e) hT₈ hz8 λc o c1 c2 c3 c4 e=>up c o c1 (hk₅ c o c1 c2 c3 c4 e)
theorem zipN_end {t1 t2:Bool} {z TI TO i1 i2 l1 l2:Addr} {k1 k2:Nat} {xs ys:Array Value} {a b:Value} {Q:PySem.Fin->Shared->Prop} (hh:A.handled=none) (D:ZipApart z TI TO i1 i2 l1 l2)
  (hz:IsZip s.heap z TI TO .none) (hTI:IsPair s.heap TI (.ref i1) (.ref i2)) (hTO:IsPair s.heap TO a b)
  (h1:SqI t1 s.heap i1 l1 k1) (h2:SqI t2 s.heap i2 l2 k2) (hl1:SqO t1 s.heap l1 xs) (hl2:SqO t2 s.heap l2 ys) (hend:xs[k1]? = none\/ys[k2]? = none)
  (hE:∀ h' e,(∀ c o,c ≠ z->c ≠ TO->c ≠ i1->c ≠ i2->s.heap.get? c=some o->h'.get? c=some o)->(∃ o,h'.get? e=some o/\o.cls=.type "StopIteration")->E (.ref e) { s with heap:=h' }) :
  wpAny (model prog w) A (Builtin.«zip.__next__» ⟨[.ref z],[]⟩) Q E s:=by
 show wpAny _ _ (field (.ref z) 2 >>= _) _ _ _
 refine wpAny_bind (wpAny_field hz rfl (x:=.bool false) rfl ?_)
 show wpAny _ _ (field (.ref z) 3 >>= _) _ _ _
 refine wpAny_bind (wpAny_field hz rfl (x:=.ref TI) rfl ?_)
 refine wpAny_bind (wpAny_seqItems hTI rfl ?_)
 show wpAny _ _ (Builtin.SmallTypes.ownedTupleIsFree (.ref z) >>= _) _ _ _
 refine wpAny_bind ?_
 unfold Builtin.SmallTypes.ownedTupleIsFree
 refine wpAny_bind (wpAny_field hz rfl (x:=.none) rfl (wpAny_pure ?_))
 simp only [if_true]
 refine wpAny_bind (wpAny_rule ?_)
 refine wpAny_bind (wpAny_field hz rfl (x:=.ref TO) rfl ?_)
 refine wpAny_bind (wpAny_setField_rec hz (by simp) λh₁ hz₁ hs₁=>?_)
 replace hz₁:IsZip h₁ z TI TO .ellipsis:=hz₁
 refine wpAny_bind ?_
 simp only [List.zipIdx_cons,List.zipIdx_nil,forIn_cons,forIn_nil]
 refine wpAny_bind (wpAny_bind (wpAny_onRaise ?_))
 show wpAny _ _ (Builtin.SmallTypes.nextOf (.ref i1) >>= _) _ _ _
 cases hx:xs[k1]? with
 | none=>
  refine wpAny_bind (i7 hh (h1.at λo e=>hs₁.extBut _ _ D.i1z e) (hl1.at λo e=>hs₁.extBut _ _ D.l1z e) hx λh₂ e hs₂ he=>?_)
  obtain ⟨oe,hoe,hce⟩:=he
  have hz₂:IsZip h₂ z TI TO .ellipsis:=hs₂ _ _ D.i1z.symm hz₁
  have hez:e ≠ z:=λx=>by subst x; rw [hz₂] at hoe; cases hoe; simp at hce
  refine wpAny_setField_rec hz₂ (by simp) λh₃ _ hs₃=>hE h₃ e (λc o c1 _ c3 _ x=>hs₃.extBut _ _ c1 (hs₂ _ _ c3 (hs₁.extBut _ _ c1 x))) ⟨oe,hs₃.extBut _ _ hez hoe,hce⟩
 | some x=>
  have hy:ys[k2]? = none:=by rcases hend with h | h; rw [hx] at h; cases h; exact h
  refine wpAny_bind (eQ (h1.at λo e=>hs₁.extBut _ _ D.i1z e) (hl1.at λo e=>hs₁.extBut _ _ D.l1z e) hx λh₂ h1₂ hs₂=>wpAny_pure ?_)
  have hTO₂:IsPair h₂ TO a b:=hs₂.extBut _ _ D.TOi1 (hs₁.extBut _ _ D.TOz hTO)
  refine wpAny_bind (wpAny_seqItems hTO₂ rfl ?_)
  refine wpAny_bind (wpAny_updateSeq_pair hTO₂ λh₃ hTO₃ hs₃=>?_)
  refine wpAny_bind (wpAny_letGo (wpAny_pure ?_))
  refine wpAny_bind (wpAny_bind (wpAny_onRaise ?_))
  show wpAny _ _ (Builtin.SmallTypes.nextOf (.ref i2) >>= _) _ _ _
  refine wpAny_bind (i7 hh (h2.at λo e=>hs₃.extBut _ _ D.TOi2.symm (hs₂.extBut _ _ D.i12.symm (hs₁.extBut _ _ D.i2z e)))
   (hl2.at λo e=>hs₃.extBut _ _ D.l2TO (hs₂.extBut _ _ D.l2i1 (hs₁.extBut _ _ D.l2z e))) hy λh₄ e hs₄ he=>?_)
  obtain ⟨oe,hoe,hce⟩:=he
  have hz₄:IsZip h₄ z TI TO .ellipsis:=hs₄ _ _ D.i2z.symm (hs₃.extBut _ _ D.TOz.symm (hs₂.extBut _ _ D.i1z.symm hz₁))
  have hez:e ≠ z:=λx=>by subst x; rw [hz₄] at hoe; cases hoe; simp at hce
  refine wpAny_setField_rec hz₄ (by simp) λh₅ _ hs₅=>hE h₅ e (λc o c1 c2 c3 c4 x=>hs₅.extBut _ _ c1 (hs₄ _ _ c4 (hs₃.extBut _ _ c2 (hs₂.extBut _ _ c3 (hs₁.extBut _ _ c1 x))))) ⟨oe,hs₅.extBut _ _ hez hoe,hce⟩
theorem gI {t1 t2:Bool} {z TI TO i1 i2 l1 l2:Addr} {k1 k2:Nat} {xs ys:Array Value} {x y a b:Value} {Q:Option Value->Shared->Prop} (D:ZipApart z TI TO i1 i2 l1 l2)
  (hz:IsZip s.heap z TI TO .none) (hTI:IsPair s.heap TI (.ref i1) (.ref i2)) (hTO:IsPair s.heap TO a b)
  (h1:SqI t1 s.heap i1 l1 k1) (h2:SqI t2 s.heap i2 l2 k2) (hl1:SqO t1 s.heap l1 xs) (hl2:SqO t2 s.heap l2 ys) (hx:xs[k1]? = some x) (hy:ys[k2]? = some y)
  (hQ:∀ h',IsZip h' z TI TO (rawInt s.heap.objs.size)->IsPair h' TO x y->SqI t1 h' i1 l1 (k1+1)->SqI t2 h' i2 l2 (k2+1)->IsPair h' s.heap.objs.size x y->h'.objs.size=s.heap.objs.size+1->
   (∀ c o,c ≠ z->c ≠ TO->c ≠ i1->c ≠ i2->s.heap.get? c=some o->h'.get? c=some o)->Q (some (.ref s.heap.objs.size)) { s with heap:=h' }) :
  wpAny (model prog w) A (pyNext (.ref z)) Q E s:=by
 have hT:s.TypeIs (.ref z) "zip":=⟨_,hz,rfl⟩
 unfold pyNext
 exact wpAny_bind (wpAny_attempt (wpAny_callSpecial?_slot (name:=Str.ofString "__next__") hT F.slot_zip_next
  (wpAny_call_entry F.slot_zip_next hT F.entry_zip_next
   (zipN_item D hz hTI hTO h1 h2 hl1 hl2 hx hy λh' a1 a2 a3 a4 a5 a6 a7=>wpAny_pure (hQ h' a1 a2 a3 a4 a5 a6 a7)) (F.args_zip_next_1 _))))
theorem hJ {t1 t2:Bool} {z TI TO i1 i2 l1 l2:Addr} {k1 k2:Nat} {xs ys:Array Value} {a b:Value} {Q:Option Value->Shared->Prop} (hh:A.handled=none) (D:ZipApart z TI TO i1 i2 l1 l2)
  (hz:IsZip s.heap z TI TO .none) (hTI:IsPair s.heap TI (.ref i1) (.ref i2)) (hTO:IsPair s.heap TO a b)
  (h1:SqI t1 s.heap i1 l1 k1) (h2:SqI t2 s.heap i2 l2 k2) (hl1:SqO t1 s.heap l1 xs) (hl2:SqO t2 s.heap l2 ys) (hend:xs[k1]? = none\/ys[k2]? = none)
  (hQ:∀ h',(∀ c o,c ≠ z->c ≠ TO->c ≠ i1->c ≠ i2->s.heap.get? c=some o->h'.get? c=some o)->Q none { s with heap:=h' }):wpAny (model prog w) A (pyNext (.ref z)) Q E s:=by
 have hT:s.TypeIs (.ref z) "zip":=⟨_,hz,rfl⟩
 unfold pyNext
 refine wpAny_bind (wpAny_attempt (wpAny_callSpecial?_slot (name:=Str.ofString "__next__") hT F.slot_zip_next
  (wpAny_call_entry F.slot_zip_next hT F.entry_zip_next (zipN_end hh D hz hTI hTO h1 h2 hl1 hl2 hend λh' e hk he=>?_) (F.args_zip_next_1 _))))
 obtain ⟨o,ho,hc⟩:=he
 refine wpAny_bind (wpAny_isInstance (T := "StopIteration") (b:=true) ⟨o,ho,hc⟩ isSubtype_stop ?_)
 exact wpAny_pure (hQ _ hk)
end
def itObj (t:Bool) (l:Addr):Obj:=if t=true then { cls:=.type "tuple_iterator",data:=.fields #[.ref l,.int 0 0] } else { cls:=.type "list_iterator",data:=.fields #[.ref l,.int 0 0] }
theorem itObj_is {t:Bool} {h:Heap} {it l:Addr} (e:h.get? it=some (itObj t l)):SqI t h it l 0:=by
 cases t
 ·exact (show h.IsListIter it l 0 from ⟨_,e,rfl,rfl⟩)
 ·exact (show h.IsTupleIter it l 0 from ⟨_,e,rfl,rfl⟩)
abbrev zpH1 (t1:Bool) (h:Heap) (l1:Addr):Heap:=h.push (itObj t1 l1)
abbrev zpH2 (t1 t2:Bool) (h:Heap) (l1 l2:Addr):Heap:=(zpH1 t1 h l1).push (itObj t2 l2)
abbrev zpH3 (t1 t2:Bool) (h:Heap) (l1 l2:Addr):Heap:=(zpH2 t1 t2 h l1 l2).push { cls:=.type "tuple",data:=.seq #[.ref h.objs.size,.ref (zpH1 t1 h l1).objs.size] }
abbrev zpH4 (t1 t2:Bool) (h:Heap) (l1 l2:Addr):Heap:=(zpH3 t1 t2 h l1 l2).push { cls:=.type "tuple",data:=.seq #[.none,.none] }
abbrev zpH5 (t1 t2:Bool) (h:Heap) (l1 l2:Addr):Heap:=(zpH4 t1 t2 h l1 l2).push { cls:=.type "zip",data:=.fields #[.none,.bool false,.bool false,.ref (zpH2 t1 t2 h l1 l2).objs.size,.ref (zpH3 t1 t2 h l1 l2).objs.size] }
set_option maxHeartbeats 8000000 in
theorem meets_zipN (t1 t2:Bool) (l1 l2:Addr) (xs ys:Array Value) :
  Meets (Builtin.«zip.__new__» ⟨[.type "zip",.ref l1,.ref l2],[]⟩) (λ_ R s=>SqO t1 s.heap l1 xs/\SqO t2 s.heap l2 ys/\
   R (.ok (.ret (.ref (zpH4 t1 t2 s.heap l1 l2).objs.size))) { s with heap:=zpH5 t1 t2 s.heap l1 l2 }):=
 .of_wp λprog w A R s h=>by
  obtain ⟨hp,g,d,tk,os⟩:=s; obtain ⟨hl1,hl2,h⟩:=h
  have hsub:=sub_zip
  cases t1<;>cases t2
  ·have hL1:Heap.IsList (Shared.heap ⟨hp,g,d,tk,os⟩) l1 xs:=hl1
   have hL2:Heap.IsList (Shared.heap ⟨hp.push { cls:=.type "list_iterator",data:=.fields #[.ref l1,.int 0 0] },g,d,tk,os⟩) l2 ys:=Heap.IsList.push hl2 _
   wp_walk using wpAny_pyIter_list hL1,wpAny_pyIter_list hL2
   exact ⟨_,rfl,h⟩
  ·have hL1:Heap.IsList (Shared.heap ⟨hp,g,d,tk,os⟩) l1 xs:=hl1
   have hL2:Heap.IsTuple (Shared.heap ⟨hp.push { cls:=.type "list_iterator",data:=.fields #[.ref l1,.int 0 0] },g,d,tk,os⟩) l2 ys:=Heap.IsTuple.push hl2 _
   wp_walk using wpAny_pyIter_list hL1,wpAny_pyIter_tuple hL2
   exact ⟨_,rfl,h⟩
  ·have hL1:Heap.IsTuple (Shared.heap ⟨hp,g,d,tk,os⟩) l1 xs:=hl1
   have hL2:Heap.IsList (Shared.heap ⟨hp.push { cls:=.type "tuple_iterator",data:=.fields #[.ref l1,.int 0 0] },g,d,tk,os⟩) l2 ys:=Heap.IsList.push hl2 _
   wp_walk using wpAny_pyIter_tuple hL1,wpAny_pyIter_list hL2
   exact ⟨_,rfl,h⟩
  ·have hL1:Heap.IsTuple (Shared.heap ⟨hp,g,d,tk,os⟩) l1 xs:=hl1
   have hL2:Heap.IsTuple (Shared.heap ⟨hp.push { cls:=.type "tuple_iterator",data:=.fields #[.ref l1,.int 0 0] },g,d,tk,os⟩) l2 ys:=Heap.IsTuple.push hl2 _
   wp_walk using wpAny_pyIter_tuple hL1,wpAny_pyIter_tuple hL2
   exact ⟨_,rfl,h⟩
section
variable {prog:Program} {w:World} {A:Around} {E:Value->Shared->Prop} {s:Shared}
theorem call_zipN {t1 t2:Bool} {l1 l2:Addr} {xs ys:Array Value} {Q:Value->Shared->Prop} (hl1:SqO t1 s.heap l1 xs) (hl2:SqO t2 s.heap l2 ys)
  (h:∀ h',IsZip h' (s.heap.objs.size+4) (s.heap.objs.size+2) (s.heap.objs.size+3) .none->IsPair h' (s.heap.objs.size+2) (.ref s.heap.objs.size) (.ref (s.heap.objs.size+1))->
   IsPair h' (s.heap.objs.size+3) .none .none->SqI t1 h' s.heap.objs.size l1 0->SqI t2 h' (s.heap.objs.size+1) l2 0->h'.objs.size=s.heap.objs.size+5->
   (∀ c o,s.heap.get? c=some o->h'.get? c=some o)->Q (.ref (s.heap.objs.size+4)) { s with heap:=h' }) :
  wpAny (model prog w) A (call (.type "zip") [.ref l1,.ref l2]) Q E s:=by
 refine callType_new F.called_zip (by decide) (F.typeCall_zip_2 _ _) (F.newCall_zip_2 _ _) (λobj=>F.args_object_init_3 obj _ _) F.entry_zip_new
  (meets_zipN t1 t2 l1 l2 xs ys) ⟨hl1,hl2,?_⟩
 have fr:∀ t l,(itObj t l).isFreed=false:=λt l=>by cases t<;>rfl
 have z1:(zpH1 t1 s.heap l1).objs.size=s.heap.objs.size+1:=size_push ..
 have z2:(zpH2 t1 t2 s.heap l1 l2).objs.size=s.heap.objs.size+2:=by rw [size_push,z1]
 have z3:(zpH3 t1 t2 s.heap l1 l2).objs.size=s.heap.objs.size+3:=by rw [size_push,z2]
 have z4:(zpH4 t1 t2 s.heap l1 l2).objs.size=s.heap.objs.size+4:=by rw [size_push,z3]
 have z5:(zpH5 t1 t2 s.heap l1 l2).objs.size=s.heap.objs.size+5:=by rw [size_push,z4]
 have g5:(zpH5 t1 t2 s.heap l1 l2).get? (zpH4 t1 t2 s.heap l1 l2).objs.size=some _:=get?_push_size _ rfl
 have g4:(zpH5 t1 t2 s.heap l1 l2).get? (zpH3 t1 t2 s.heap l1 l2).objs.size=some _:=get?_push_of_some _ (get?_push_size _ rfl)
 have g3:(zpH5 t1 t2 s.heap l1 l2).get? (zpH2 t1 t2 s.heap l1 l2).objs.size=some _:=get?_push_of_some _ (get?_push_of_some _ (get?_push_size _ rfl))
 have g2:(zpH5 t1 t2 s.heap l1 l2).get? (zpH1 t1 s.heap l1).objs.size=some _:=get?_push_of_some _ (get?_push_of_some _ (get?_push_of_some _ (get?_push_size _ (fr t2 l2))))
 have g1:(zpH5 t1 t2 s.heap l1 l2).get? s.heap.objs.size=some _:=get?_push_of_some _ (get?_push_of_some _ (get?_push_of_some _ (get?_push_of_some _ (get?_push_size _ (fr t1 l1)))))
 show _/\_
 rw [z2,z3,z4] at g5
 rw [z1,z2] at g3
 rw [z3] at g4
 rw [z1] at g2
 rw [z4]
 exact ⟨⟨_,g5,rfl⟩,h _ g5 g3 g4 (itObj_is g1) (itObj_is g2) z5 λc o x=>
  get?_push_of_some _ (get?_push_of_some _ (get?_push_of_some _ (get?_push_of_some _ (get?_push_of_some _ x))))⟩
end
def Itz (t1 t2:Bool) (K:Frag) (a b:Addr):It:=
 ⟨λi H=>∃ xs ys x y,SqV t1 K H a xs/\SqV t2 K H b ys/\xs[i]? = some x/\ys[i]? = some y,
  λi H v H'=>∃ p x y,v=.ref p/\H p=none/\H'=upd H p (.tup [x,y])/\(∀ xs,SqV t1 K H a xs->xs[i]? = some x)/\∀ ys,SqV t2 K H b ys->ys[i]? = some y,
  λi H=>∃ xs ys,SqV t1 K H a xs/\SqV t2 K H b ys/\(xs.length<=i\/ys.length<=i)⟩
def Zst (t1 t2:Bool) (z TI TO i1 i2 a b:Addr) (i:Nat) (h:Heap):Prop:=
 IsZip h z TI TO .none/\IsPair h TI (.ref i1) (.ref i2)/\(∃ x y,IsPair h TO x y)/\SqI t1 h i1 a i/\SqI t2 h i2 b i
structure ZDist (z TI TO i1 i2:Addr):Prop where
 TIz:TI ≠ z
 TOz:TO ≠ z
 i1z:i1 ≠ z
 i2z:i2 ≠ z
 TITO:TI ≠ TO
 TIi1:TI ≠ i1
 TIi2:TI ≠ i2
 TOi1:TO ≠ i1
 TOi2:TO ≠ i2
 i12:i1 ≠ i2
theorem Inv.turnedN {X:Cx} {pins:List (Addr × Obj)} {σ:St} {H:Hp} {s:Shared} {h':Heap} {t':Nat} {fp:List Addr} (I:Inv X pins σ H s) (k:∀ b o,b ∉ fp->s.heap.get? b=some o->h'.get? b=some o) (hf:∀ b ∈ fp,fN X pins H b):Inv X pins σ H { s with heap:=h',toks:=t' }:=by
 have nit:∀ b u,H b=some u->b ∉ fp:=λb u e z=>by rw [(hf b z).1] at e; cases e
 refine I.step (g':=s.gens) (d':=s.drawn) (ch:=fp) (λb hb=>?_) (λb o _ _ hc e _=>k b o hc e) (λb o _ _ hc e _=>⟨o.slots,k b o hc e⟩) (λ_ _ _ _ n=>n)
  (λb o hc e=>⟨o,k b o hc e⟩) (λ_ _ e=>e) (λ_ _ _ e=>e) (λb ps e=>⟨#[],by rw [e]; simp⟩) (λm hm=>?_) (λb u e=>?_) I.bare
 ·obtain ⟨f0,f1,f2,f3,f4,f5⟩:=hf b hb
  exact ⟨f3,f1,f4,f5⟩
 ·obtain ⟨o,es,ep,ho,r⟩:=hm
  exact ⟨o,es,ep,k _ o (λz=>(hf _ z).2.1 rfl) ho,r⟩
 ·refine (I.hok b u e).stay (λc v hc q=>k c v ?_ q) (λ_ q=>q) λ_ _ q=>q
  rcases hc with z | z
  ·rw [z]; exact nit b u e
  ·exact nit c _ z
theorem zdist (n:Nat):ZDist (n+4) (n+2) (n+3) n (n+1):=by
 constructor<;>(intro h; have h':(_:Nat)=_:=h; omega)
theorem dA {X:Cx} {pins:List (Addr × Obj)} {σ:St} {H:Hp} {s:Shared} {fp:List Addr} {t:Bool} {l:Addr} {vs:List V} (I:Inv X pins σ H s) (hf:∀ b ∈ fp,fN X pins H b) (q:SqV t X.K H l vs):l ∉ fp:=λhl=>by
 have hn:=hf l hl
 have old:∀ o,X.K.lookup l=some o->False:=λo hk=>by
  rcases hn.2.2.2.1 with z' | z'
  ·exact I.ok.noex l o (I.ok.mod.kin l o hk) z'
  ·exact absurd (Nat.lt_of_lt_of_le (lt_size (I.ok.bs l o (I.ok.mod.kin l o hk)).1) z') (Nat.lt_irrefl _)
 cases t
 ·rcases (show SqL X.K H l vs from q) with (q | ⟨o,q⟩) | ⟨o,_,_,hk,_⟩
  ·rw [hn.1] at q; cases q
  ·rw [hn.1] at q; cases q
  ·exact old o hk
 ·rcases (show SqT X.K H l vs from q) with (q | ⟨o,q⟩) | ⟨o,_,_,hk,_⟩
  ·rw [hn.1] at q; cases q
  ·rw [hn.1] at q; cases q
  ·exact old o hk
theorem turn_zip {P:Program} {w:World} {K:Frag} {es:List Expr} {ek:Nat} {ep:Pos} {t1 t2:Bool} (a b z TI TO i1 i2:Addr) (D:ZDist z TI TO i1 i2) :
  kz P w K (.Tuple es ek ep) (Itz t1 t2 K a b) [z,TI,TO,i1,i2] z (Zst t1 t2 z TI TO i1 i2 a b) where
 mem:=by simp
 obj:=λi h ⟨hz,hTI,⟨x,y,hTO⟩,h1,h2⟩ c hc=>by
  simp only [mem_cons,not_mem_nil,or_false] at hc
  rcases hc with rfl | rfl | rfl | rfl | rfl
  ·exact ⟨_,hz,λv z=>by cases z⟩
  ·exact ⟨_,hTI,λv z=>by cases z⟩
  ·exact ⟨_,hTO,λv z=>by cases z⟩
  ·exact h1.obj
  ·exact h2.obj
 keep:=λi h h' ⟨hz,hTI,⟨x,y,hTO⟩,h1,h2⟩ k=>
  ⟨k z (by simp) _ hz,k TI (by simp) _ hTI,⟨x,y,k TO (by simp) _ hTO⟩,h1.at λo e=>k i1 (by simp) o e,h2.at λo e=>k i2 (by simp) o e⟩
 item:=by
  intro X hP hw hK hc i pins s σ H E I hf st hg
  subst hP hw hK
  obtain ⟨xs,ys,x,y,qx,qy,hx,hy⟩:=hg
  obtain ⟨hz,hTI,⟨xo,yo,hTO⟩,h1,h2⟩:=st
  obtain ⟨ix,rx,px,zx⟩:=I.seqV qx
  obtain ⟨iy,ry,py,zy⟩:=I.seqV qy
  obtain ⟨u,hu,ru⟩:=rx.get hx
  obtain ⟨v,hv,rv⟩:=ry.get hy
  have inFp:∀ c,c ∈ [z,TI,TO,i1,i2]->H c=none:=λc hc=>(hf c hc).1
  have na:=dA I hf qx
  have nb:=dA I hf qy
  simp only [mem_cons,not_mem_nil,or_false,not_or] at na nb
  have DA:ZipApart z TI TO i1 i2 a b:=⟨D.TIz,D.TOz,D.i1z,D.i2z,D.TITO,D.TIi1,D.TIi2,D.TOi1,D.TOi2,D.i12,na.1,na.2.2.1,na.2.2.2.1,na.2.2.2.2,nb.1,nb.2.2.1,nb.2.2.2.1,nb.2.2.2.2⟩
  refine gI DA hz hTI hTO h1 h2 px py (x:=u) (y:=v) (by simpa using hu) (by simpa using hv) λh' a1 a2 a3 a4 a5 a6 hk=>?_
  refine ⟨_,rfl,wpAny_letOwnedTupleGo_zip a1 λh'' hz'' sb=>?_⟩
  have kk:∀ c o,c ∉ [z,TI,TO,i1,i2]->s.heap.get? c=some o->h''.get? c=some o:=λc o hc e=>by
   simp only [mem_cons,not_mem_nil,or_false,not_or] at hc
   exact (sb.2 c hc.1).trans (hk c o hc.1 hc.2.2.1 hc.2.2.2.1 hc.2.2.2.2 e)
  have lt5:∀ c ∈ [z,TI,TO,i1,i2],c<s.heap.objs.size:=λc hc=>by
   simp only [mem_cons,not_mem_nil,or_false] at hc
   rcases hc with rfl | rfl | rfl | rfl | rfl
   ·exact lt_size hz
   ·exact lt_size hTI
   ·exact lt_size hTO
   ·obtain ⟨o,e,_⟩:=h1.obj; exact lt_size e
   ·obtain ⟨o,e,_⟩:=h2.obj; exact lt_size e
  have nT:s.heap.objs.size ∉ [z,TI,TO,i1,i2]:=λhc=>absurd (lt5 _ hc) (Nat.lt_irrefl _)
  have hT:h''.get? s.heap.objs.size=some { cls:=.type "tuple",data:=.seq #[u,v] }:=(sb.2 _ (λe=>nT (by simp [e]))).trans a5
  have fresh:H s.heap.objs.size=none:=I.hok.fresh (Nat.le_refl _)
  have gT:(s.heap.push { cls:=.type "tuple",data:=.seq #[u,v] }).get? s.heap.objs.size=some { cls:=.type "tuple",data:=.seq #[u,v] }:=get?_push_size _ rfl
  have I1:Inv X pins σ (upd H s.heap.objs.size (.tup [x,y])) { s with heap:=s.heap.push { cls:=.type "tuple",data:=.seq #[u,v] },toks:=s.toks }:=
   I.laid (λb o e=>get?_push_of_some _ e) (Nat.le_refl _) ⟨by show 2<=sizeLine; decide,[u,v],.cons ru (.cons rv .nil),_,gT,rfl,_,rfl⟩
  have fp1:∀ c ∈ [z,TI,TO,i1,i2],fN X pins (upd H s.heap.objs.size (.tup [x,y])) c:=λc hc=>
   ⟨by rw [au (Nat.ne_of_lt (lt5 c hc))]; exact (hf c hc).1,(hf c hc).2⟩
  have I2:=I1.turnedN (h':=h'') (t':=s.toks) (fp:=[z,TI,TO,i1,i2]) (λc o hc e=>by
   rcases Heap.get?_push_cases e with ⟨e1,e2⟩ | e1
   ·rw [e1,e2]
    exact hT
   ·exact kk c o hc e1) fp1
  refine ⟨.ref s.heap.objs.size,_,I2,rfl,⟨_,x,y,rfl,fresh,rfl,λxs' q=>by rw [I.seqV_inj q qx]; exact hx,λys' q=>by rw [I.seqV_inj q qy]; exact hy⟩,?_,λc hc=>(fp1 c hc).1⟩
  exact ⟨hz'',(sb.2 _ D.TIz).trans (hk _ _ D.TIz D.TITO D.TIi1 D.TIi2 hTI),⟨u,v,(sb.2 _ D.TOz).trans a2⟩,a3.at λo e=>(sb.2 _ D.i1z).trans e,a4.at λo e=>(sb.2 _ D.i2z).trans e⟩
 done:=by
  intro X hP hw hK hc i pins s σ H E I hf st hg
  subst hP hw hK
  obtain ⟨xs,ys,qx,qy,hend⟩:=hg
  obtain ⟨hz,hTI,⟨xo,yo,hTO⟩,h1,h2⟩:=st
  obtain ⟨ix,rx,px,zx⟩:=I.seqV qx
  obtain ⟨iy,ry,py,zy⟩:=I.seqV qy
  have na:=dA I hf qx
  have nb:=dA I hf qy
  simp only [mem_cons,not_mem_nil,or_false,not_or] at na nb
  have DA:ZipApart z TI TO i1 i2 a b:=⟨D.TIz,D.TOz,D.i1z,D.i2z,D.TITO,D.TIi1,D.TIi2,D.TOi1,D.TOi2,D.i12,na.1,na.2.2.1,na.2.2.2.1,na.2.2.2.2,nb.1,nb.2.2.1,nb.2.2.2.1,nb.2.2.2.2⟩
  have lx:=rx.length
  have ly:=ry.length
  refine hJ (I.ok.hd hc) DA hz hTI hTO h1 h2 px py ?_ λh' hk=>⟨rfl,I.turnedN (t':=s.toks) (λc o hc e=>?_) hf⟩
  ·rcases hend with q | q
   ·exact .inl (by simp; omega)
   ·exact .inr (by simp; omega)
  ·simp only [mem_cons,not_mem_nil,or_false,not_or] at hc
   exact hk c o hc.1 hc.2.2.1 hc.2.2.2.1 hc.2.2.2.2 e
 self:=λ_ _ _ _ _ st h=>wpAny_pyIter_zip st.1 h
def iZip (t1 t2:Bool) (K:Frag) (ta:TA):TI:=λσ H R=>ta σ H λvs H1=>∃ a b,vs=[.ref a,.ref b]/\(∃ xs,SqV t1 K H1 a xs)/\(∃ ys,SqV t2 K H1 b ys)/\R (Itz t1 t2 K a b) H1
theorem pi_zip {X:Cx} (t1 t2:Bool) {es:List Expr} {ek:Nat} {ep:Pos} {a b:Expr} {ta:TA} {p pos:Pos} (hg:Gl X "zip") (hm:X.mg "zip" = none) (ha:PA X [a,b] ta) (hs:starEach [a,b] X.env=[(false,eval a X.env),(false,eval b X.env)]:=by rfl) (hs2:starEach [b] X.env=[(false,eval b X.env)]:=by rfl) :
  PI X (.Tuple es ek ep) (.Call (.Name "zip" p) [a,b] [] pos) (iZip t1 t2 X.K ta):=by
 intro pins s σ H R I h
 refine Call_ (eR I hg hm boot_zip (PyProof.Rows.callWith_type1 (thn (ha pos pins s σ H _ I h) λus s1 ⟨vs,H1,I1,r1,q1⟩=>?_) (by rw [hs,hs2]) (by rw [hs2]; rfl)))
 obtain ⟨l1,l2,e,⟨xs,qx⟩,⟨ys,qy⟩,q⟩:=q1
 subst e
 cases r1 with
 | cons r rr=>
  cases rr with
  | cons r' rr=>
   cases rr
   cases r
   cases r'
   obtain ⟨ix,rx,px,zx⟩:=I1.seqV qx
   obtain ⟨iy,ry,py,zy⟩:=I1.seqV qy
   refine call_zipN px py λh' a1 a2 a3 a4 a5 a6 a7=>?_
   have I2:Inv X pins σ H1 { s1 with heap:=h',toks:=s1.toks }:=I1.kept a7
   refine wpAny_pyIter_zip (s:={ s1 with heap:=h' }) a1 ?_
   refine ⟨_,[s1.heap.objs.size+4,s1.heap.objs.size+2,s1.heap.objs.size+3,s1.heap.objs.size,s1.heap.objs.size+1],_,_,H1,rfl,I2,turn_zip l1 l2 (s1.heap.objs.size+4) (s1.heap.objs.size+2) (s1.heap.objs.size+3) s1.heap.objs.size (s1.heap.objs.size+1) (zdist _),⟨a1,a2,⟨_,_,a3⟩,a4,a5⟩,λb hb=>?_,q⟩
   have hb':s1.heap.objs.size<=b:=by
    simp only [mem_cons,not_mem_nil,or_false] at hb
    rcases hb with rfl | rfl | rfl | rfl | rfl
    ·exact Nat.le_add_right _ _
    ·exact Nat.le_add_right _ _
    ·exact Nat.le_add_right _ _
    ·exact Nat.le_refl _
    ·exact Nat.le_add_right _ _
   exact I1.fpOk hb' (I1.hok.fresh hb')
mutual
inductive DR (K:Frag) (H:Hp):PyData->V->Prop
 | non:DR K H .none .non
 | bl (b:Bool):DR K H (.bool b) (.bl b)
 | int (i:Int):DR K H (.int i) (.int i)
 | str (x:Str):DR K H (.str x) (.str x)
 | tup {a:Addr} {vs:List V} {ds:List PyData}:SqT K H a vs->DRs K H ds vs->DR K H (.tuple ds) (.ref a)
 | lst {a:Addr} {vs:List V} {ds:List PyData}:SqL K H a vs->DRs K H ds vs->DR K H (.list ds) (.ref a)
inductive DRs (K:Frag) (H:Hp):List PyData->List V->Prop
 | nil:DRs K H [] []
 | cons {d:PyData} {v:V} {ds:List PyData} {vs:List V}:DR K H d v->DRs K H ds vs->DRs K H (d::ds) (v::vs)
end
section
variable {X:Cx} {pins:List (Addr × Obj)} {σ:St} {H:Hp} {s:Shared}
mutual
theorem DR.reads (I:Inv X pins σ H s):∀ {d:PyData} {v:V} {u:Value},DR X.K H d v->k9 v u->∃ as,Reads s.heap u d as
 | _,_,_,.non,r=>by cases (show _=Value.none from r); exact ⟨_,.none⟩
 | _,_,_,.bl b,r=>by cases (show _=Value.bool b from r); exact ⟨_,.bool b⟩
 | _,_,_,.int i,r=>by obtain ⟨t,q⟩:=(show ∃ t,_=Value.int i t from r); subst q; exact ⟨_,.int i t⟩
 | _,_,_,.str x,r=>by obtain ⟨t,q⟩:=(show ∃ t,_=Value.str x t from r); subst q; exact ⟨_,.str x t⟩
 | _,_,_,.tup (a:=a) q qs,r=>by
  cases (show _=Value.ref a from r)
  obtain ⟨its,rv,⟨o,e,c,n,d⟩,z⟩:=I.tuple q
  obtain ⟨as,ra⟩:=DRs.reads I qs rv
  exact ⟨as,.tuple e c d (by simpa using ra)⟩
 | _,_,_,.lst (a:=a) q qs,r=>by
  cases (show _=Value.ref a from r)
  obtain ⟨its,rv,⟨o,n,e,c,_,d⟩,z⟩:=I.list q
  obtain ⟨as,ra⟩:=DRs.reads I qs rv
  exact ⟨_,.list e c d (by simpa using ra)⟩
theorem DRs.reads (I:Inv X pins σ H s):∀ {ds:List PyData} {vs:List V} {us:List Value},DRs X.K H ds vs->kY vs us->∃ as,ReadsAll s.heap us ds as
 | _,_,_,.nil,r=>by cases r; exact ⟨_,.nil⟩
 | _,_,_,.cons q qs,r=>by
  cases r with
  | cons r rr=>
   obtain ⟨as,ra⟩:=DR.reads I q r
   obtain ⟨bs,rb⟩:=DRs.reads I qs rr
   exact ⟨_,.cons ra rb⟩
end
def rEqD (K:Frag):R2:=λx y H Q=>∃ d e,DR K H d x/\DR K H e y/\SeqAt.shaped d=true/\SeqAt.shaped e=true/\Q (.bl (PyData.eqv d e)) H
def rNeD (K:Frag):R2:=λx y H Q=>∃ d e,DR K H d x/\DR K H e y/\SeqAt.shaped d=true/\SeqAt.shaped e=true/\Q (.bl (!PyData.eqv d e)) H
theorem op_eqD (hu:X.A.units+64<cLine):OpR X (compareOp .Eq) (rEqD X.K):=by
 intro pins s σ H x y v u Q I rx ry h
 obtain ⟨d,e,dx,dy,sx,sy,q⟩:=h
 obtain ⟨as,ra⟩:=dx.reads I rx
 obtain ⟨bs,rb⟩:=dy.reads I ry
 exact eq_dataH ra rb sx sy hu ⟨.bl _,H,I,rfl,q⟩
theorem op_neD (hu:X.A.units+64<cLine):OpR X (compareOp .NotEq) (rNeD X.K):=by
 intro pins s σ H x y v u Q I rx ry h
 obtain ⟨d,e,dx,dy,sx,sy,q⟩:=h
 obtain ⟨as,ra⟩:=dx.reads I rx
 obtain ⟨bs,rb⟩:=dy.reads I ry
 exact ne_dataH ra rb sx sy hu ⟨.bl _,H,I,rfl,q⟩
end
def dv (ns:List Int):PyData:=.tuple (ns.map .int)
theorem drs_ints {K:Frag} {H:Hp}:∀ ns:List Int,DRs K H (ns.map PyData.int) (ns.map V.int)
 | []=>.nil
 | n::r=>.cons (.int n) (drs_ints r)
theorem fg {K:Frag} {H:Hp} {a:Addr} {ns:List Int} (h:SqT K H a (ns.map V.int)):DR K H (dv ns) (.ref a):=.tup h (drs_ints ns)
theorem bP (ns:List Int):SeqAt.shaped (dv ns)=true:=by
 simp [dv,SeqAt.shaped,PyData.canLay0,PyData.depth,PySem.W.ke_canLayAll0,PySem.W.ke_depthAll]
theorem g7:∀ ns ms:List Int,PyData.eqvAll (ns.map PyData.int) (ms.map PyData.int)=decide (ns=ms)
 | [],[]=>by simp [PyData.eqvAll]
 | [],_::_=>by simp [PyData.eqvAll]
 | _::_,[]=>by simp [PyData.eqvAll]
 | a::r,b::t=>by
  simp only [map_cons,PyData.eqvAll,PyData.eqv,g7 r t]
  by_cases h:a=b<;>by_cases h':r=t<;>simp [h,h']
theorem ip (ns ms:List Int):PyData.eqv (dv ns) (dv ms)=decide (ns=ms):=by
 simp only [dv,PyData.eqv]; exact g7 ns ms
section
variable {X:Cx}
theorem Walks.sq {prog:Program} {w:World} {A:Around} (t:Bool) (hh:A.handled=none) (I ax:Addr) (hne:ax ≠ I) (items:Array Value) :
  Walks prog w A I [I,ax] [I] items.size (λi v=>items[i]? = some v) (λi h=>SqI t h I ax i/\SqO t h ax items):=by
 cases t
 ·exact Walks.list hh I ax hne items
 ·exact Walks.tuple hh I ax hne items
theorem call_allV (hc:X.calm=true) (t:Bool):cE X (.builtin "all") (λxs H Q=>∃ (p:Addr) (bs:List Bool),xs=[.ref p]/\SqV t X.K H p (bs.map V.bl)/\Q (.bl (bs.all id)) H):=by
 intro pins s σ H xs us Q I rv h
 obtain ⟨p,bs,rfl,q,hq⟩:=h
 obtain ⟨u,rfl,ru⟩:=eG rv
 cases ru
 obtain ⟨its,rb,po,z⟩:=I.seqV q
 have hh:X.A.in1.handled=none:=I.ok.hd hc
 refine call_all_walk (ju po λo hi=>?_)
 have hlt:p<s.heap.objs.size:=by obtain ⟨ob,e⟩:=po.obj; exact lt_size e
 refine ⟨s.heap.objs.size,_,_,_,_,_,λi=>bs.getD i false,rfl,Walks.sq t hh s.heap.objs.size p (Nat.ne_of_lt hlt) its.toArray,⟨hi,po.at λo' e=>get?_push_of_some _ e⟩,?_,λh' tk hk=>?_⟩
 ·intro i v s' Q' E' hv hQ
  have hv':its[i]? = some v:=by simpa using hv
  have hlen:=rb.length
  have hil:i<its.length:=(List.getElem?_eq_some_iff.mp hv').1
  rw [length_map] at hlen
  have hb:(bs.map V.bl)[i]? = some (.bl (bs.getD i false)):=by
   rw [getElem?_map,getD_eq_getElem?_getD,getElem?_eq_getElem (by omega)]
   rfl
  obtain ⟨u,hu,ru⟩:=rb.get hb
  rw [hv'] at hu
  cases hu
  cases (show v=Value.bool _ from ru)
  exact wpAny_truthy_bool hQ
 ·have I1:Inv X pins σ H { s with heap:=s.heap.push o,toks:=s.toks }:=I.kept λb u e=>get?_push_of_some _ e
  have fp:fN X pins H s.heap.objs.size:=I.fpOk (Nat.le_refl _) (I.hok.fresh (Nat.le_refl _))
  have I2:Inv X pins σ H { s with heap:=h',toks:=tk }:=by
   have:=I1.turnedN (fp:=[s.heap.objs.size]) (h':=h') (t':=tk) (λb ob hb e=>hk b ob hb e) (λb hb=>by have e:b=s.heap.objs.size:=by simpa using hb
                                                                                                     subst e; exact fp)
   exact this
  refine ⟨.bl (bs.all id),H,I2,?_,hq⟩
  show Value.bool _=Value.bool _
  congr 1
  have hlen:=rb.length
  rw [length_map] at hlen
  have hsz:its.toArray.size=bs.length:=by simp [hlen]
  rw [hsz]
  rw [Bool.eq_iff_iff]
  simp only [all_eq_true,List.mem_range]
  constructor
  ·intro h b hb
   obtain ⟨i,hi,rfl⟩:=List.getElem_of_mem hb
   have:=h i hi
   simpa [getD_eq_getElem?_getD,getElem?_eq_getElem hi] using this
  ·intro h i hi
   have:=h (bs[i]) (List.getElem_mem hi)
   simpa [getD_eq_getElem?_getD,getElem?_eq_getElem hi] using this
theorem preSum_list (ns:List Int):∀ k,k<=ns.length->preSum (λi=>ns.getD i 0) k=(ns.take k).sum:=by
 intro k
 induction k with
 | zero=>intro _; rfl
 | succ k ih=>
  intro h
  have e:=ih (by omega)
  show preSum _ k+_=_
  rw [e,take_succ,sum_append,getElem?_eq_getElem (by omega)]
  show _+ns.getD k 0=_
  rw [getD_eq_getElem?_getD,getElem?_eq_getElem (by omega)]
  simp
theorem call_sumV (hc:X.calm=true) (t:Bool):cE X (.builtin "sum") (λxs H Q=>∃ (p:Addr) (ns:List Int),xs=[.ref p]/\SqV t X.K H p (ns.map V.int)/\Q (.int ns.sum) H):=by
 intro pins s σ H xs us Q I rv h
 obtain ⟨p,ns,rfl,q,hq⟩:=h
 obtain ⟨u,rfl,ru⟩:=eG rv
 cases ru
 obtain ⟨its,rb,po,z⟩:=I.seqV q
 have hh:X.A.in1.handled=none:=I.ok.hd hc
 refine call_sum_walkG (ju po λo hi=>?_)
 have hlt:p<s.heap.objs.size:=by obtain ⟨ob,e⟩:=po.obj; exact lt_size e
 refine ⟨s.heap.objs.size,_,_,_,_,_,λi=>ns.getD i 0,rfl,Walks.sq t hh s.heap.objs.size p (Nat.ne_of_lt hlt) its.toArray,⟨hi,po.at λo' e=>get?_push_of_some _ e⟩,λb hb=>?_,?_,λh' tk t' hk=>?_⟩
 ·show b<(s.heap.push o).objs.size
  rw [size_push]
  rcases List.mem_cons.mp hb with rfl | hb
  ·exact Nat.lt_succ_self _
  ·rcases List.mem_cons.mp hb with rfl | hb
   ·exact Nat.lt_succ_of_lt hlt
   ·cases hb
 ·intro i v hv
  have hv':its[i]? = some v:=by simpa using hv
  have hlen:=rb.length
  have hil:i<its.length:=(List.getElem?_eq_some_iff.mp hv').1
  rw [length_map] at hlen
  have hb:(ns.map V.int)[i]? = some (.int (ns.getD i 0)):=by
   rw [getElem?_map,getD_eq_getElem?_getD,getElem?_eq_getElem (by omega)]
   rfl
  obtain ⟨u,hu,ru⟩:=rb.get hb
  rw [hv'] at hu
  cases hu
  exact ru
 ·have I1:Inv X pins σ H { s with heap:=s.heap.push o,toks:=s.toks }:=I.kept λb u e=>get?_push_of_some _ e
  have fp:fN X pins H s.heap.objs.size:=I.fpOk (Nat.le_refl _) (I.hok.fresh (Nat.le_refl _))
  have I2:Inv X pins σ H { s with heap:=h',toks:=tk }:=by
   have:=I1.turnedN (fp:=[s.heap.objs.size]) (h':=h') (t':=tk) (λb ob hb e=>hk b ob hb e) (λb hb=>by have e:b=s.heap.objs.size:=by simpa using hb
                                                                                                     subst e; exact fp)
   exact this
  have hlen:=rb.length
  rw [length_map] at hlen
  have hsz:its.toArray.size=ns.length:=by simp [hlen]
  refine ⟨.int ns.sum,H,I2,⟨t',?_⟩,hq⟩
  rw [hsz,preSum_list ns _ (Nat.le_refl _),take_of_length_le (Nat.le_refl _)]
end
end L2
namespace L2
open PySem PySem.Spec PyProof.Rows
section
variable {X:Cx} {pos:Pos}
def rIsT (K:Frag):List V->Hp->VK->Prop:=λxs H Q=>∃ (x:V) (t:Value) (c:String) (b:Bool),xs=[x,.ty c]/\lR K H x t/\kitOne K t (.type c)=some b/\Q (.bl b) H
theorem call_isT:cE X (.builtin "isinstance") (rIsT X.K):=by
 intro pins s σ H xs us Q I rv h
 obtain ⟨x,t,c,b,rfl,ty,e,q⟩:=h
 obtain ⟨u,u',rfl,r1,r2⟩:=vals2 rv
 cases (show u'=Value.type c from r2)
 exact isinst_ok I r1 ty e λtk=>⟨.bl b,H,I.tok tk,rfl,q⟩
theorem boot_isinst:bootBuiltins "isinstance"=some (.builtin "isinstance"):=by decide +kernel
theorem boot_all':bootBuiltins "all"=some (.builtin "all"):=by decide +kernel
theorem boot_sum':bootBuiltins "sum"=some (.builtin "sum"):=by decide +kernel
theorem boot_max':bootBuiltins "max"=some (.builtin "max"):=by decide +kernel
theorem boot_abs':bootBuiltins "abs"=some (.builtin "abs"):=by decide +kernel
theorem cP:bootBuiltins "tuple"=some (.type "tuple"):=by decide +kernel
theorem ir:bootBuiltins "list"=some (.type "list"):=by decide +kernel
theorem br:bootBuiltins "int"=some (.type "int"):=by decide +kernel
theorem boot_bool':bootBuiltins "bool"=some (.type "bool"):=by decide +kernel
theorem cS:OpR X (binaryOp .Mult) (rI IntMulOk λi j=>.int (i*j)):=opI λ_ _ _ _ _ _ _ hc q=>mul_int q hc
end
structure FnB (P:Program) (w:World) (K:Frag) (mg:Str->Option Value) (base:Heap) (k:Nat) (x:Str) (sp:Sp):Prop where
 ex:∃ f fd ps,kZ P w K mg base CX0 k f fd ps sp/\mg x=some (.ref f)/\keepIn K (.ref f)=true/\lL K fd ps []
structure Blt (mg:Str->Option Value):Prop where
 len:mg "len" = none
 range:mg "range" = none
 zip:mg "zip" = none
 all:mg "all" = none
 sum:mg "sum" = none
 max:mg "max" = none
 min:mg "min" = none
 abs:mg "abs" = none
 tuple:mg "tuple" = none
 list:mg "list" = none
 int:mg "int" = none
 bool:mg "bool" = none
 isinst:mg "isinstance" = none
 enum:mg "enumerate" = none
 sorted:mg "sorted" = none
 set:mg "set" = none
 str:mg "str" = none
section
variable {X:Cx} {p pos:Pos} {e e2:Expr} {es:List Expr} {t:TA} {te te2:TE}
theorem aB {x:Str} {k:Nat} {sp:Sp} (F:FnB X.prog X.w X.K X.mg X.base k x sp) (hr:lA k X.A) (ha:PA X (e::es) t) (hg:Gl X x:=by rfl) (hdb:(x == ("__debug__" : Str))=false:=by decide)
  (he:starEach (e::es) X.env=(false,eval e X.env)::starEach es X.env:=by rfl) (hpl:(backTo pos (starEach es X.env)).any (·.1)=false:=by rfl):PE X (.Call (.Name x p) (e::es) [] pos) (tCall sp [] E0 t):=by
 obtain ⟨f,fd,ps,F',hm,hk,hb⟩:=F.ex
 exact pe_call F' hr hg hm hk hb .nil pass0 ha hdb he hpl
theorem pl_len (T:Blt X.mg) (ha:PE X e te) (hg:Gl X "len":=by rfl) (hs:starEach [e] X.env=[(false,eval e X.env)]:=by rfl):PE X (.Call (.Name "len" p) [e] [] pos) (tCB (λxs H Q=>∃ p ys,xs=[.ref p]/\(SqL X.K H p ys\/SqT X.K H p ys)/\Q (.int ys.length) H) (cc te er)):=
 cI kK hg T.len PySem.boot_len (aa ha ag hs) (by decide) (by decide) hs
theorem pl_all (T:Blt X.mg) (ha:PE X e te) (b:Bool) (hc:X.calm=true:=by rfl) (hg:Gl X "all":=by rfl) (hs:starEach [e] X.env=[(false,eval e X.env)]:=by rfl):PE X (.Call (.Name "all" p) [e] [] pos) (tCB (λxs H Q=>∃ (p:Addr) (bs:List Bool),xs=[.ref p]/\SqV b X.K H p (bs.map V.bl)/\Q (.bl (bs.all id)) H) (cc te er)):=
 cI (call_allV hc b) hg T.all boot_all' (aa ha ag hs) (by decide) (by decide) hs
theorem pl_sum (T:Blt X.mg) (ha:PE X e te) (b:Bool) (hc:X.calm=true:=by rfl) (hg:Gl X "sum":=by rfl) (hs:starEach [e] X.env=[(false,eval e X.env)]:=by rfl):PE X (.Call (.Name "sum" p) [e] [] pos) (tCB (λxs H Q=>∃ (p:Addr) (ns:List Int),xs=[.ref p]/\SqV b X.K H p (ns.map V.int)/\Q (.int ns.sum) H) (cc te er)):=
 cI (call_sumV hc b) hg T.sum boot_sum' (aa ha ag hs) (by decide) (by decide) hs
theorem pl_tuple (T:Blt X.mg) (ha:PE X e te) (hg:Gl X "tuple":=by rfl) (hs:starEach [e] X.env=[(false,eval e X.env)]:=by rfl):PE X (.Call (.Name "tuple" p) [e] [] pos) (tCB (λxs H Q=>∃ p ys,xs=[.ref p]/\SqL X.K H p ys/\∀ l,H l=none->Q (.ref l) (upd H l (.tup ys))) (cc te er)):=by
 refine aI (r:=λxs H Q=>∃ p ys,xs=[.ref p]/\SqL X.K H p ys/\∀ l,H l=none->Q (.ref l) (upd H l (.tup ys))) ?_ hg T.tuple cP (aa ha ag hs) (by decide) (by decide) hs
 intro pins s σ H xs us Q I rv h
 obtain ⟨p,ys,rfl,q,hq⟩:=h
 exact jo pins s σ H _ us Q I rv ⟨p,ys,rfl,.inl ⟨q,hq⟩⟩
theorem pl_max (T:Blt X.mg) (ha:PA X [e,e2] t) (hc:X.calm=true:=by rfl) (hg:Gl X "max":=by rfl) (he:starEach [e,e2] X.env=(false,eval e X.env)::starEach [e2] X.env:=by rfl) (hpl:(backTo pos (starEach [e2] X.env)).any (·.1)=false:=by rfl) :
  PE X (.Call (.Name "max" p) [e,e2] [] pos) (tCB (λxs H Q=>∃ i j,xs=[.int i,.int j]/\Q (.int (if j > i then j else i)) H) t):=
 cI (call_max2 hc) hg T.max boot_max' ha (by decide) (by decide) he hpl
theorem jb (T:Blt X.mg) (ha:PE X e te) (hg:Gl X "abs":=by rfl) (hs:starEach [e] X.env=[(false,eval e X.env)]:=by rfl):PE X (.Call (.Name "abs" p) [e] [] pos) (tCB (λxs H Q=>∃ i,xs=[.int i]/\Q (.int (if i<0 then -i else i)) H) (cc te er)):=
 cI call_abs hg T.abs boot_abs' (aa ha ag hs) (by decide) (by decide) hs
def rIsM (K:Frag):List V->Hp->VK->Prop:=λxs H Q=>match xs with
 | [x,.ty c]=>∃ (t:Value) (b:Bool),lR K H x t/\kitOne K t (.type c)=some b/\Q (.bl b) H
 | _=>False
theorem call_isM:cE X (.builtin "isinstance") (rIsM X.K):=by
 intro pins s σ H xs us Q I rv h
 unfold rIsM at h
 split at h
 ·obtain ⟨t,b,ty,e,q⟩:=h
  exact call_isT pins s σ H _ us Q I rv ⟨_,t,_,b,rfl,ty,e,q⟩
 ·exact h.elim
theorem pl_is {cn:Str} {c:String} {p2:Pos} (T:Blt X.mg) (ha:PE X e te) (hm:X.mg cn=none) (hv:bootBuiltins cn=some (.type c)) (hg:Gl X "isinstance":=by rfl) (hg2:Gl X cn:=by rfl) (hn:cn ≠ "__name__":=by decide) (hd:(cn == ("__debug__" : Str))=false:=by decide)
  (he:starEach [e,.Name cn p2] X.env=(false,eval e X.env)::starEach [.Name cn p2] X.env:=by rfl) (he2:starEach [.Name cn p2] X.env=[(false,eval (.Name cn p2) X.env)]:=by rfl) :
  PE X (.Call (.Name "isinstance" p) [e,.Name cn p2] [] pos) (tCB (rIsM X.K) (cc te (cc (tC (.ty c)) er))):=
 cI (X:=X) (p:=p) (pos:=pos) call_isM hg T.isinst boot_isinst (aa ha (aa (pe_bltn (v:=.ty c) (pos:=p2) hg2 hm hv rfl hn hd) ag he2) he) (by decide) (by decide) he (by rw [he2]; rfl)
end
theorem gd {J:It} {n:Nat} {acc:Addr} {g:TG} {tt:TT} {te:TE} {Q:VK} {σ0:St} {H0:Hp} (Pv:Nat->List V->St->Hp->Prop) (hn:n<=sizeLine) (h0:Pv 0 [] σ0 (upd H0 acc (.lst [])))
  (hgo:∀ i zs σ H,i<n->H acc=some (.lst zs)->Pv i zs σ H->J.go i H)
  (hst:∀ zs σ H,H acc=some (.lst zs)->Pv n zs σ H->J.stop n H)
  (hs:∀ i zs σ H x H',i<n->H acc=some (.lst zs)->zs.length<=i->Pv i zs σ H->J.yld i H x H'->g x σ H' λσ2 H2=>tt σ2 H2 λb H3=>
   if b=true then te σ2 H3 λy H4=>∃ ys,H4 acc=some (.lst ys)/\ys.length<sizeLine/\∃ zs,(upd H4 acc (.lst (ys++[y]))) acc=some (.lst zs)/\zs.length<=i+1/\Pv (i+1) zs σ2 (upd H4 acc (.lst (ys++[y])))
   else ∃ zs,H3 acc=some (.lst zs)/\zs.length<=i+1/\Pv (i+1) zs σ2 H3)
  (hd:∀ zs σ H,H acc=some (.lst zs)->zs.length<=n->Pv n zs σ H->Q (.ref acc) H) :
  ∃ W:Nat->Nat->St->Hp->Prop,(∃ m,W 0 m σ0 (upd H0 acc (.lst [])))/\∀ i m σ H,W i m σ H->
   (J.stop i H/\Q (.ref acc) H)\/(J.go i H/\∃ N:St->Hp->Prop,(∀ σ' H',N σ' H'->∃ m',m' < m/\W (i+1) m' σ' H')/\∀ x H',J.yld i H x H'->g x σ H' λσ2 H2=>tt σ2 H2 λb H3=>
    if b=true then te σ2 H3 λy H4=>∃ ys,H4 acc=some (.lst ys)/\ys.length<sizeLine/\N σ2 (upd H4 acc (.lst (ys++[y]))) else N σ2 H3):=by
 refine ⟨λi m σ H=>m=n-i/\i<=n/\∃ zs,H acc=some (.lst zs)/\zs.length<=i/\Pv i zs σ H,⟨n,by simp,Nat.zero_le _,[],af,Nat.le_refl _,h0⟩,?_⟩
 rintro i m σ H ⟨rfl,hi,zs,hz,hl,p⟩
 by_cases hlt:i<n
 ·refine .inr ⟨hgo i zs σ H hlt hz p,λσ' H'=>∃ zs,H' acc=some (.lst zs)/\zs.length<=i+1/\Pv (i+1) zs σ' H',λσ' H' p'=>⟨n-(i+1),by omega,rfl,hlt,p'⟩,λx H' y=>?_⟩
  exact hs i zs σ H x H' hlt hz hl p y
 ·have e:i=n:=by omega
  subst e
  exact .inl ⟨hst zs σ H hz p,hd zs σ H hz hl p⟩
theorem kW.sqT {K:Frag} {H H':Hp} {a:Addr} {xs:List V} (e:kW H H') (h:SqT K H a xs):SqT K H' a xs:=by
 rcases h with (h | ⟨o,h⟩) | h
 ·exact .inl (.inl (e _ _ h))
 ·exact .inl (.inr ⟨o,e _ _ h⟩)
 ·exact .inr h
theorem kW.new {H:Hp} {a:Addr} {o:HO} (h:H a=none):kW H (upd H a o):=λb u e=>by rw [au (aC e h)]; exact e
theorem kW.put {H H':Hp} {a:Addr} {o:HO} (s:kW H H') (h:H a=none):kW H (upd H' a o):=λb u e=>by rw [au (aC e h)]; exact s b u e
theorem iO {α β:Type} (f:α->β) (xs:List α) (i:Nat) (x:α) (hx:xs[i]? = some x):(xs.map f).take (i+1)=(xs.map f).take i++[f x]:=by
 rw [take_succ,getElem?_map,hx]
 rfl
theorem comp_tup {K:Frag} {a:Addr} {xs:List V} {te:TE} {Q:VK} {rest:St} {src:List (Option Nat)} {σ:St} {H0:Hp} (f:V->V) (hσ:du src σ=none::rest) (hx:SqT K H0 a xs) (hl:xs.length<=sizeLine)
  (he:∀ (i:Nat) x H (R:VK),xs[i]? = some x->kW H0 H->R (f x) H->te (some x::rest) H R)
  (hd:∀ acc H,H0 acc=none->kW H0 H->H acc=some (.lst (xs.map f))->Q (.ref acc) H) :
  dG (Itt K a) src (dm 0) tYes te σ H0 Q:=by
 intro acc hacc
 rw [hσ]
 have hlen:(xs.map f).length=xs.length:=length_map ..
 refine gd (n:=xs.length) (λi zs σ H=>kW H0 H/\zs=(xs.map f).take i/\∃ u,σ=u::rest) (by omega) ⟨kW.new hacc,rfl,none,rfl⟩ ?_ ?_ ?_ ?_
 ·rintro i zs σ H hi hz ⟨sm,_⟩
  exact ⟨xs,xs[i],sm.sqT hx,by simp⟩
 ·rintro zs σ H hz ⟨sm,_⟩
  exact ⟨xs,sm.sqT hx,Nat.le_refl _⟩
 ·rintro i zs σ H x H' hi hz hzl ⟨sm,ez,u,rfl⟩ ⟨rfl,gx⟩
  have hx1:=gx xs (sm.sqT hx)
  show te (some x::rest) _ _
  refine he i x _ _ hx1 sm ?_
  refine ⟨zs,hz,by omega,zs++[f x],af,by rw [length_append,length_singleton]; omega,sm.put hacc,?_,_,rfl⟩
  rw [iO f xs i x hx1,ez]
 ·rintro zs σ H hz hzl ⟨sm,ez,_⟩
  refine hd acc H hacc sm ?_
  rw [hz,ez,take_of_length_le (by omega)]
theorem eY {J:It} {n:Nat} {src:List (Option Nat)} {g:TG} {tt:TT} {te:TE} {Q:VK} {σ σ0:St} {H0:Hp} (hσ:du src σ=σ0) (Pv:Addr->Nat->List V->St->Hp->Prop) (hn:n<=sizeLine) (h0:∀ acc,H0 acc=none->Pv acc 0 [] σ0 (upd H0 acc (.lst [])))
  (hgo:∀ acc i zs σ H,H0 acc=none->i<n->H acc=some (.lst zs)->Pv acc i zs σ H->J.go i H)
  (hst:∀ acc zs σ H,H0 acc=none->H acc=some (.lst zs)->Pv acc n zs σ H->J.stop n H)
  (hs:∀ acc i zs σ H x H',H0 acc=none->i<n->H acc=some (.lst zs)->zs.length<=i->Pv acc i zs σ H->J.yld i H x H'->g x σ H' λσ2 H2=>tt σ2 H2 λb H3=>
   if b=true then te σ2 H3 λy H4=>∃ ys,H4 acc=some (.lst ys)/\ys.length<sizeLine/\∃ zs,(upd H4 acc (.lst (ys++[y]))) acc=some (.lst zs)/\zs.length<=i+1/\Pv acc (i+1) zs σ2 (upd H4 acc (.lst (ys++[y])))
   else ∃ zs,H3 acc=some (.lst zs)/\zs.length<=i+1/\Pv acc (i+1) zs σ2 H3)
  (hd:∀ acc zs σ H,H0 acc=none->H acc=some (.lst zs)->zs.length<=n->Pv acc n zs σ H->Q (.ref acc) H):dG J src g tt te σ H0 Q:=by
 intro acc hacc
 rw [hσ]
 exact gd (Pv acc) hn (h0 acc hacc) (λi zs σ H=>hgo acc i zs σ H hacc) (λzs σ H=>hst acc zs σ H hacc) (λi zs σ H x H'=>hs acc i zs σ H x H' hacc) (λzs σ H=>hd acc zs σ H hacc)
theorem cR {X:Cx} {i:Nat} {x:Str} {pos:Pos} (hN:X.N.Nodup) (hi:X.N[i]? = some x) (hx:X.env.scope.names.lookup x=some .local):PG X (.Name x pos) (dm i):=bY hN hi (.inl hx) (.inr hx)
section
variable {X:Cx} (K:Frag) {p pos:Pos} {e e2:Expr} {es:List Expr} {t:TA} {te te2:TE}
theorem e8 {i j:Nat} {x y:Str} {p1 p2 pos:Pos} {k:Nat} (hK:X.K=K) (hc:X.calm=true) (hN:X.N.Nodup) (hi:X.N[i]? = some x) (hj:X.N[j]? = some y) (hx:X.env.scope.names.lookup x=some .local) (hy:X.env.scope.names.lookup y=some .local) :
  PG X (.Tuple [.Name x p1,.Name y p2] k pos) (gTup K 2 (gCons (dm i) (gCons (dm j) gNil))):=by
 subst hK
 exact pg_tup hc (pgs_cons (cR hN hi hx) (pgs_cons (cR hN hj hy) pgs_nil))
theorem aK (hK:X.K=K):IxR X (rIxL K):=hK ▸ ix_list
theorem ar (hK:X.K=K):IxR X (rIxT K):=hK ▸ ix_tup
theorem ksl_list (hK:X.K=K):SlR X (rSlL K):=hK ▸ sl_list
theorem keqD (hK:X.K=K) (hu:X.A.units+64<cLine):OpR X (compareOp .Eq) (rEqD K):=hK ▸ op_eqD hu
theorem kneD (hK:X.K=K) (hu:X.A.units+64<cLine):OpR X (compareOp .NotEq) (rNeD K):=hK ▸ op_neD hu
theorem bH {tg:Expr} (hK:X.K=K) (hl:PE X e te):PI X tg e (iList K te):=hK ▸ pi_list hl
theorem kpi_tup {tg:Expr} (hK:X.K=K) (hl:PE X e te):PI X tg e (iTup K te):=hK ▸ pi_tup hl
theorem kpi_zip (t1 t2:Bool) {es:List Expr} {ek:Nat} {ep:Pos} {a b:Expr} {ta:TA} (hK:X.K=K) (hg:Gl X "zip") (hm:X.mg "zip" = none) (ha:PA X [a,b] ta) (hs:starEach [a,b] X.env=[(false,eval a X.env),(false,eval b X.env)]:=by rfl) (hs2:starEach [b] X.env=[(false,eval b X.env)]:=by rfl) :
  PI X (.Tuple es ek ep) (.Call (.Name "zip" p) [a,b] [] pos) (iZip t1 t2 K ta):=hK ▸ pi_zip t1 t2 hg hm ha hs hs2
def rLen (K:Frag):List V->Hp->VK->Prop:=λxs H Q=>∃ p ys,xs=[.ref p]/\(SqL K H p ys\/SqT K H p ys)/\Q (.int ys.length) H
def rAll (b:Bool) (K:Frag):List V->Hp->VK->Prop:=λxs H Q=>∃ (p:Addr) (bs:List Bool),xs=[.ref p]/\SqV b K H p (bs.map V.bl)/\Q (.bl (bs.all id)) H
def rSum (b:Bool) (K:Frag):List V->Hp->VK->Prop:=λxs H Q=>∃ (p:Addr) (ns:List Int),xs=[.ref p]/\SqV b K H p (ns.map V.int)/\Q (.int ns.sum) H
def rTuple (K:Frag):List V->Hp->VK->Prop:=λxs H Q=>∃ p ys,xs=[.ref p]/\SqL K H p ys/\∀ l,H l=none->Q (.ref l) (upd H l (.tup ys))
theorem cx (T:Blt X.mg) (ha:PE X e te) (hK:X.K=K:=by rfl) (hg:Gl X "len":=by rfl) (hs:starEach [e] X.env=[(false,eval e X.env)]:=by rfl):PE X (.Call (.Name "len" p) [e] [] pos) (tCB (rLen K) (cc te er)):=by
 subst hK; exact pl_len T ha hg hs
theorem ia (T:Blt X.mg) (ha:PE X e te) (b:Bool) (hK:X.K=K:=by rfl) (hc:X.calm=true:=by rfl) (hg:Gl X "all":=by rfl) (hs:starEach [e] X.env=[(false,eval e X.env)]:=by rfl):PE X (.Call (.Name "all" p) [e] [] pos) (tCB (rAll b K) (cc te er)):=by
 subst hK; exact pl_all T ha b hc hg hs
theorem kj (T:Blt X.mg) (ha:PE X e te) (b:Bool) (hK:X.K=K:=by rfl) (hc:X.calm=true:=by rfl) (hg:Gl X "sum":=by rfl) (hs:starEach [e] X.env=[(false,eval e X.env)]:=by rfl):PE X (.Call (.Name "sum" p) [e] [] pos) (tCB (rSum b K) (cc te er)):=by
 subst hK; exact pl_sum T ha b hc hg hs
theorem dB (T:Blt X.mg) (ha:PE X e te) (hK:X.K=K:=by rfl) (hg:Gl X "tuple":=by rfl) (hs:starEach [e] X.env=[(false,eval e X.env)]:=by rfl):PE X (.Call (.Name "tuple" p) [e] [] pos) (tCB (rTuple K) (cc te er)):=by
 subst hK; exact pl_tuple T ha hg hs
theorem eK {cn:Str} {c:String} {p2:Pos} (T:Blt X.mg) (ha:PE X e te) (hm:X.mg cn=none) (hv:bootBuiltins cn=some (.type c)) (hK:X.K=K:=by rfl) (hg:Gl X "isinstance":=by rfl) (hg2:Gl X cn:=by rfl) (hn:cn ≠ "__name__":=by decide) (hd:(cn == ("__debug__" : Str))=false:=by decide)
  (he:starEach [e,.Name cn p2] X.env=(false,eval e X.env)::starEach [.Name cn p2] X.env:=by rfl) (he2:starEach [.Name cn p2] X.env=[(false,eval (.Name cn p2) X.env)]:=by rfl) :
  PE X (.Call (.Name "isinstance" p) [e,.Name cn p2] [] pos) (tCB (rIsM K) (cc te (cc (tC (.ty c)) er))):=by
 subst hK; exact pl_is T ha hm hv hg hg2 hn hd he he2
end
section
variable {X:Cx} (K:Frag) {p pos:Pos} {e e2:Expr} {es:List Expr} {t:TA} {te te2:TE}
def rListT (K:Frag):List V->Hp->VK->Prop:=λxs H Q=>∃ p ys,xs=[.ref p]/\(SqL K H p ys\/SqT K H p ys)/\∀ l,H l=none->Q (.ref l) (upd H l (.lst ys))
theorem kpl_list (T:Blt X.mg) (ha:PE X e te) (hK:X.K=K:=by rfl) (hg:Gl X "list":=by rfl) (hs:starEach [e] X.env=[(false,eval e X.env)]:=by rfl):PE X (.Call (.Name "list" p) [e] [] pos) (tCB (rListT K) (cc te er)):=by
 subst hK; exact aI j5 hg T.list ir (aa ha ag hs) (by decide) (by decide) hs
end
theorem lR.same {K:Frag} {H H':Hp} {x:V} {t:Value} (s:kW H H') (h:lR K H x t):lR K H' x t:=by
 cases h with
 | non=>exact .non
 | bl b=>exact .bl b
 | int i=>exact .int i
 | str x=>exact .str x
 | flt x=>exact .flt x
 | lst e=>exact .lst (s _ _ e)
 | frz e=>exact .frz (s _ _ e)
 | tup e=>exact .tup (s _ _ e)
 | dK e=>exact .dK (s _ _ e)
 | dT e=>exact .dT (s _ _ e)
 | ins e cl ha hn htk hm=>exact .ins (s _ _ e) cl ha hn htk hm
theorem eZ {i:Nat} {x:V} {t u:TS} {D:fP} {σ:St} {H:Hp} (M:St->Hp->Prop) (h1:∀ R:St->Hp->Prop,(∀ σ' H',M σ' H'->R σ' H')->t { D with nx:=R } (σ.set i (some x)) H) (h2:∀ σ' H',M σ' H'->u D σ' H'):dm i x σ H (tSeq t u D):=h1 (u D) h2
section
open PySem.SeqAt
open PySem.AutoSeq1 (wpAny_loadPart')
open PySem.MeetsSeq PySem.MeetsSeq2 PySem.MeetsSeq3
end
theorem ints_inj:∀ {ns ms:List Int},ns.map V.int=ms.map V.int->ns=ms
 | [],[],_=>rfl
 | [],_::_,h=>by cases h
 | _::_,[],h=>by cases h
 | n::ns,m::ms,h=>by
  rw [map_cons,map_cons] at h
  injection h with h1 h2
  injection h1 with h1
  rw [h1,ints_inj h2]
def tOrE (t1 t2:TE):TE:=λσ H Q=>t1 σ H Q\/t2 σ H Q
def tMk0 (C:Addr):TE:=λσ H Q=>∀ x dx,H x=none->H dx=none->dx ≠ x->Q (.ref x) (upd (upd H dx (.own x)) x (.ins C dx []))
section
variable {X:Cx} {C:Addr} {x:Str} {p pos apos:Pos} {e o:Expr} {es:List Expr} {te ta t1 t2:TE} {t:TA}
theorem cK (h1:PE X e t1) (h2:PE X e t2):PE X e (tOrE t1 t2):=λpins s σ H Q I h=>h.elim (h1 pins s σ H Q I) (h2 pins s σ H Q I)
structure Mk0 (K:Frag) (C:Addr):Prop where
 makes:makesIn K C=true
 init:findIn K (.ref C) "__init__"=some (some (.builtin "object.__init__"))
 kp:keepIn K (.ref C)=true
theorem pe_mk0 (M:Mk0 X.K C) (hm:X.mg x=some (.ref C)) (hg:Gl X x:=by rfl) (hdb:(x == ("__debug__" : Str))=false:=by decide):PE X (.Call (.Name x p) [] [] pos) (tMk0 C):=by
 intro pins s σ H Q I h
 refine wpAny_Call_Name_kw (f6 I hg hm ?_ hdb)
 have hq:=h (s.heap.objs.size+1) s.heap.objs.size (I.hok.fresh (Nat.le_succ _)) (I.hok.fresh (Nat.le_refl _)) (Nat.ne_of_lt (Nat.lt_succ_self _))
 have I2:=Inv.made (C:=C) I
 refine PySem.W.callWith_K0 I.kIn M.kp (wpAny_call (make_map0 I.kIn M.makes M.init (λself=>PySem.W.Looks.of_pure (PySem.W.oi_bind self)) ?_))
 have Y:=PySem.W.makes_of (M:=model X.prog X.w) I.kIn M.makes
 have hx:((s.heap.push emptyDict).push (instObj C s.heap.objs.size)).get? (s.heap.objs.size+1)=some (instObj C s.heap.objs.size):=by
  have:=get?_push_size (s.heap.push emptyDict) (o:=instObj C s.heap.objs.size) rfl
  rwa [size_push] at this
 have y1:PySem.W.Looks (model X.prog X.w) ((s.heap.push emptyDict).push (instObj C s.heap.objs.size)) (typeOf (.ref (s.heap.objs.size+1))) (.ref C):=(PySem.W.Looks.ld hx).andThen .now
 have y2:PySem.W.Looks (model X.prog X.w) ((s.heap.push emptyDict).push (instObj C s.heap.objs.size)) (isInstance (.ref (s.heap.objs.size+1)) (.type "object")) true:=y1.andThen (Y.top.keeps λb o e=>get?_push_of_some _ (get?_push_of_some _ e))
 obtain ⟨hh,g,d,tk,os⟩:=s
 refine codeAny_call_builtin PySem.W.oi_plain PySem.W.entry_oi (@PySem.W.check_slot (model X.prog X.w) _ _ _ "object.__init__" "object" "__init__" (.ref (hh.objs.size+1)) [] [] _ PySem.W.oi_kind PySem.W.oi_split y2 (PySem.W.oi_args (.ref (hh.objs.size+1))) ?_)
 rw [PySem.W.oi_run]
 exact wpAny_pure (And.intro rfl ⟨V.ref (hh.objs.size+1),_,I2,rfl,hq⟩)
end
structure MtB (P:Program) (w:World) (K:Frag) (mg:Str->Option Value) (base:Heap) (k:Nat) (C:Addr) (m:Str) (sp:Sp):Prop where
 ex:∃ f fd ps,kZ P w K mg base CX0 k f fd ps sp/\dZ K C m f/\lL K fd ps []
 cl:Cls K C
structure MkB (P:Program) (w:World) (K:Frag) (mg:Str->Option Value) (base:Heap) (k:Nat) (C:Addr) (x:Str) (sp:Sp):Prop where
 ex:∃ f fd ps,kZ P w K mg base CX0 k f fd ps sp/\Mk K C f/\lL K fd ps []
 at_:mg x=some (.ref C)
section
variable {X:Cx} {C:Addr} {x m:Str} {k:Nat} {sp:Sp} {p pos apos:Pos} {e o:Expr} {es:List Expr} {te ta:TE} {t:TA}
theorem pe_mt {pl:Sem Bool} (M:MtB X.prog X.w X.K X.mg X.base k C m sp) (hr:lA k X.A) (he:PE X o ta) (ha:PA X (e::es) t)
  (hst:starEach (e::es) X.env=(false,eval e X.env)::starEach es X.env:=by rfl) (hpl:(backTo pos (starEach es X.env)).any (·.1)=false:=by rfl)
  (ht:eval (.Call (.Attribute o m apos) (e::es) [] pos) X.env=(do
   let ov <- eval o X.env
   standAt apos.atName
   let (f,first) <- holding [ov] (getMethod ov m pl)
   callWith pos f first (backTo pos (starEach (e::es) X.env)) (backToKw pos (keywordEach [] X.env))):=by rfl) :
  PE X (.Call (.Attribute o m apos) (e::es) [] pos) (fQ C m sp [] E0 ta t):=by
 obtain ⟨f,fd,ps,F,hm,hb⟩:=M.ex
 exact pe_meth he M.cl hm F hr hb .nil pass0 ha hst hpl ht
theorem pe_mkB (M:MkB X.prog X.w X.K X.mg X.base k C x sp) (hr:lA (k+1) X.A) (ha:PA X (e::es) t) (hg:Gl X x:=by rfl) (hdb:(x == ("__debug__" : Str))=false:=by decide)
  (he:starEach (e::es) X.env=(false,eval e X.env)::starEach es X.env:=by rfl) (hpl:(backTo pos (starEach es X.env)).any (·.1)=false:=by rfl) :
  PE X (.Call (.Name x p) (e::es) [] pos) (tMake C sp [] E0 t):=by
 obtain ⟨f,fd,ps,F,hm,hb⟩:=M.ex
 exact pe_make hm F hr hg M.at_ hb .nil pass0 ha hdb he hpl
end
end L2
namespace L2
def nrm (a b:Int):Int × Int:=if b<0 then (a.fdiv (-(Int.gcd a b:Int)),b.fdiv (-(Int.gcd a b:Int))) else (a.fdiv (Int.gcd a b:Int),b.fdiv (Int.gcd a b:Int))
theorem iR (a b:Int) (h:b ≠ 0):∃ (g:Nat) (a' b':Int),0<g/\Int.gcd a b=g/\a=g*a'/\b=g*b'/\Int.gcd a' b'=1/\nrm a b=(if b<0 then (-a',-b') else (a',b')):=by
 have hg:0<Int.gcd a b:=Int.gcd_pos_of_ne_zero_right a h
 obtain ⟨a',ha⟩:=Int.gcd_dvd_left (a:=a) (b:=b)
 obtain ⟨b',hb⟩:=Int.gcd_dvd_right (a:=a) (b:=b)
 have hg0:(Int.gcd a b:Int) ≠ 0:=by omega
 refine ⟨Int.gcd a b,a',b',hg,rfl,ha,hb,?_,?_⟩
 ·have e:Int.gcd (Int.gcd a b*a') (Int.gcd a b*b')=Int.gcd a b*Int.gcd a' b':=by
   rw [Int.gcd_mul_left]; rfl
  rw [<- ha,<- hb] at e
  have:Int.gcd a b*1=Int.gcd a b*Int.gcd a' b':=by omega
  exact (Nat.eq_of_mul_eq_mul_left hg this).symm
 ·unfold nrm
  generalize hG:(Int.gcd a b:Int)=G at *
  have f1:a.fdiv G=a':=by rw [ha]; exact Int.mul_fdiv_cancel_left _ hg0
  have f2:b.fdiv G=b':=by rw [hb]; exact Int.mul_fdiv_cancel_left _ hg0
  have f3:a.fdiv (-G) = -a':=by rw [ha,show G*a'=(-G)*(-a') by rw [Int.neg_mul_neg]]; exact Int.mul_fdiv_cancel_left _ (by omega)
  have f4:b.fdiv (-G) = -b':=by rw [hb,show G*b'=(-G)*(-b') by rw [Int.neg_mul_neg]]; exact Int.mul_fdiv_cancel_left _ (by omega)
  rw [f1,f2,f3,f4]
theorem kH (a b:Int) (h:b ≠ 0):0<(nrm a b).2:=by
 obtain ⟨g,a',b',hg,_,ha,hb,_,e⟩:=iR a b h
 rw [e]
 by_cases hb0:b<0
 ·rw [if_pos hb0]
  show 0 < -b'
  have:¬ 0<=b':=λz=>by have:=Int.mul_nonneg (show (0:Int)<=g by omega) z; omega
  omega
 ·rw [if_neg hb0]
  show 0<b'
  have:¬ b' <= 0:=λz=>by have:=Int.mul_nonneg (show (0:Int)<=g by omega) (show 0 <= -b' by omega); rw [Int.mul_neg] at this; omega
  omega
theorem il (a b:Int) (h:b ≠ 0):Int.gcd (nrm a b).1 (nrm a b).2=1:=by
 obtain ⟨g,a',b',hg,_,ha,hb,c,e⟩:=iR a b h
 rw [e]
 split
 ·show Int.gcd (-a') (-b')=1
  rw [Int.neg_gcd,Int.gcd_neg]
  exact c
 ·exact c
theorem nrm_eq (a b:Int) (h:b ≠ 0):(nrm a b).1*b=a*(nrm a b).2:=by
 obtain ⟨g,a',b',hg,_,ha,hb,c,e⟩:=iR a b h
 rw [e]
 split
 ·show -a' * b=a * -b'
  rw [ha,hb,Int.neg_mul,Int.mul_neg,Int.mul_left_comm,Int.mul_assoc]
 ·show a' * b=a*b'
  rw [ha,hb,Int.mul_left_comm,Int.mul_assoc]
theorem fq (g:Nat) (x:Int) (hg:0<g):x.natAbs<=((g:Int)*x).natAbs:=by
 rw [Int.natAbs_mul,Int.natAbs_natCast]
 exact Nat.le_mul_of_pos_left _ hg
theorem nrm_le (a b:Int) (h:b ≠ 0):(nrm a b).1.natAbs<=a.natAbs/\(nrm a b).2.natAbs<=b.natAbs:=by
 obtain ⟨g,a',b',hg,_,ha,hb,c,e⟩:=iR a b h
 have h1:=fq g a' hg
 have h2:=fq g b' hg
 rw [<- ha] at h1
 rw [<- hb] at h2
 rw [e]
 split
 ·exact ⟨by show (-a').natAbs<=_; omega,by show (-b').natAbs<=_; omega⟩
 ·exact ⟨h1,h2⟩
theorem dq (a b:Int) (h:0<b):nrm a b=(a,b)↔Int.gcd a b=1:=by
 obtain ⟨g,a',b',hg,eg,ha,hb,c,e⟩:=iR a b (by omega)
 constructor
 ·intro z
  have:=il a b (by omega)
  rw [z] at this
  exact this
 ·intro z
  rw [z] at eg
  subst eg
  rw [e,if_neg (by omega)]
  rw [show a'=a by omega,show b'=b by omega]
end L2
namespace L2
open PySem PySem.Spec PyProof.Rows
theorem comp_lst {K:Frag} {a:Addr} {xs:List V} {te:TE} {Q:VK} {rest:St} {src:List (Option Nat)} {σ:St} {H0:Hp} (f:V->V) (hσ:du src σ=none::rest) (hx:SqL K H0 a xs) (hl:xs.length<=sizeLine)
  (he:∀ (i:Nat) x H (R:VK),xs[i]? = some x->kW H0 H->R (f x) H->te (some x::rest) H R)
  (hd:∀ acc H,H0 acc=none->kW H0 H->H acc=some (.lst (xs.map f))->Q (.ref acc) H) :
  dG (Itl K a) src (dm 0) tYes te σ H0 Q:=by
 intro acc hacc
 rw [hσ]
 have hlen:(xs.map f).length=xs.length:=length_map ..
 refine gd (n:=xs.length) (λi zs σ H=>kW H0 H/\zs=(xs.map f).take i/\∃ u,σ=u::rest) (by omega) ⟨kW.new hacc,rfl,none,rfl⟩ ?_ ?_ ?_ ?_
 ·rintro i zs σ H hi hz ⟨sm,_⟩
  exact ⟨xs,xs[i],sm.seq hx,by simp⟩
 ·rintro zs σ H hz ⟨sm,_⟩
  exact ⟨xs,sm.seq hx,Nat.le_refl _⟩
 ·rintro i zs σ H x H' hi hz hzl ⟨sm,ez,u,rfl⟩ ⟨rfl,gx⟩
  have hx1:=gx xs (sm.seq hx)
  show te (some x::rest) _ _
  refine he i x _ _ hx1 sm ?_
  refine ⟨zs,hz,by omega,zs++[f x],af,by rw [length_append,length_singleton]; omega,sm.put hacc,?_,_,rfl⟩
  rw [iO f xs i x hx1,ez]
 ·rintro zs σ H hz hzl ⟨sm,ez,_⟩
  refine hd acc H hacc sm ?_
  rw [hz,ez,take_of_length_le (by omega)]
end L2
set_option exponentiation.threshold 5000
namespace L2
open PySem PySem.Spec PyProof.Rows
def dH (P:Int) (x y:Int × Int):Int × Int:=if P=0 then nrm (x.1*y.2+y.1*x.2) (x.2*y.2) else ((x.1+y.1) % P,1)
def subN (P:Int) (x y:Int × Int):Int × Int:=if P=0 then nrm (x.1*y.2-y.1*x.2) (x.2*y.2) else ((x.1-y.1) % P,1)
def mulN (P:Int) (x y:Int × Int):Int × Int:=if P=0 then nrm (x.1*y.1) (x.2*y.2) else ((x.1*y.1) % P,1)
def OkN (P:Int) (x:Int × Int):Prop:=(P=0/\0<x.2/\Int.gcd x.1 x.2=1)\/(P ≠ 0/\0<=x.1/\x.1<P/\x.2=1)
theorem okN_nrm {a b:Int} (h:b ≠ 0):OkN 0 (nrm a b):=.inl ⟨rfl,kH a b h,il a b h⟩
theorem okN_mod {P a:Int} (h:0<=P) (h0:P ≠ 0):OkN P (a % P,1):=.inr ⟨h0,Int.emod_nonneg a h0,Int.emod_lt_of_pos a (by omega),rfl⟩
theorem OkN.den {P:Int} {x:Int × Int} (h:OkN P x):0<x.2:=by
 rcases h with ⟨_,h,_⟩ | ⟨_,_,_,h⟩<;>omega
theorem gc {x y:Int × Int} (h1:0<x.2) (h2:0<y.2):x.2*y.2 ≠ 0:=λz=>by have:=Int.mul_pos h1 h2; omega
theorem okN_add {P:Int} {x y:Int × Int} (hP:0<=P) (h1:OkN P x) (h2:OkN P y):OkN P (dH P x y):=by
 unfold dH
 split
 ·rename_i h; subst h; exact okN_nrm (gc h1.den h2.den)
 ·exact okN_mod hP ‹_›
theorem eS {P:Int} (hP:0<=P) (h2:P ≠ 1):OkN P (0,1):=by
 by_cases h:P=0
 ·exact .inl ⟨h,by decide,by decide⟩
 ·exact .inr ⟨h,by decide,by show (0:Int)<P; omega,rfl⟩
def Sz (k:Nat) (x:Int × Int):Prop:=x.1.natAbs<2 ^ k/\x.2.natAbs<2 ^ k
theorem iT {a b:Int} {i j:Nat} (h1:a.natAbs<2 ^ i) (h2:b.natAbs<2 ^ j):(a*b).natAbs<2 ^ (i+j):=by
 rw [Int.natAbs_mul,Nat.pow_add]
 exact Nat.mul_lt_mul'' h1 h2
theorem sz_add {a b:Int} {k:Nat} (h1:a.natAbs<2 ^ k) (h2:b.natAbs<2 ^ k):(a+b).natAbs<2 ^ (k+1)/\(a-b).natAbs<2 ^ (k+1):=by
 rw [Nat.pow_succ]
 omega
theorem cy {i j:Nat} (h:i<=j):2 ^ i<=2 ^ j:=Nat.pow_le_pow_right (by decide) h
theorem Sz.mono {i j:Nat} {x:Int × Int} (h:Sz i x) (hij:i<=j):Sz j x:=⟨Nat.lt_of_lt_of_le h.1 (cy hij),Nat.lt_of_lt_of_le h.2 (cy hij)⟩
theorem sz_nrm {a b:Int} {k:Nat} (hb:b ≠ 0) (h1:a.natAbs<2 ^ k) (h2:b.natAbs<2 ^ k):Sz k (nrm a b):=⟨Nat.lt_of_le_of_lt (nrm_le a b hb).1 h1,Nat.lt_of_le_of_lt (nrm_le a b hb).2 h2⟩
theorem sz_mod {P a:Int} (h:0<=P) (h0:P ≠ 0) (h9:P<=9973) {k:Nat} (hk:14<=k):Sz k (a % P,1):=by
 have h1:=Int.emod_nonneg a h0
 have h2:=Int.emod_lt_of_pos a (show 0<P by omega)
 have h3:2 ^ 14<=2 ^ k:=cy hk
 exact ⟨by show (a % P).natAbs<2 ^ k; omega,by show (1:Int).natAbs<2 ^ k; omega⟩
theorem sz_addN {P:Int} {x y:Int × Int} {i j:Nat} (hP:0<=P) (h9:P<=9973) (o1:OkN P x) (o2:OkN P y) (h1:Sz i x) (h2:Sz j y) (hi:14<=i):Sz (i+j+1) (dH P x y)/\Sz (i+j+1) (subN P x y)/\Sz (i+j+1) (mulN P x y):=by
 have d:=gc o1.den o2.den
 have m1:=iT h1.1 h2.2
 have m2:=iT h2.1 h1.2
 rw [Nat.add_comm j i] at m2
 have m3:=iT h1.2 h2.2
 have m4:=iT h1.1 h2.1
 have a:=sz_add m1 m2
 have le:2 ^ (i+j)<=2 ^ (i+j+1):=cy (by omega)
 refine ⟨?_,?_,?_⟩
 ·unfold dH
  split
  ·exact sz_nrm d a.1 (by omega)
  ·exact sz_mod hP ‹_› h9 (by omega)
 ·unfold subN
  split
  ·exact sz_nrm d a.2 (by omega)
  ·exact sz_mod hP ‹_› h9 (by omega)
 ·unfold mulN
  split
  ·exact sz_nrm d (by omega) (by omega)
  ·exact sz_mod hP ‹_› h9 (by omega)
structure FunD (K:Frag) (x qual:Str) (st:Stmt) (f:Addr) (fd:FuncData):Prop where
 ex:∃ (oc:Value) (od:Option Addr) (dV kV doc pm:Value) (an:Option Addr) (cdv ct:Value) (osl:Array (Option Value)),
  fd=fnOf x qual (aM st) (aJ st) (aj st) dV kV doc pm an cdv ct/\K.lookup f=some ⟨oc,od,.func fd,osl⟩/\codeIn K cdv qual=true
 kp:keepIn K (.ref f)=true
section
variable {P:Program} {w:World} {K:Frag} {mg:Str->Option Value} {base:Heap}
theorem funD_mk {x qual:Str} {st:Stmt} {f:Addr} {oc:Value} {od an:Option Addr} {osl:Array (Option Value)} {dV kV doc pm cdv ct:Value} (l:K.lookup f=some ⟨oc,od,.func (fnOf x qual (aM st) (aJ st) (aj st) dV kV doc pm an cdv ct),osl⟩)
  (c:codeIn K cdv qual=true) (k:keepIn K (.ref f)=true):FunD K x qual st f (fnOf x qual (aM st) (aJ st) (aj st) dV kV doc pm an cdv ct):=⟨⟨oc,od,dV,kV,doc,pm,an,cdv,ct,osl,rfl,l,c⟩,k⟩
end
theorem comp_lstS {K:Frag} {a:Addr} {xs:List V} {te:TE} {Q:VK} {rest:St} {src:List (Option Nat)} {σ:St} {H0:Hp} (f:V->V) (hσ:du src σ=none::rest) (hx:SqL K H0 a xs) (hl:xs.length<=sizeLine)
  (he:∀ (i:Nat) x H (R:VK),xs[i]? = some x->kW H0 H->(∀ H',kW H H'->R (f x) H')->te (some x::rest) H R)
  (hd:∀ acc H,H0 acc=none->kW H0 H->H acc=some (.lst (xs.map f))->Q (.ref acc) H) :
  dG (Itl K a) src (dm 0) tYes te σ H0 Q:=by
 intro acc hacc
 rw [hσ]
 have hlen:(xs.map f).length=xs.length:=length_map ..
 refine gd (n:=xs.length) (λi zs σ H=>kW H0 H/\zs=(xs.map f).take i/\∃ u,σ=u::rest) (by omega) ⟨kW.new hacc,rfl,none,rfl⟩ ?_ ?_ ?_ ?_
 ·rintro i zs σ H hi hz ⟨sm,_⟩
  exact ⟨xs,xs[i],sm.seq hx,by simp⟩
 ·rintro zs σ H hz ⟨sm,_⟩
  exact ⟨xs,sm.seq hx,Nat.le_refl _⟩
 ·rintro i zs σ H x H' hi hz hzl ⟨sm,ez,u,rfl⟩ ⟨rfl,gx⟩
  have hx1:=gx xs (sm.seq hx)
  show te (some x::rest) _ _
  refine he i x _ _ hx1 sm λH2 s2=>?_
  refine ⟨zs,s2 _ _ hz,by omega,zs++[f x],af,by rw [length_append,length_singleton]; omega,(sm.trans s2).put hacc,?_,_,rfl⟩
  rw [iO f xs i x hx1,ez]
 ·rintro zs σ H hz hzl ⟨sm,ez,_⟩
  refine hd acc H hacc sm ?_
  rw [hz,ez,take_of_length_le (by omega)]
structure Fly (P:Program) (w:World) (outer:List Env) (H:Hp) (s:Shared) (x:Addr) (cls:Value) (B:Heap) (H':Hp) (s':Shared):Prop where
 os:s'.os=s.os
 bare:AllBare s'.gens
 fly:∃ a0,Heap.FlyingW B outer x cls a0 s'.heap
 keep:∀ b o,s.heap.get? b=some o->H b=none->b ∉ frs outer->B.get? b=some o
 there:∀ b o,s.heap.get? b=some o->b ∉ frs outer->∃ o',B.get? b=some o'
 slot:∀ b o,s.heap.get? b=some o->b ∈ frs outer->∃ sl,s'.heap.get? b=some { o with slots:=sl }
 free:∀ b o,s.heap.get? b=some o->H b=none->H' b=none
 tups:∀ b xs,H b=some (.tup xs)->H' b=some (.tup xs)
 frzs:∀ b o u,H b=some (.frz o u)->H' b=some (.frz o u)
 tbls:∀ b ps,H b=some (.tbl ps)->∃ more,H' b=some (.tbl (ps++more))
 hok:HOk P w H' B
def CXE (P:Program) (w:World):CXT:=λouter H s E e s'=>∃ x cls B H',e=.ref x/\Fly P w outer H s x cls B H' s'/\E cls none H'
theorem bN {X:Cx} {P:Program} {w:World}:dh (CXE P w) X E0:=λ_ _ _ _ _ _ _ ⟨_,_,_,_,_,_,z⟩=>z.elim
section
variable {P:Program} {w:World} {K:Frag} {mg:Str->Option Value} {base:Heap} {N:List Str} {qual:Str} {scope:Scope} {f:Addr} {cd:Value} {A:Around} {outer:List Env} {s₀ s:Shared} {H₀ H:Hp} {E:XK} {pins:List (Addr × Obj)} {σ:St}
theorem xe_raise {h':Heap} {e:Addr} {cls:Value} {args:List Value} (I:Inv (cX (CXE P w) P w K mg base N qual scope f cd A outer s₀ H₀ E) pins σ H s) (hx:Heap.MadeExcOf s.heap h' e cls args) (q:E cls none H) :
  (cX (CXE P w) P w K mg base N qual scope f cd A outer s₀ H₀ E).xe (.ref e) { s with heap:=h' }:=by
 show wpAny (model P w) (A.deeper (envOfC qual scope s₀.heap.objs.size f cd)) (leaving (envOfC qual scope s₀.heap.objs.size f cd) (.ref e)) (λ_ s''=>CXE P w outer H₀ s₀ E (.ref e) s'') (λe' s''=>CXE P w outer H₀ s₀ E e' s'') { s with heap:=h' }
 have hst:s.heap.FunFrames base (envOfC qual scope s₀.heap.objs.size f cd::outer):=I.stack
 have noEx:∀ b:Addr,b ∉ (cX (CXE P w) P w K mg base N qual scope f cd A outer s₀ H₀ E).ex:=λb z=>absurd (show b ∈ ([]:List Addr) from z) (by simp)
 have nL:∀ b o,s₀.heap.get? b=some o->b ∉ frs outer->b ∉ frs (envOfC qual scope s₀.heap.objs.size f cd::outer):=λb o e1 hb hm=>by
  rcases List.mem_cons.mp (I.stkSub b hm) with z | z
  ·have hlt:=lt_size e1
   rw [show b=s₀.heap.objs.size from z] at hlt
   exact absurd hlt (Nat.lt_irrefl _)
  ·exact hb z
 refine wpAny_leaves_madeW (base:=PySem.W.hideAll s.heap (frs (envOfC qual scope s₀.heap.objs.size f cd::outer))) (h:=s.heap) I.ok.frames rfl (λb o z=>PySem.W.of_hideAll _ z)
  (PySem.W.funFrames_hide hst λenv he a ha=>List.mem_filterMap.mpr ⟨env,he,ha⟩) hx λh'' t fl _ _ up=>?_
 refine ⟨e,cls,_,H,rfl,⟨I.os,I.bare,⟨_,fl⟩,λb o e1 n hb=>?_,λb o e1 hb=>?_,λb o e1 hb=>?_,λb o e1 n=>I.base.free b o e1 n (noEx b),I.base.tups,I.base.frzs,I.base.tbls,λa ob ea=>?_⟩,q⟩
 ·exact hideAll_get _ (I.base.keep b o e1 n hb (noEx b)) (nL b o e1 hb)
 ·obtain ⟨o',e2⟩:=I.base.there b o e1 (noEx b)
  exact ⟨o',hideAll_get _ e2 (nL b o e1 hb)⟩
 ·obtain ⟨sl,e2⟩:=I.base.slot b o e1 (I.ok.frf b hb) hb (noEx b)
  obtain ⟨_,o3,e3,hd⟩:=I.ok.funs.mem hb
  have e1':(cX (CXE P w) P w K mg base N qual scope f cd A outer s₀ H₀ E).s₀.heap.get? b=some o:=e1
  rw [e1'] at e3
  cases e3
  obtain ⟨sl2,e4⟩:=up b _ (hx.keeps b _ e2) hd
  exact ⟨sl2,e4⟩
 ·refine (I.hok a ob ea).stay (λb u hb e2=>hideAll_get _ e2 λhm=>?_) (λ_ z=>z) λ_ _ z=>z
  have hn:=I.stkFree b hm
  rcases hb with z | z
  ·rw [z,ea] at hn; cases hn
  ·rw [z] at hn; cases hn
end
abbrev iE:List Value:=[.type "ValueError",.type "Exception",.type "BaseException",.type "object"]
abbrev ExcK (K:Frag) (C:Addr):Prop:=excIn K C iE "ValueError.__new__"=true
theorem exc_obj {K:Frag} {h:Heap} {C:Addr} (X:K.In h) (q:ExcK K C):∃ bm N nm qn bs hdct sn sub ab col dd k0 k1 k2 k3 k5 mN,
  h.get? C=some (excClassObj nm qn C N bs bm hdct sn sub ab col dd k0 k1 k2 k3 k5 "ValueError.__new__")/\h.Ns N mN/\mN "__init__" = none/\OwnTail h iE bm:=by
 have q':=q
 unfold ExcK excIn at q'
 cases hl:K.lookup C with
 | none=>rw [hl] at q'; cases q'
 | some ob=>
  rw [hl] at q'
  obtain ⟨oc,od,oda,osl⟩:=ob
  split at q'
  ·rename_i dz cz sz heq
   cases heq
   split at q'
   ·rename_i Cz bz z0 z1 z2 z3 nz z5 hm hs
    rw [Bool.and_eq_true,Bool.and_eq_true,Bool.and_eq_true,Bool.and_eq_true,Bool.and_eq_true] at q'
    obtain ⟨⟨⟨⟨⟨w1,w2⟩,w3⟩,w4⟩,w5⟩,w6⟩:=q'
    obtain ⟨c1,c2,c3,c4,c5,c6,c7,c8,c9,c10,c11⟩:=cz
    have e1:=beq_iff_eq.mp w1
    have e2:=beq_iff_eq.mp w2
    have e6:=beq_iff_eq.mp w6
    have e3:c11=false:=by simpa using w3
    have em:c3=.ref Cz::bz:=hm
    subst e1 e2 e3 em
    have es:osl = #[z0,z1,z2,z3,some (.builtin "ValueError.__new__"),z5]:=by
     cases osl
     simp only at hs
     rw [hs]
    subst es
    exact ⟨bz,_,_,_,_,_,_,_,_,_,_,_,_,_,_,_,_,X _ _ hl,.of_isNs (PySem.W.isNs_of_in X w5),PySem.W.nsMap_none_of_in X w5 e6,PySem.W.tail_of_in X w4⟩
   ·cases q'
  ·cases q'
def tRaise (E:XK) (C:Addr) (t:TA):TS:=λ_ σ H=>t σ H λvs H1=>vs.length<=sizeLine/\E (.ref C) none H1
section
variable {P:Program} {w:World} {K:Frag} {mg:Str->Option Value} {base:Heap} {N:List Str} {qual:Str} {scope:Scope} {f:Addr} {cd:Value} {A:Around} {outer:List Env} {s₀:Shared} {H₀:Hp} {E:XK}
theorem iM {C:Addr} {x:Str} {np cpos pos:Pos} {e₀:Expr} {es:List Expr} {t:TA} (hC:ExcK K C) (hm:mg x=some (.ref C)) (ha:PA (cX (CXE P w) P w K mg base N qual scope f cd A outer s₀ H₀ E) (e₀::es) t)
  (hg:Gl (cX (CXE P w) P w K mg base N qual scope f cd A outer s₀ H₀ E) x:=by rfl) (hd:(x == ("__debug__" : Str))=false:=by decide)
  (he:starEach (e₀::es) (cX (CXE P w) P w K mg base N qual scope f cd A outer s₀ H₀ E).env=(false,eval e₀ (cX (CXE P w) P w K mg base N qual scope f cd A outer s₀ H₀ E).env)::starEach es (cX (CXE P w) P w K mg base N qual scope f cd A outer s₀ H₀ E).env:=by rfl)
  (hpl:(backTo cpos (starEach es (cX (CXE P w) P w K mg base N qual scope f cd A outer s₀ H₀ E).env)).any (·.1)=false:=by rfl) :
  PS (cX (CXE P w) P w K mg base N qual scope f cd A outer s₀ H₀ E) (.Raise (some (.Call (.Name x np) (e₀::es) [] cpos)) none pos) (tRaise E C t):=by
 intro pins s σ H D I h
 obtain ⟨bm,Nn,nm,qn,bs,hdct,sn,sub,ab,col,dd,k0,k1,k2,k3,k5,mN,hCo,hN,hni,T⟩:=exc_obj I.mod.kin hC
 have any0:(backTo cpos (starEach (e₀::es) (cX (CXE P w) P w K mg base N qual scope f cd A outer s₀ H₀ E).env)).any (·.1)=false:=by
  rw [he]
  show (false || (backTo cpos (starEach es _)).any (·.1))=false
  rw [hpl]; rfl
 refine wpAny_Raise_call_subU (C:=C) (nm:=nm) (q:=qn) (N:=Nn) (bs:=bs) (bm:=bm) (hdct:=hdct) (sn:=sn) (sub:=sub) (ab:=ab) (col:=col) (dd:=dd) (k0:=k0) (k1:=k1) (k2:=k2) (k3:=k3) (k5:=k5)
  PySem.F.excBase_ValueError (bmB:=iE) (by decide +kernel) PySem.F.excBase_ValueError (mN:=mN) (T.hasType PySem.F.excBase_ValueError.hasBase) (I.ok.hd rfl) any0 hni (f6 I hg hm ⟨rfl,?_⟩ hd)
 have a1:=ha cpos pins s σ H _ I h
 rw [he] at a1 ⊢
 refine Calls.evalArgs_plain (wpAny_mono a1 (λus s2 z=>?_) λ_ _ z=>z)
 obtain ⟨vs,H2,I2,r,hlen,q⟩:=z
 exact ⟨rfl,by rw [<- r.length]; exact hlen,I2.bk _ _ hCo,hN.keeps I2.bk,T.keeps I2.bk,λh' e mk=>xe_raise I2 mk q⟩
end
section
variable {P:Program} {w:World} {K:Frag} {mg:Str->Option Value} {base:Heap}
theorem Fun.okX {x qual:Str} {st:Stmt} {f:Addr} {fd:FuncData} {N ps:List Str} {k:Nat} {sp:Sp} (F:Fun K x qual st f fd) (S:kX N ps (aj st)) (len:∀ vs H Q E,sp vs H Q E->vs.length=ps.length)
  (hbody:∀ (cdv:Value) (A:Around) (outer:List Env) (s:Shared) (H:Hp) (vs:List V) (Q:VK) (E:XK),lA k (A.deeper (envOfC qual (aj st) s.heap.objs.size f cdv))->sp vs H Q E->
   ∃ t,PSs (cX (CXE P w) P w K mg base N qual (aj st) f cdv A outer s H E) (aJ st) t/\t { nx:=λ_ H'=>Q .non H',rt:=Q } (eJ N vs) H):kZ P w K mg base (CXE P w) (k+1) f fd ps sp:=by
 obtain ⟨oc,od,kV,doc,pm,an,cdv,ct,osl,rfl,lk,hcd⟩:=F.ex
 exact fn_of lk hcd S len λA outer s H vs Q E hr hsp=>hbody cdv A outer s H vs Q E hr hsp
theorem FunD.okX {x qual:Str} {st:Stmt} {f:Addr} {fd:FuncData} {N ps:List Str} {k:Nat} {sp:Sp} (F:FunD K x qual st f fd) (S:kX N ps (aj st)) (len:∀ vs H Q E,sp vs H Q E->vs.length=ps.length)
  (hbody:∀ (cdv:Value) (A:Around) (outer:List Env) (s:Shared) (H:Hp) (vs:List V) (Q:VK) (E:XK),lA k (A.deeper (envOfC qual (aj st) s.heap.objs.size f cdv))->sp vs H Q E->
   ∃ t,PSs (cX (CXE P w) P w K mg base N qual (aj st) f cdv A outer s H E) (aJ st) t/\t { nx:=λ_ H'=>Q .non H',rt:=Q } (eJ N vs) H):kZ P w K mg base (CXE P w) (k+1) f fd ps sp:=by
 obtain ⟨oc,od,dV,kV,doc,pm,an,cdv,ct,osl,rfl,lk,hcd⟩:=F.ex
 exact fn_of lk hcd S len λA outer s H vs Q E hr hsp=>hbody cdv A outer s H vs Q E hr hsp
end
structure dC (P:Program) (w:World) (K:Frag) (mg:Str->Option Value) (base:Heap) (k:Nat) (C:Addr) (m:Str) (dvs:List V) (sp:Sp):Prop where
 ex:∃ f fd ps ds,kZ P w K mg base (CXE P w) k f fd ps sp/\dZ K C m f/\lL K fd ps ds/\kY dvs ds
 cl:Cls K C
structure MkBX (P:Program) (w:World) (K:Frag) (mg:Str->Option Value) (base:Heap) (k:Nat) (C:Addr) (x:Str) (sp:Sp):Prop where
 ex:∃ f fd ps,kZ P w K mg base (CXE P w) k f fd ps sp/\Mk K C f/\lL K fd ps []
 at_:mg x=some (.ref C)
section
variable {X:Cx} {C:Addr} {x m:Str} {k:Nat} {sp:Sp} {dvs:List V} {p pos apos:Pos} {e o:Expr} {es:List Expr} {te ta:TE} {t:TA} {E:XK}
theorem bT {pl:Sem Bool} (M:dC X.prog X.w X.K X.mg X.base k C m dvs sp) (hr:lA k X.A) (hx:dh (CXE X.prog X.w) X E) (he:PE X o ta) (ha:PA X (e::es) t)
  (hst:starEach (e::es) X.env=(false,eval e X.env)::starEach es X.env:=by rfl) (hpl:(backTo pos (starEach es X.env)).any (·.1)=false:=by rfl)
  (ht:eval (.Call (.Attribute o m apos) (e::es) [] pos) X.env=(do
   let ov <- eval o X.env
   standAt apos.atName
   let (f,first) <- holding [ov] (getMethod ov m pl)
   callWith pos f first (backTo pos (starEach (e::es) X.env)) (backToKw pos (keywordEach [] X.env))):=by rfl) :
  PE X (.Call (.Attribute o m apos) (e::es) [] pos) (fQ C m sp dvs E ta t):=by
 obtain ⟨f,fd,ps,ds,F,hm,hb,hv⟩:=M.ex
 exact pe_meth he M.cl hm F hr hb hv hx ha hst hpl ht
theorem pe_mkX (M:MkBX X.prog X.w X.K X.mg X.base k C x sp) (hr:lA (k+1) X.A) (hx:dh (CXE X.prog X.w) X E) (ha:PA X (e::es) t) (hg:Gl X x:=by rfl) (hdb:(x == ("__debug__" : Str))=false:=by decide)
  (he:starEach (e::es) X.env=(false,eval e X.env)::starEach es X.env:=by rfl) (hpl:(backTo pos (starEach es X.env)).any (·.1)=false:=by rfl) :
  PE X (.Call (.Name x p) (e::es) [] pos) (tMake C sp [] E t):=by
 obtain ⟨f,fd,ps,F,hm,hb⟩:=M.ex
 exact pe_make hm F hr hg M.at_ hb .nil hx ha hdb he hpl
end
structure XCl (K:Frag) (D:Addr):Prop where
 ek:ExcK K D
 ga:findIn K (.ref D) "__getattribute__"=some (some (.builtin "BaseException.__getattribute__"))
 gt:findIn K (.ref D) "__getattr__"=some none
 ca:findIn K (.ref D) "__class__"=some (some (.builtin "object.__class__"))
 mo:mroIn K D (.type "object")=some true
 mb:mroIn K D (.type "BaseException")=some true
 dg:specialIn K (.builtin "object.__class__") "__get__"=some (some (.builtin "getset_descriptor.__get__"))
 dt:takesIn K (.builtin "object.__class__")=some true
theorem two_of {us:List Value} {d:Value} (h:(us++[d]).length=3):∃ a b,us=[a,b]:=by
 rw [length_append,length_singleton] at h
 match us,h with
 | [a,b],_=>exact ⟨a,b,rfl⟩
section
variable {X:Cx} {C:Addr} {x m:Str} {k:Nat} {sp:Sp} {p pos apos:Pos} {e o:Expr} {es:List Expr} {te ta:TE} {t:TA}
theorem bu {pl:Sem Bool} (M:MtB X.prog X.w X.K X.mg X.base k C m sp) (hr:lA k X.A) (he:PE X o ta)
  (ht:eval (.Call (.Attribute o m apos) [] [] pos) X.env=(do
   let ov <- eval o X.env
   standAt apos.atName
   let (f,first) <- holding [ov] (getMethod ov m pl)
   callWith pos f first (backTo pos (starEach [] X.env)) (backToKw pos (keywordEach [] X.env))):=by rfl) :
  PE X (.Call (.Attribute o m apos) [] [] pos) (fQ C m sp [] E0 ta er):=by
 obtain ⟨f,fd,ps,F,hm,hb⟩:=M.ex
 exact pe_meth0 he M.cl hm F hr hb .nil pass0 ht
end
theorem set_cut2 {i:Nat} {x:V} {t s u:TS} {D:fP} {σ:St} {H:Hp} (M:St->Hp->Prop) (h1:∀ R:St->Hp->Prop,(∀ σ' H',M σ' H'->R σ' H')->tSeq t s { D with nx:=R } (σ.set i (some x)) H) (h2:∀ σ' H',M σ' H'->u D σ' H'):dm i x σ H (tSeq t (tSeq s u) D):=h1 (u D) h2
end L2
namespace L2
open PySem PySem.Spec PyProof.Rows PySem.W
def ev {α:Type} (c:Nat->Nat->Bool):KasT α->α
 | .ret a=>a
 | .ask i j k=>ev c (k (c i j))
theorem fc {α β:Type} {c:Nat->Nat->Bool} {f:α->KasT β}:∀ t:KasT α,ev c (t.bind f)=ev c (f (ev c t))
 | .ret _=>rfl
 | .ask i j k=>fc (k (c i j))
structure Tot (n:Nat) (c:Nat->Nat->Bool):Prop where
 tr:∀ i j k,i<n->j<n->k<n->c i j=true->c j k=true->c i k=true
 to:∀ i j,i<n->j<n->i ≠ j->c i j=false->c j i=true
def Pm (n:Nat) (p:Array Nat):Prop:=p.toList.Perm (List.range n)
section
variable {n:Nat} {c:Nat->Nat->Bool} {p:Array Nat}
theorem Pm.sz (h:Pm n p):p.size=n:=by
 have:=h.length_eq
 rw [length_range] at this
 rw [<- this]; rfl
theorem gd_at {i:Nat} (hi:i<p.size):p.getD i 0=p[i]:=by simp [Array.getD,hi]
theorem gd_q (p:Array Nat) (i:Nat):p.getD i 0=(p[i]?).getD 0:=by simp [Array.getD_eq_getD_getElem?]
theorem Pm.lt (h:Pm n p) {i:Nat} (hi:i<n):p.getD i 0<n:=by
 have hs:=h.sz
 rw [gd_at (by omega)]
 exact List.mem_range.mp (h.mem_iff.mp (by rw [Array.mem_toList_iff]; exact Array.getElem_mem _))
theorem Pm.inj (h:Pm n p) {i j:Nat} (hi:i<n) (hj:j<n) (hne:i ≠ j):p.getD i 0 ≠ p.getD j 0:=by
 have hs:=h.sz
 have nd:p.toList.Nodup:=h.nodup_iff.mpr List.nodup_range
 intro z
 rw [gd_at (by omega),gd_at (by omega)] at z
 exact hne ((getElem_inj (h₀:=by rw [Array.length_toList]; omega) (h₁:=by rw [Array.length_toList]; omega) nd).mp (by rw [Array.getElem_toList,Array.getElem_toList]; exact z))
theorem Pm.of {q:Array Nat} (h:Pm n p) (e:q.Perm p):Pm n q:=(Array.perm_iff_toList_perm.mp e).trans h
def So (c:Nat->Nat->Bool) (p:Array Nat) (k:Nat):Prop:=∀ i j,i<j->j<k->c (p.getD i 0) (p.getD j 0)=true
def De (c:Nat->Nat->Bool) (p:Array Nat) (k:Nat):Prop:=∀ i j,i<j->j<k->c (p.getD j 0) (p.getD i 0)=true
theorem Tot.other (T:Tot n c) (hp:Pm n p) {i j:Nat} (hi:i<n) (hj:j<n) (hne:i ≠ j) (h:¬ c (p.getD i 0) (p.getD j 0)=true):c (p.getD j 0) (p.getD i 0)=true:=
 T.to _ _ (hp.lt hi) (hp.lt hj) (hp.inj hi hj hne) (by simpa using h)
theorem Tot.trp (T:Tot n c) (hp:Pm n p) {i j k:Nat} (hi:i<n) (hj:j<n) (hk:k<n) (h1:c (p.getD i 0) (p.getD j 0)=true) (h2:c (p.getD j 0) (p.getD k 0)=true):c (p.getD i 0) (p.getD k 0)=true:=
 T.tr _ _ _ (hp.lt hi) (hp.lt hj) (hp.lt hk) h1 h2
theorem So.step (T:Tot n c) (hp:Pm n p) {m:Nat} (h1:1<=m) (hm:m<n) (hs:So c p m) (h:c (p.getD (m-1) 0) (p.getD m 0)=true):So c p (m+1):=λi j hij hj=>by
 by_cases e:j=m
 ·subst e
  by_cases e2:i=j-1
  ·rw [e2]; exact h
  ·exact T.trp hp (by omega) (by omega) hm (hs i (j-1) (by omega) (by omega)) h
 ·exact hs i j hij (by omega)
theorem De.step (T:Tot n c) (hp:Pm n p) {m:Nat} (h1:1<=m) (hm:m<n) (hs:De c p m) (h:c (p.getD m 0) (p.getD (m-1) 0)=true):De c p (m+1):=λi j hij hj=>by
 by_cases e:j=m
 ·subst e
  by_cases e2:i=j-1
  ·rw [e2]; exact h
  ·exact T.trp hp hm (by omega) (by omega) h (hs i (j-1) (by omega) (by omega))
 ·exact hs i j hij (by omega)
theorem ev_asc (T:Tot n c) (hp:Pm n p):∀ f m,1<=m->m+f<=n->So c p m->m<=ev c (kas_asc p f m)/\ev c (kas_asc p f m)<=m+f/\So c p (ev c (kas_asc p f m))/\(ev c (kas_asc p f m)<m+f->c (p.getD (ev c (kas_asc p f m)) 0) (p.getD (ev c (kas_asc p f m)-1) 0)=true)
 | 0,m,_,_,hs=>⟨Nat.le_refl _,Nat.le_refl _,hs,λh=>absurd h (Nat.lt_irrefl _)⟩
 | f+1,m,h1,h2,hs=>by
  by_cases hc:c (p.getD m 0) (p.getD (m-1) 0)=true
  ·have e:ev c (kas_asc p (f+1) m)=m:=by
    show ev c (if c (p.getD m 0) (p.getD (m-1) 0)=true then .ret m else kas_asc p f (m+1))=m
    rw [if_pos hc]; rfl
   rw [e]
   exact ⟨Nat.le_refl _,by omega,hs,λ_=>hc⟩
  ·have e:ev c (kas_asc p (f+1) m)=ev c (kas_asc p f (m+1)):=by
    show ev c (if c (p.getD m 0) (p.getD (m-1) 0)=true then .ret m else kas_asc p f (m+1))=_
    rw [if_neg hc]
   rw [e]
   obtain ⟨a,b,d,g⟩:=ev_asc T hp f (m+1) (by omega) (by omega) (hs.step T hp h1 (by omega) (T.other hp (by omega) (by omega) (by omega) hc))
   exact ⟨by omega,by omega,d,λh=>g (by omega)⟩
theorem ev_desc (T:Tot n c) (hp:Pm n p):∀ f m,1<=m->m+f<=n->De c p m->∃ r,ev c (kas_desc f p m 0)=(p,r,0)/\m<=r/\r<=m+f/\De c p r
 | 0,m,_,_,hs=>⟨m,rfl,Nat.le_refl _,Nat.le_refl _,hs⟩
 | f+1,m,h1,h2,hs=>by
  by_cases hc:c (p.getD m 0) (p.getD (m-1) 0)=true
  ·obtain ⟨r,e,a,b,d⟩:=ev_desc T hp f (m+1) (by omega) (by omega) (hs.step T hp h1 (by omega) hc)
   refine ⟨r,?_,by omega,by omega,d⟩
   rw [<- e]
   show ev c (if c (p.getD m 0) (p.getD (m-1) 0)=true then (if 0 > 0 then kas_desc f (kas_rev p (m-(0+1)) m) (m+1) 0 else kas_desc f p (m+1) 0) else _)=_
   rw [if_pos hc,if_neg (by decide)]
  ·refine ⟨m,?_,Nat.le_refl _,by omega,hs⟩
   have ho:=T.other hp (show m<n by omega) (show m-1<n by omega) (by omega) hc
   show ev c (if c (p.getD m 0) (p.getD (m-1) 0)=true then _ else .ask (p.getD (m-1) 0) (p.getD m 0) λd=>if d=true then .ret (p,m,0) else kas_desc f p (m+1) (0+1))=_
   rw [if_neg hc]
   show ev c (if c (p.getD (m-1) 0) (p.getD m 0)=true then .ret (p,m,0) else kas_desc f p (m+1) (0+1))=_
   rw [if_pos ho]
   rfl
theorem gd_rev {j:Nat} (hj:j<=p.size) (k:Nat):(kas_rev p 0 j).getD k 0=if k<j then p.getD (j-1-k) 0 else p.getD k 0:=by
 rw [gd_q]
 unfold kas_rev
 rw [getElem?_mirror_all hj]
 by_cases h:k<j
 ·rw [if_pos ⟨Nat.zero_le _,h⟩,if_pos h,gd_q,Nat.zero_add]
 ·rw [if_neg (λz=>h z.2),if_neg h,gd_q]
theorem rev_pm (hp:Pm n p) (j:Nat):Pm n (kas_rev p 0 j):=hp.of (mirror_perm _ _ _ _)
theorem De.rev {k:Nat} (hk:k<=p.size) (h:De c p k):So c (kas_rev p 0 k) k:=λi j hij hj=>by
 rw [gd_rev hk,gd_rev hk,if_pos (by omega),if_pos hj]
 exact h (k-1-j) (k-1-i) (by omega) (by omega)
theorem ev_count (T:Tot n c) (hp:Pm n p) (hn:1<=n):∃ m q,ev c (kas_count n p)=(m,q)/\1<=m/\m<=n/\Pm n q/\So c q m:=by
 have s1:So c p 1:=λi j hij hj=>by omega
 obtain ⟨a,b,d,g⟩:=ev_asc T hp (n-1) 1 (Nat.le_refl _) (by omega) s1
 unfold kas_count
 rw [fc]
 generalize ev c (kas_asc p (n-1) 1)=r at *
 by_cases h1:(r == n)=true
 ·rw [if_pos h1]
  exact ⟨r,p,rfl,a,by omega,hp,d⟩
 ·rw [if_neg h1]
  have hr:r ≠ n:=by simpa using h1
  by_cases h2:r > 1
  ·rw [if_pos h2]
   show ∃ m q,ev c (if c (p.getD 0 0) (p.getD (r-1) 0)=true then .ret (r,p) else _)=(m,q)/\_
   rw [if_pos (d 0 (r-1) (by omega) (by omega))]
   exact ⟨r,p,rfl,a,by omega,hp,d⟩
  ·rw [if_neg h2]
   have r1:r=1:=by omega
   subst r1
   have d1:De c p 2:=λi j hij hj=>by
    have:i=0/\j=1:=by omega
    rw [this.1,this.2]
    exact g (by omega)
   unfold kas_descPart
   rw [fc]
   obtain ⟨k,e,ka,kb,kd⟩:=ev_desc T hp (n-(1+1)) (1+1) (by decide) (by omega) d1
   rw [e]
   show ∃ m q,ev c (if 0 > 0 then _ else kas_tail3 k n p)=(m,q)/\_
   rw [if_neg (by decide)]
   unfold kas_tail3
   rw [fc]
   have hq:=rev_pm hp k
   have sq:=De.rev (by rw [hp.sz]; omega) kd
   obtain ⟨a',b',d',_⟩:=ev_asc T hq (n-k) k (by omega) (by omega) sq
   exact ⟨_,_,rfl,by omega,by omega,hq,d'⟩
theorem iu (T:Tot n c) (hp:Pm n p) {k:Nat} (hk:k<n) (hs:So c p k):∀ f l r,r<=l+f->l<=r->r<=k->(∀ i,i<l->c (p.getD i 0) (p.getD k 0)=true)->(∀ i,r<=i->i<k->c (p.getD k 0) (p.getD i 0)=true)->
  ev c (kas_place p k f l r)<=k/\(∀ i,i<ev c (kas_place p k f l r)->c (p.getD i 0) (p.getD k 0)=true)/\(∀ i,ev c (kas_place p k f l r)<=i->i<k->c (p.getD k 0) (p.getD i 0)=true)
 | 0,l,r,h1,h2,h3,lo,hi=>⟨by show l<=k; omega,lo,λi hl hik=>hi i (by have:l<=i:=hl; omega) hik⟩
 | f+1,l,r,h1,h2,h3,lo,hi=>by
  by_cases hlr:l ≥ r
  ·have e:ev c (kas_place p k (f+1) l r)=l:=by
    show ev c (if l ≥ r then .ret l else _)=l
    rw [if_pos hlr]; rfl
   rw [e]
   exact ⟨by omega,lo,λi hl hik=>hi i (by omega) hik⟩
  ·have e:ev c (kas_place p k (f+1) l r)=ev c (if c (p.getD k 0) (p.getD ((l+r) / 2) 0)=true then kas_place p k f l ((l+r) / 2) else kas_place p k f ((l+r) / 2+1) r):=by
    show ev c (if l ≥ r then .ret l else .ask (p.getD k 0) (p.getD ((l+r) / 2) 0) λd=>if d=true then kas_place p k f l ((l+r) / 2) else kas_place p k f ((l+r) / 2+1) r)=_
    rw [if_neg hlr]; rfl
   rw [e]
   by_cases hc:c (p.getD k 0) (p.getD ((l+r) / 2) 0)=true
   ·rw [if_pos hc]
    refine iu T hp hk hs f l ((l+r) / 2) (by omega) (by omega) (by omega) lo λi hi1 hi2=>?_
    by_cases ei:i=(l+r) / 2
    ·rw [ei]; exact hc
    ·exact T.trp hp hk (by omega) (by omega) hc (hs _ i (by omega) hi2)
   ·rw [if_neg hc]
    have ho:=T.other hp hk (show (l+r) / 2<n by omega) (by omega) hc
    refine iu T hp hk hs f ((l+r) / 2+1) r (by omega) (by omega) h3 (λi hi1=>?_) hi
    by_cases ei:i=(l+r) / 2
    ·rw [ei]; exact ho
    ·exact T.trp hp (by omega) (by omega) hk (hs i _ (by omega) (by omega)) ho
theorem jt {k d:Nat} (hk:k<p.size) (hd:d<=k) (x:Nat):(bubble p k d).getD x 0=if x=k-d then p.getD k 0 else if k-d<x/\x<=k then p.getD (x-1) 0 else p.getD x 0:=by
 rw [gd_q,getElem?_bubble hk d hd]
 by_cases h:x=k-d
 ·rw [if_pos h,if_pos h,gd_q]
 ·rw [if_neg h,if_neg h]
  by_cases h2:k-d<x/\x<=k
  ·rw [if_pos h2,if_pos h2,gd_q]
  ·rw [if_neg h2,if_neg h2,gd_q]
theorem So.put (hp:Pm n p) {k q:Nat} (hk:k<n) (hq:q<=k) (hs:So c p k) (lo:∀ i,i<q->c (p.getD i 0) (p.getD k 0)=true) (hi:∀ i,q<=i->i<k->c (p.getD k 0) (p.getD i 0)=true):So c (bubble p k (k-q)) (k+1):=λi j hij hj=>by
 have hz:=hp.sz
 rw [jt (by omega) (by omega),jt (by omega) (by omega),show k-(k-q)=q by omega]
 by_cases i1:i=q
 ·rw [if_pos i1,if_neg (by omega),if_pos (by omega)]
  exact hi (j-1) (by omega) (by omega)
 ·rw [if_neg i1]
  by_cases i2:q<i/\i<=k
  ·rw [if_pos i2,if_neg (by omega),if_pos (by omega)]
   exact hs _ _ (by omega) (by omega)
  ·rw [if_neg i2]
   by_cases j1:j=q
   ·rw [if_pos j1]
    exact lo i (by omega)
   ·rw [if_neg j1]
    by_cases j2:q<j/\j<=k
    ·rw [if_pos j2]
     exact hs _ _ (by omega) (by omega)
    ·rw [if_neg j2]
     exact hs _ _ hij (by omega)
end
theorem ev_bin {n:Nat} {c:Nat->Nat->Bool} (T:Tot n c):∀ (f:Nat) (p:Array Nat) (k:Nat),Pm n p->k+f=n->So c p k->Pm n (ev c (kas_bin f p k))/\So c (ev c (kas_bin f p k)) n
 | 0,p,k,hp,hk,hs=>⟨hp,by rw [<- show k=n by omega]; exact hs⟩
 | f+1,p,k,hp,hk,hs=>by
  have e:ev c (kas_bin (f+1) p k)=ev c (kas_bin f (bubble p k (k-ev c (kas_place p k k 0 k))) (k+1)):=by
   show ev c ((kas_place p k k 0 k).bind λl=>kas_bin f (bubble p k (k-l)) (k+1))=_
   rw [fc]
  rw [e]
  obtain ⟨a,lo,hi⟩:=iu T hp (show k<n by omega) hs k 0 k (by omega) (by omega) (Nat.le_refl _) (λi h=>absurd h (by omega)) (λi h1 h2=>by omega)
  exact ev_bin T f _ (k+1) (hp.of (bubble_perm _ _ _)) (by omega) (hs.put hp (by omega) a lo hi)
theorem ev_sort {n:Nat} {c:Nat->Nat->Bool} (T:Tot n c) (hn:1<=n):Pm n (ev c (kas_sort n))/\So c (ev c (kas_sort n)) n:=by
 have hp:Pm n (List.toArray (List.range n)):=List.Perm.refl _
 obtain ⟨m,q,e,a,b,hq,hs⟩:=ev_count T hp hn
 unfold kas_sort
 rw [fc,e]
 dsimp only
 by_cases h:m<n
 ·rw [if_pos h]
  exact ev_bin T _ q _ hq (by omega) (by rw [show max m 1=m by omega]; exact hs)
 ·rw [if_neg h]
  exact ⟨hq,by rw [<- show m=n by omega]; exact hs⟩
end L2
namespace L2
open PySem PySem.Spec PyProof.Rows
section
variable {κ:Type} [DecidableEq κ]
def fi (kvs:List (κ × V)) (k:κ):Option V:=(kvs.find? λkv=>decide (kv.1=k)).map (·.2)
def da (kvs:List (κ × V)) (k:κ) (v:V):List (κ × V):=
 if (kvs.any λkv=>decide (kv.1=k))=true then kvs.map (λkv=>if kv.1=k then (kv.1,v) else kv) else kvs++[(k,v)]
theorem fZ {p:κ × V} {r:List (κ × V)} {k:κ} (e:p.1=k):fi (p::r) k=some p.2:=by simp [fi,find?_cons,e]
theorem gh {p:κ × V} {r:List (κ × V)} {k:κ} (e:¬ p.1=k):fi (p::r) k=fi r k:=by simp [fi,find?_cons,e]
theorem i9 (k:κ):∀ kvs:List (κ × V),(kvs.any λkv=>decide (kv.1=k))=(fi kvs k).isSome
 | []=>rfl
 | p::r=>by
  rw [any_cons]
  by_cases e:p.1=k
  ·simp only [fZ e,decide_eq_true e,Bool.true_or,Option.isSome_some]
  ·rw [gh e,decide_eq_false e,Bool.false_or]; exact i9 k r
theorem gU (kvs:List (κ × V)) (k:κ) (v:V):(da kvs k v).length<=kvs.length+1:=by
 unfold da
 split
 ·rw [length_map]; omega
 ·rw [length_append,length_cons,length_nil]; omega
theorem RelO.isSome_eq {o:Option V} {u:Option Value} (r:RelO o u):o.isSome=u.isSome:=by
 cases o with
 | none=>cases u with
  | none=>rfl
  | some _=>exact (show False from r).elim
 | some _=>cases u with
  | none=>exact (show False from r).elim
  | some _=>rfl
theorem RelO.getD {o:Option V} {u:Option Value} {d:V} {d':Value} (r:RelO o u) (rd:k9 d d'):k9 (o.getD d) (u.getD d'):=by
 cases o with
 | none=>cases u with
  | none=>exact rd
  | some _=>exact (show False from r).elim
 | some _=>cases u with
  | none=>exact (show False from r).elim
  | some _=>exact r
theorem KV.val {kvs:List (κ × V)} {vs:List (κ × Value)} (r:KV kvs vs) (k:κ):RelO (fi kvs k) (valueAt vs k):=by
 unfold KV at r
 induction r with
 | nil=>exact True.intro
 | @cons p q ps qs h t ih=>
  obtain ⟨h1,h2⟩:=h
  by_cases e:p.1=k
  ·have e':q.1=k:=h1.symm.trans e
   have b:valueAt (q::qs) k=some q.2:=by simp [valueAt,find?_cons,e']
   rw [fZ e,b]; exact h2
  ·have e':¬ q.1=k:=λz=>e (h1.trans z)
   have b:valueAt (q::qs) k=valueAt qs k:=by simp [valueAt,find?_cons,e']
   rw [gh e,b]; exact ih
theorem KV.any {kvs:List (κ × V)} {vs:List (κ × Value)} (r:KV kvs vs) (k:κ):(kvs.any λkv=>decide (kv.1=k))=vs.any λkv=>decide (kv.1=k):=by
 unfold KV at r
 induction r with
 | nil=>rfl
 | cons h t ih=>rw [any_cons,any_cons,ih,h.1]
theorem KV.repl {kvs:List (κ × V)} {vs:List (κ × Value)} (r:KV kvs vs) (k:κ) {y:V} {u:Value} (ry:k9 y u) :
  KV (kvs.map λkv=>if kv.1=k then (kv.1,y) else kv) (vs.map λkv=>if kv.1=k then (kv.1,u) else kv):=by
 unfold KV at r ⊢
 induction r with
 | nil=>exact .nil
 | @cons p q ps qs h t ih=>
  rw [map_cons,map_cons]
  refine .cons ?_ ih
  obtain ⟨h1,h2⟩:=h
  by_cases e:p.1=k
  ·rw [if_pos e,if_pos (h1.symm.trans e)]; exact ⟨h1,ry⟩
  ·rw [if_neg e,if_neg (λz=>e (h1.trans z))]; exact ⟨h1,h2⟩
theorem KV.put {kvs:List (κ × V)} {vs:List (κ × Value)} (r:KV kvs vs) (k:κ) {y:V} {u:Value} (ry:k9 y u):KV (da kvs k y) (stored vs k u):=by
 unfold da stored
 rw [r.any k]
 by_cases e:(vs.any λkv=>decide (kv.1=k))=true
 ·rw [if_pos e,if_pos e]; exact r.repl k ry
 ·rw [if_neg e,if_neg e]; exact Paired.snoc r ⟨rfl,ry⟩
theorem KV.length {kvs:List (κ × V)} {vs:List (κ × Value)} (r:KV kvs vs):kvs.length=vs.length:=Paired.length r
end
theorem kV_is {P:Program} {w:World} {k:Key} {u:Value} (r:k9 (kV k) u):(aZ P w).is k u=true:=by
 cases k with
 | inl i=>obtain ⟨t,e⟩:=(show ∃ t,u=Value.int i t from r); subst e; exact mixKind_int P w i t
 | inr x=>obtain ⟨t,e⟩:=(show ∃ t,u=Value.str x t from r); subst e; exact mixKind_str P w x t
theorem jE {P:Program} {w:World}:∀ {ks:List Key} {us:List Value},kY (ks.map kV) us->ItemsAre (aZ P w) ks us
 | [],_,r=>by rw [map_nil] at r; cases r; exact .nil
 | k::ks,_,r=>by
  rw [map_cons] at r
  cases r with
  | cons h t=>exact .cons (kV_is h) (jE t)
abbrev KT (H:Hp):List (List Key × V)->List (List Key × Addr × Value)->Prop:=Paired λp q=>p.1=q.1/\H q.2.1=some (.tup (p.1.map kV))/\k9 p.2 q.2.2
theorem KT.val {H:Hp} {kvs:List (List Key × V)} {xs:List (List Key × Addr × Value)} (r:KT H kvs xs) (k:List Key):RelO (fi kvs k) ((atKey xs k).map (·.2)):=by
 induction r with
 | nil=>exact True.intro
 | @cons p q ps qs h t ih=>
  obtain ⟨h1,_,h2⟩:=h
  by_cases e:p.1=k
  ·have e':q.1=k:=h1.symm.trans e
   have b:atKey (q::qs) k=some q.2:=by simp [atKey,find?_cons,e']
   rw [fZ e,b]; exact h2
  ·have e':¬ q.1=k:=λz=>e (h1.trans z)
   have b:atKey (q::qs) k=atKey qs k:=by simp [atKey,find?_cons,e']
   rw [gh e,b]; exact ih
theorem KT.repl {H:Hp} {kvs:List (List Key × V)} {xs:List (List Key × Addr × Value)} (r:KT H kvs xs) (k:List Key) {y:V} {u:Value} (ry:k9 y u) :
  KT H (kvs.map λkv=>if kv.1=k then (kv.1,y) else kv) (xs.map (putAt k u)):=by
 induction r with
 | nil=>exact .nil
 | @cons p q ps qs h t ih=>
  rw [map_cons,map_cons]
  refine .cons ?_ ih
  obtain ⟨h1,h2,h3⟩:=h
  unfold putAt
  by_cases e:p.1=k
  ·rw [if_pos e,if_pos (h1.symm.trans e)]; exact ⟨h1,h2,ry⟩
  ·rw [if_neg e,if_neg (λz=>e (h1.trans z))]; exact ⟨h1,h2,h3⟩
theorem KT.put {H:Hp} {kvs:List (List Key × V)} {xs:List (List Key × Addr × Value)} (r:KT H kvs xs) (k:List Key) {b:Addr} {y:V} {u:Value} (hb:H b=some (.tup (k.map kV))) (ry:k9 y u) :
  KT H (da kvs k y) (storedH xs k b u):=by
 have e:(kvs.any λkv=>decide (kv.1=k))=(atKey xs k).isSome:=by
  rw [i9,(r.val k).isSome_eq,Option.isSome_map]
 unfold da storedH
 rw [e]
 by_cases q:(atKey xs k).isSome=true
 ·rw [if_pos q,if_pos q]; exact r.repl k ry
 ·rw [if_neg q,if_neg q]; exact Paired.snoc r ⟨rfl,hb,ry⟩
theorem KT.keeps {H H':Hp} {kvs:List (List Key × V)} {xs:List (List Key × Addr × Value)} (r:KT H kvs xs) (ht:∀ b ys,H b=some (.tup ys)->H' b=some (.tup ys)):KT H' kvs xs:=
 Paired.mapP r λ_ _ z=>⟨z.1,ht _ _ z.2.1,z.2.2⟩
section
variable {P:Program} {w:World} {H:Hp} {h:Heap} {a:Addr}
theorem rd_of {u:HO} (ok:HOk P w H h) (e:Rd H a u):ls P w H h a u:=e.ok ok
theorem jL {kvs:List (Key × V)} (ok:HOk P w H h) (e:Rd H a (.dK kvs)):kvs.length<=sizeLine/\(a == sysModules)=false/\∃ vs,KV kvs vs/\h.DictOf (aZ P w) a vs:=
 show ls P w H h a (.dK kvs) from rd_of ok e
theorem dk_of {kvs:List (Key × V)} (ok:HOk P w H h) (e:H a=some (.dK kvs)):kvs.length<=sizeLine/\(a == sysModules)=false/\∃ vs,KV kvs vs/\h.DictOf (aZ P w) a vs:=jL ok (.inl e)
theorem iB {ks:List Key} (ok:HOk P w H h) (e:H a=some (.tup (ks.map kV))):(tupleKind (aZ P w)).is h ks a:=by
 obtain ⟨_,its,r,o,h1,h2,n,h3⟩:=(show ls P w H h a (.tup (ks.map kV)) from ok a _ e)
 exact ⟨o,its.toArray,n,h1,h2,h3,by simpa using jE r⟩
theorem jC {kvs:List (List Key × V)} (ok:HOk P w H h) (e:Rd H a (.dT kvs)):kvs.length<=sizeLine/\(a == sysModules)=false/\
  ∃ xs,KT H kvs xs/\h.DictOfH (tupleKind (aZ P w)) a xs:=by
 obtain ⟨z,y,xs,r,o,es,ep,h1,h2,h3,h4,h5⟩:=(show ls P w H h a (.dT kvs) from rd_of ok e)
 refine ⟨z,y,xs,r,o,es,ep,h1,h2,h3,h4,λx hx=>?_,h5⟩
 have all:∀ {l:List (List Key × V)} {m:List (List Key × Addr × Value)},KT H l m->∀ x ∈ m,(tupleKind (aZ P w)).is h x.1 x.2.1:=by
  intro l m q
  induction q with
  | nil=>intro x hx; exact nomatch hx
  | @cons p q ps qs hq t ih=>
   intro x hx
   rcases List.mem_cons.mp hx with e | hx
   ·subst e
    exact iB ok (by rw [<- hq.1]; exact hq.2.1)
   ·exact ih x hx
 exact all r x hx
theorem dt_of {kvs:List (List Key × V)} (ok:HOk P w H h) (e:H a=some (.dT kvs)):kvs.length<=sizeLine/\(a == sysModules)=false/\
  ∃ xs,KT H kvs xs/\h.DictOfH (tupleKind (aZ P w)) a xs:=jC ok (.inl e)
end
def DGet (H:Hp) (a:Addr) (y:V) (r:Option V):Prop:=
 (∃ kvs k,Rd H a (.dK kvs)/\y=kV k/\r=fi kvs k)\/∃ kvs k b,Rd H a (.dT kvs)/\y=.ref b/\H b=some (.tup (k.map kV))/\r=fi kvs k
def DPut (H:Hp) (a:Addr) (y v:V) (H':Hp):Prop:=
 (∃ kvs k,H a=some (.dK kvs)/\y=kV k/\kvs.length<sizeLine/\H'=upd H a (.dK (da kvs k v))) \/
 ∃ kvs k b,H a=some (.dT kvs)/\y=.ref b/\H b=some (.tup (k.map kV))/\kvs.length<sizeLine/\H'=upd H a (.dT (da kvs k v))
theorem DGet.t {H:Hp} {a b:Addr} {kvs:List (List Key × V)} {k:List Key} (e:H a=some (.dT kvs)) (eb:H b=some (.tup (k.map kV))):DGet H a (.ref b) (fi kvs k):=.inr ⟨kvs,k,b,.inl e,rfl,eb,rfl⟩
theorem DPut.t {H:Hp} {a b:Addr} {kvs:List (List Key × V)} {k:List Key} {v:V} (e:H a=some (.dT kvs)) (eb:H b=some (.tup (k.map kV))) (hl:kvs.length<sizeLine) :
  DPut H a (.ref b) v (upd H a (.dT (da kvs k v))):=.inr ⟨kvs,k,b,e,rfl,eb,hl,rfl⟩
section
variable {X:Cx} {pins:List (Addr × Obj)} {σ:St} {H:Hp} {s:Shared} {a:Addr} {y v:V} {u r:Value} {o:Option V} {A:Around} {E:Value->Shared->Prop}
theorem Inv.big (I:Inv X pins σ H s):sysModules<s.heap.objs.size:=by
 have h:mainGlobals<s.heap.objs.size:=(I.mod.glob.keeps I.bk).lt
 exact Nat.lt_trans (by decide) h
theorem d_getItem {Q:Value->Shared->Prop} (hu:A.units+1<cLine) (I:Inv X pins σ H s) (g:DGet H a y (some v)) (ry:k9 y u) (h:∀ w' s',Inv X pins σ H s'->k9 v w'->Q w' s') :
  wpAny (model X.prog X.w) A (getItem (.ref a) u) Q E s:=by
 rcases g with ⟨kvs,k,e,ey,l⟩ | ⟨kvs,k,b,e,ey,eb,l⟩
 ·subst ey
  obtain ⟨z,hd,vs,rel,dd⟩:=jL I.hok e
  obtain ⟨w',hw,rw'⟩:=RelO.some_of (v:=v) (o:=valueAt vs k) (by rw [l]; exact rel.val k)
  exact wpAny_getItem_of (kV_is ry) dd.mapOf hw (h w' _ (I.tok _) rw')
 ·subst ey
  cases (show u=Value.ref b from ry)
  obtain ⟨z,hd,xs,rel,dd⟩:=jC I.hok e
  obtain ⟨w',hw,rw'⟩:=RelO.some_of (v:=v) (o:=(atKey xs k).map (·.2)) (by rw [l]; exact rel.val k)
  obtain ⟨p,hp,hp2⟩:=Option.map_eq_some_iff.mp hw
  refine wpAny_getItem_heap (tupleKind_room_in1 hu) (iB I.hok eb) dd hp ?_
  rw [hp2]
  exact h w' _ (I.tok _) rw'
theorem d_in {Q:Value->Shared->Prop} (hu:A.units+1<cLine) (I:Inv X pins σ H s) (g:DGet H a y o) (ry:k9 y u) (h:∀ s',Inv X pins σ H s'->Q (.bool o.isSome) s') :
  wpAny (model X.prog X.w) A (compareOp .In u (.ref a)) Q E s:=by
 rcases g with ⟨kvs,k,e,ey,l⟩ | ⟨kvs,k,b,e,ey,eb,l⟩
 ·subst ey
  obtain ⟨z,hd,vs,rel,dd⟩:=jL I.hok e
  refine wpAny_in_of (kV_is ry) hd dd.mapOf ?_
  rw [<- (rel.val k).isSome_eq,<- l]
  exact h _ (I.tok _)
 ·subst ey
  cases (show u=Value.ref b from ry)
  obtain ⟨z,hd,xs,rel,dd⟩:=jC I.hok e
  refine wpAny_in_heap (tupleKind_room_in1 hu) (iB I.hok eb) hd dd ?_
  have q:=(rel.val k).isSome_eq
  rw [Option.isSome_map] at q
  rw [<- q,<- l]
  exact h _ (I.tok _)
theorem d_write {h':Heap} {t':Nat} {ob:HO} (I:Inv X pins σ H s) (mu:Mut (H a)) (hs:Heap.SameBut a s.heap h') (he:∃ q,h'.get? a=some q) (new:ls X.prog X.w (upd H a ob) h' a ob) :
  Inv X pins σ (upd H a ob) { s with heap:=h',toks:=t' }:=
 I.write (x:=a) (e:=a) mu (.inl rfl) (λb q hb z=>(hs.2 b hb).trans z) he new
theorem dk_new {P:Program} {w:World} {H':Hp} {h':Heap} {kvs:List (Key × V)} {vs:List (Key × Value)} (z:kvs.length<=sizeLine) (hd:(a == sysModules)=false) (rel:KV kvs vs) (dd:h'.DictOf (aZ P w) a vs) :
  ls P w H' h' a (.dK kvs):=⟨z,hd,vs,rel,dd⟩
theorem d_setItem {H':Hp} {Q:Unit->Shared->Prop} (hu:A.units+1<cLine) (I:Inv X pins σ H s) (g:DPut H a y v H') (ry:k9 y u) (rv:k9 v r) (h:∀ s',Inv X pins σ H' s'->Q () s') :
  wpAny (model X.prog X.w) A (setItem (.ref a) u r) Q E s:=by
 rcases g with ⟨kvs,k,e,ey,l,eH⟩ | ⟨kvs,k,b,e,ey,eb,l,eH⟩
 ·subst ey eH
  obtain ⟨z,hd,vs,rel,dd⟩:=dk_of I.hok e
  have hz:vs.length<=sizeLine:=by rw [<- rel.length]; exact z
  have hl:(da kvs k v).length<=sizeLine:=by have:=gU kvs k v; omega
  refine wpAny_setItem_pairs (hsz:=hz) (kV_is ry) dd λh' dd' hs=>h _ ?_
  have he:∃ q,h'.get? a=some q:=let ⟨q,_,_,hq,_⟩:=dd'; ⟨q,hq⟩
  exact d_write I (by rw [e]; exact True.intro) hs he (dk_new hl hd (rel.put k rv) dd')
 ·subst ey eH
  cases (show u=Value.ref b from ry)
  obtain ⟨z,hd,xs,rel,dd⟩:=dt_of I.hok e
  have hz:xs.length<=sizeLine:=by rw [<- Paired.length rel]; exact z
  have hl:(da kvs k v).length<=sizeLine:=by have:=gU kvs k v; omega
  refine wpAny_setItem_heap (hsz:=hz) (tupleKind_room_in1 hu) (iB I.hok eb) dd λh' dd' hs=>h _ ?_
  obtain ⟨q,es,ep,hq,h2,h3,h4,_,h5⟩:=dd'
  refine d_write I (by rw [e]; exact True.intro) hs ⟨q,hq⟩ ⟨hl,hd,_,(rel.put k eb rv).keeps λc ys ec=>?_,q,es,ep,hq,h2,h3,h4,h5⟩
  rw [au (bU ec e (λz=>nomatch z))]
  exact ec
end
def NoSl (i:Expr):Prop:=∀ ov iv,subscripted i false ov iv=operate [ov,iv] (getItem ov iv)
theorem subD_of {prog:Program} {w:World} {A:Around} {E:Value->Shared->Prop} {s:Shared} {env:Env} {value slice:Expr} {pos:Pos} {T id:String} {Q:Value->Shared->Prop}
  (hl:typeLookup (.type T) "__getitem__" = pure (some (.builtin id))) (hs:NoSl slice)
  (h:wpAny (model prog w) A (eval value env) (λo s₁=>wpAny (model prog w) A (eval slice env) (λi s₂=>s₂.TypeIs o T/\wpAny (model prog w) A (getItem o i) Q E s₂) E s₁) E s) :
  wpAny (model prog w) A (eval (.Subscript value slice pos) env) Q E s:=by
 refine Subscript_ (wpAny_mono h (λo s₁ h₁=>wpAny_mono h₁ (λi s₂ h₂=>?_) λ_ _ x=>x) λ_ _ x=>x)
 obtain ⟨hT,h₂⟩:=h₂
 unfold subscriptTail
 refine wpAny_bind ?_
 rw [getitemInPython_of_ne hT.not_modules]
 refine wpAny_bind (wpAny_specialOf hT hl ?_)
 have fin:wpAny (model prog w) A (subscripted slice false o i) (λr s₃=>wpAny (model prog w) A (letTemporaryGo value o r >>= λ_=>pure r) Q E s₃) E s₂:=by
  rw [hs o i]
  exact wpAny_operating (wpAny_mono h₂ (λr s₃ h₃=>wpAny_bind (wpAny_letTemporaryGo (wpAny_pure h₃))) λ_ _ x=>x)
 first
  | exact wpAny_pure (wpAny_bind fin)
  | exact wpAny_bind (wpAny_pure (wpAny_bind fin))
  | exact wpAny_bind fin
theorem dict_typeIs {X:Cx} {pins:List (Addr × Obj)} {σ:St} {H:Hp} {s:Shared} {a:Addr} {y:V} {o:Option V} (I:Inv X pins σ H s) (g:DGet H a y o):s.TypeIs (.ref a) "dict":=by
 rcases g with ⟨kvs,k,e,_,_⟩ | ⟨kvs,k,b,e,_,_,_⟩
 ·obtain ⟨_,_,vs,_,dd⟩:=jL I.hok e
  exact dd.typeIs
 ·obtain ⟨_,_,xs,_,dd⟩:=jC I.hok e
  exact dd.typeIs
def tDGet (td ty:TE):TE:=λσ H Q=>td σ H λx H1=>ty σ H1 λy H2=>∃ a v,x=.ref a/\DGet H2 a y (some v)/\Q v H2
def tDIn (ty td:TE):TE:=λσ H Q=>ty σ H λy H1=>td σ H1 λx H2=>∃ a o,x=.ref a/\DGet H2 a y o/\Q (.bl o.isSome) H2
def sDPut (td ty tv:TE):TS:=λD σ H=>tv σ H λv H1=>td σ H1 λx H2=>ty σ H2 λy H3=>∃ a H4,x=.ref a/\DPut H3 a y v H4/\D.nx σ H4
section
variable {X:Cx} {o i e value:Expr} {pos pos' tpos:Pos} {td ty tv:TE}
theorem e5 (hu:X.A.units+1<cLine) (ho:PE X o td) (hi:PE X i ty) (hs:NoSl i):PE X (.Subscript o i pos) (tDGet td ty):=by
 intro pins s σ H Q I h
 refine subD_of PySem.F.slot_dict_getitem.lookup hs (thn (ho pins s σ H _ I h) λu s1 ⟨x,H1,I1,rx,q1⟩=>thn (hi pins s1 σ H1 _ I1 q1) λiv s2 ⟨y,H2,I2,ry,a,v,ex,g,q2⟩=>?_)
 subst ex
 obtain rfl:u=Value.ref a:=rx
 exact ⟨dict_typeIs I2 g,d_getItem hu I2 g ry λw' s3 I3 rw'=>⟨v,H2,I3,rw',q2⟩⟩
theorem pc_din (hu:X.A.units+1<cLine) (hi:PE X i ty) (ho:PE X o td):PC X .In i o (tDIn ty td):=by
 intro pins s σ H Q I h
 refine thn (hi pins s σ H _ I h) λiv s1 ⟨y,H1,I1,ry,q1⟩=>thn (ho pins s1 σ H1 _ I1 q1) λu s2 ⟨x,H2,I2,rx,a,ov,ex,g,q2⟩=>?_
 subst ex
 obtain rfl:u=Value.ref a:=rx
 exact d_in hu I2 g ry λs3 I3=>⟨.bl ov.isSome,H2,I3,rfl,q2⟩
theorem ps_dput (hu:X.A.units+1<cLine) (ho:PE X o td) (hi:PE X i ty) (hv:PE X value tv) (hs:swapsWith value (some (.Subscript o i pos')) pos.line X.env=pure false) :
  PS X (.Assign [.Subscript o i pos'] value pos) (sDPut td ty tv):=by
 intro pins s σ H D I h
 refine wpAny_Assign_Subscript (thn (hv pins s σ H _ I h) λr s1 ⟨v,H1,I1,rv,q1⟩=>thn (ho pins s1 σ H1 _ I1 q1) λu s2 ⟨x,H2,I2,rx,q2⟩=>thn (hi pins s2 σ H2 _ I2 q2) λiv s3 ⟨y,H3,I3,ry,a,H4,ex,g,q3⟩=>?_) hs
 subst ex
 obtain rfl:u=Value.ref a:=rx
 exact d_setItem hu I3 g ry rv λs4 I4=>⟨σ,H4,I4,q3⟩
end
theorem dt_empty {P:Program} {w:World} {H:Hp} (h:Heap) (hb:sysModules<h.objs.size):ls P w H (h.push { cls:=.type "dict",data:=.dict #[] }) h.objs.size (.dT []):=
 ⟨Nat.zero_le _,beq_eq_false_iff_ne.mpr (Ne.symm (Nat.ne_of_lt hb)),[],.nil,_,#[],0,get?_push_size _ rfl,⟨rfl,rfl,rfl⟩,rfl,rfl,List.nodup_nil⟩
def tDNewT:TE:=λ_ H Q=>∀ p,H p=none->Q (.ref p) (upd H p (.dT []))
section
variable {X:Cx} {pos:Pos}
theorem pe_dnewT:PE X (.Dict [] [] pos) tDNewT:=λpins s σ H Q I h=>
 wpAny_Dict_empty ⟨.ref s.heap.objs.size,_,I.laid (a:=s.heap.objs.size) (o:=.dT []) (t':=s.toks) (λ_ _ q=>get?_push_of_some _ q) (Nat.le_refl _) (dt_empty s.heap I.big),rfl,h _ (I.hok.fresh (Nat.le_refl _))⟩
end
structure M2 (X:Cx) (o:Expr) (m:Str) (apos:Pos) (e f:Expr) (cpos:Pos):Prop where
 base:attributeBase o m X.env (eval o X.env)=eval o X.env
 few:((backTo cpos (starEach [e,f] X.env)).all (λx=>!x.1) && (backToKw cpos (keywordEach [] X.env)).all (λx=>x.1.isSome)
  && decide (([e,f]:List Expr).length+([]:List Keyword).length+(if ([]:List Keyword).isEmpty then 0 else 1)<30))=true
 line:(apos.endLine == cpos.line)=true
 trees:backTo cpos (starEach [e,f] X.env)=[(false,eval e X.env),(false,eval f X.env)]
def IsD (H:Hp) (a:Addr):Prop:=(∃ kvs,Rd H a (.dK kvs))\/∃ kvs,Rd H a (.dT kvs)
theorem isD_at {X:Cx} {pins:List (Addr × Obj)} {σ:St} {H:Hp} {s:Shared} {a:Addr} (I:Inv X pins σ H s) (d:IsD H a) :
  s.TypeIs (.ref a) "dict"/\(∀ b,Value.ref a=.ref b->∃ ob,s.heap.get? b=some ob/\ob.dict=none)/\(a == sysModules)=false:=by
 rcases d with ⟨kvs,e⟩ | ⟨kvs,e⟩
 ·obtain ⟨_,hd,vs,_,dd⟩:=jL I.hok e
  refine ⟨dd.typeIs,λb q=>?_,hd⟩
  cases q
  obtain ⟨ob,_,_,h1,h2,_⟩:=dd
  exact ⟨ob,h1,h2.2.1⟩
 ·obtain ⟨_,hd,xs,_,dd⟩:=jC I.hok e
  refine ⟨dd.typeIs,λb q=>?_,hd⟩
  cases q
  obtain ⟨ob,_,_,h1,h2,_⟩:=dd
  exact ⟨ob,h1,h2.2.1⟩
section
variable {X:Cx} {pins:List (Addr × Obj)} {σ:St} {H:Hp} {s:Shared} {a:Addr} {y d:V} {u r:Value} {o:Option V} {A:Around} {E:Value->Shared->Prop}
theorem d_get2 {Q:Value->Shared->Prop} (hu:A.units+1<cLine) (I:Inv X pins σ H s) (g:DGet H a y o) (ry:k9 y u) (rd:k9 d r) (h:∀ w' s',Inv X pins σ H s'->k9 (o.getD d) w'->Q w' s') :
  wpAny (model X.prog X.w) A (call (.builtin "dict.get") [.ref a,u,r]) Q E s:=by
 rcases g with ⟨kvs,k,e,ey,l⟩ | ⟨kvs,k,b,e,ey,eb,l⟩
 ·subst ey
  obtain ⟨z,hd,vs,rel,dd⟩:=jL I.hok e
  refine call_meetsIn PySem.F.slot_dict_get dd.typeIs PySem.F.entry_dict_get (PySem.F.args_dict_get_3 _ _ _) (meets_dict_get_default (aZ X.prog X.w) a (kV_is ry) hd r) ⟨_,dd.mapOf,h _ _ (I.tok _) ?_⟩
  rw [l]
  exact (rel.val k).getD rd
 ·subst ey
  cases (show u=Value.ref b from ry)
  obtain ⟨z,hd,xs,rel,dd⟩:=jC I.hok e
  refine call_meetsIn PySem.F.slot_dict_get dd.typeIs PySem.F.entry_dict_get (PySem.F.args_dict_get_3 _ _ _) (meetsH_dict_get_default (tupleKind (aZ X.prog X.w)) a b hd r) ⟨tupleKind_room_in1 hu,k,xs,iB I.hok eb,dd,h _ _ (I.tok _) ?_⟩
  rw [l]
  exact (rel.val k).getD rd
end
def tDGet2 (td ty tx:TE):TE:=λσ H Q=>td σ H λx H1=>∃ a,x=.ref a/\IsD H1 a/\ty σ H1 λy H2=>tx σ H2 λz H3=>∃ o,DGet H3 a y o/\Q (o.getD z) H3
section
variable {X:Cx} {o e f:Expr} {apos cpos:Pos} {td ty tx:TE}
theorem pe_dget2 (hu:X.A.units+1<cLine) (ho:PE X o td) (he:PE X e ty) (hf:PE X f tx) (m:M2 X o "get" apos e f cpos):PE X (.Call (.Attribute o "get" apos) [e,f] [] cpos) (tDGet2 td ty tx):=by
 intro pins s σ H Q I h
 refine wpAny_Call_method m.base m.few m.line PySem.F.plainAttrs_dict PySem.F.slot_dict_get PySem.F.type_dict_get (thn (ho pins s σ H _ I h) λu s1 ⟨x,H1,I1,rx,a,ex,d,q1⟩=>?_)
 subst ex
 obtain rfl:u=Value.ref a:=rx
 obtain ⟨t1,t2,_⟩:=isD_at I1 d
 refine ⟨t1,t2,?_⟩
 rw [m.trees]
 refine Calls.callWith_builtin rfl (Calls.evalArgs_plain (Calls.spliced_cons (thn (he pins s1 σ H1 _ I1 q1) λiv s2 ⟨y,H2,I2,ry,q2⟩=>
  Calls.spliced_cons (thn (hf pins s2 σ H2 _ I2 q2) λfv s3 ⟨z,H3,I3,rz,ov,g,q3⟩=>Calls.spliced_nil ?_))))
 exact d_get2 hu I3 g ry rz λw' s4 I4 rw'=>⟨_,H3,I4,rw',q3⟩
end
end L2
namespace L2
open PySem PySem.Spec PyProof.Rows PySem.W
def InR {α:Type} (n:Nat) (P:α->Prop):KasT α->Prop
 | .ret a=>P a
 | .ask i j k=>i<n/\j<n/\∀ b,InR n P (k b)
theorem InR.bind {α β:Type} {n:Nat} {P:α->Prop} {Q:β->Prop} {f:α->KasT β}:∀ {t:KasT α},InR n P t->(∀ a,P a->InR n Q (f a))->InR n Q (t.bind f)
 | .ret a,h,hf=>hf a h
 | .ask i j k,h,hf=>⟨h.1,h.2.1,λb=>InR.bind (h.2.2 b) hf⟩
theorem InR.ite {α:Type} {n:Nat} {P:α->Prop} {c:Prop} [Decidable c] {t u:KasT α} (h1:InR n P t) (h2:InR n P u):InR n P (if c then t else u):=by
 split
 ·exact h1
 ·exact h2
def Lo (n:Nat) (p:Array Nat):Prop:=∀ x ∈ p,x<n
theorem Lo.at {n:Nat} {p:Array Nat} (h:Lo n p) (h0:0<n) (i:Nat):p.getD i 0<n:=by
 rw [gd_q]
 cases e:p[i]? with
 | none=>exact h0
 | some x=>exact h x (Array.mem_of_getElem? e)
theorem Lo.of {n:Nat} {p q:Array Nat} (h:Lo n p) (e:q.Perm p):Lo n q:=λx hx=>h x (e.mem_iff.mp hx)
section
variable {n:Nat} (h0:0<n)
include h0
theorem kQ {p:Array Nat} (hp:Lo n p):∀ f m,InR n (λ_=>True) (kas_asc p f m)
 | 0,m=>trivial
 | f+1,m=>⟨hp.at h0 _,hp.at h0 _,λb=>.ite trivial (kQ hp f (m+1))⟩
theorem fS:∀ f p m q,Lo n p->InR n (λr=>Lo n r.1) (kas_desc f p m q)
 | 0,p,m,q,hp=>hp
 | f+1,p,m,q,hp=>⟨hp.at h0 _,hp.at h0 _,λb=>.ite (.ite (fS f _ _ _ (hp.of (mirror_perm _ _ _ _))) (fS f _ _ _ hp))
   ⟨hp.at h0 _,hp.at h0 _,λd=>.ite hp (fS f _ _ _ hp)⟩⟩
theorem jQ {p:Array Nat} (hp:Lo n p) (m k:Nat):InR n (λr=>Lo n r.2) (kas_tail3 m k p):=
 (kQ h0 (hp.of (mirror_perm _ _ _ _)) _ _).bind λ_ _=>hp.of (mirror_perm _ _ _ _)
theorem gg {p:Array Nat} (hp:Lo n p) (m k:Nat):InR n (λr=>Lo n r.2) (kas_descPart m k p):=
 (fS h0 _ _ _ _ hp).bind λr hr=>.ite (jQ h0 (hr.of (mirror_perm _ _ _ _)) _ _) (jQ h0 hr _ _)
theorem inr_count {p:Array Nat} (hp:Lo n p) (k:Nat):InR n (λr=>Lo n r.2) (kas_count k p):=
 (kQ h0 hp _ _).bind λm _=>.ite hp (.ite ⟨hp.at h0 _,hp.at h0 _,λc=>.ite hp (gg h0 (hp.of (mirror_perm _ _ _ _)) _ _)⟩ (gg h0 hp _ _))
theorem gN {p:Array Nat} (hp:Lo n p) (k:Nat):∀ f l r,InR n (λ_=>True) (kas_place p k f l r)
 | 0,l,r=>trivial
 | f+1,l,r=>.ite trivial ⟨hp.at h0 _,hp.at h0 _,λc=>.ite (gN hp k f _ _) (gN hp k f _ _)⟩
theorem inr_bin:∀ f p k,Lo n p->InR n (λ_=>True) (kas_bin f p k)
 | 0,p,k,hp=>trivial
 | f+1,p,k,hp=>(gN h0 hp k _ _ _).bind λl _=>inr_bin f _ _ (hp.of (bubble_perm _ _ _))
theorem inr_sort:InR n (λ_=>True) (kas_sort n):=
 (inr_count h0 (λx hx=>by simpa using hx) n).bind λr hr=>.ite (inr_bin h0 _ _ _ hr) trivial
end
theorem wp_ev {α:Type} {n:Nat} {c:Nat->Nat->Bool} {cmp:Nat->Nat->(Bool->Shared->Prop)->Shared->Prop} {P:α->Prop} {Q:α->Shared->Prop} {s:Shared} (h:∀ i j C,i<n->j<n->C (c i j) s->cmp i j C s) :
  ∀ {t:KasT α},InR n P t->Q (ev c t) s->t.kasWp cmp Q s
 | .ret a,_,q=>q
 | .ask i j k,r,q=>h i j _ r.1 r.2.1 (wp_ev h (r.2.2 (c i j)) q)
def klt (a b:Int × List Int):Bool:=if a.1=b.1 then (if a.2=b.2 then false else HT.lexLt a.2 b.2) else decide (a.1<b.1)
section
variable {X:Cx} {pins:List (Addr × Obj)} {σ:St} {H:Hp} {s:Shared}
def KeyR (K:Frag) (H:Hp) (y:V) (k:Int × List Int):Prop:=∃ a t,y=.ref a/\H a=some (.tup [.int k.1,.ref t])/\SqT K H t (k.2.map V.int)
theorem key_lt {A:Around} {E:Value->Shared->Prop} {x y:V} {u v:Value} {j k:Int × List Int} {Q:Bool->Shared->Prop} (hu:A.units+64<cLine) (I:Inv X pins σ H s) (hx:KeyR X.K H x j) (hy:KeyR X.K H y k) (rx:k9 x u) (ry:k9 y v)
  (h:Q (klt j k) s):wpAny (model X.prog X.w) A (keyLt' (tuples' true) u v) Q E s:=by
 obtain ⟨a,ta,rfl,ha,hta⟩:=hx
 obtain ⟨b,tb,rfl,hb,htb⟩:=hy
 cases rx
 cases ry
 obtain ⟨_,its,r1,p1⟩:=(show ls X.prog X.w H s.heap a (.tup _) from I.hok a _ ha)
 obtain ⟨_,its2,r2,p2⟩:=(show ls X.prog X.w H s.heap b (.tup _) from I.hok b _ hb)
 obtain ⟨⟨cls,dd,data,sl⟩,ho,hc,n,hd⟩:=id p1
 obtain ⟨⟨cls2,dd2,data2,sl2⟩,ho2,hc2,n2,hd2⟩:=id p2
 cases r1 with
 | cons q1 r1=>cases r1 with
  | cons q2 r1=>
   cases r1
   cases r2 with
   | cons q3 r2=>cases r2 with
    | cons q4 r2=>
     cases r2
     obtain ⟨t1,rfl⟩:=q1
     obtain ⟨t3,rfl⟩:=q3
     cases q2
     cases q4
     refine kat_lt ho hd ho2 hd2 (kat_cons (wpAny_eqBool_int (kat_go (λe=>kat_yes ?_) λe=>kat_no ?_)))
     ·have e1:j.1=k.1:=by simpa using e
      unfold klt at h
      rw [if_pos e1] at h
      obtain ⟨as,ra⟩:=(fg hta).reads I rfl
      obtain ⟨bs,rb⟩:=(fg htb).reads I rfl
      obtain ⟨jts,r3,p3,_⟩:=I.tuple hta
      obtain ⟨jts2,r4,p4,_⟩:=I.tuple htb
      have eqr:SeqAt.EqAt A s (.ref ta) (.ref tb) (decide (j.2=k.2)):=by
       by_cases hab:ta=tb
       ·subst hab
        rw [decide_eq_true (ints_inj (I.tuple_inj hta htb))]
        exact SeqAt.EqAt.same _
       ·exact SeqAt.EqAt.of_refs hab λprog w E Q' hq=>eq_dataH ra rb (bP _) (bP _) hu (by rw [ip]; exact hq)
      refine kat_cons (eqr _ _ _ _ ?_)
      refine kat_go (λe=>kat_yes (kat_nil ?_)) λe=>kat_no ?_
      ·rw [if_pos (of_decide_eq_true e)] at h
       exact h
      ·rw [if_neg (of_decide_eq_false e)] at h
       exact kat_one _ _ (HT.lt_tupInts p3 p4 (iw r3) (iw r4) (by omega) h)
     ·have e1:¬ j.1=k.1:=by simpa using e
      unfold klt at h
      rw [if_neg e1] at h
      exact oneLt_int h
end
section
variable {X:Cx} {pins:List (Addr × Obj)} {σ:St} {H:Hp} {s:Shared}
theorem KeyR.but {K:Frag} {H H':Hp} {p:Addr} {xs:List V} {y:V} {k:Int × List Int} (hp:H p=some (.lst xs)) (hk:∀ c o,H c=some o->c ≠ p->H' c=some o) (h:KeyR K H y k):KeyR K H' y k:=by
 obtain ⟨a,t,rfl,ha,ht⟩:=h
 refine ⟨a,t,rfl,hk _ _ ha (bU ha hp (by intro z; cases z)),?_⟩
 rcases ht with (h | ⟨o,h⟩) | h
 ·exact .inl (.inl (hk _ _ h (bU h hp (by intro z; cases z))))
 ·exact .inl (.inr ⟨o,hk _ _ h (bU h hp (by intro z; cases z))⟩)
 ·exact .inr h
theorem KeyR.same {K:Frag} {H H':Hp} {y:V} {k:Int × List Int} (e:kW H H') (h:KeyR K H y k):KeyR K H' y k:=by
 obtain ⟨a,t,rfl,ha,ht⟩:=h
 exact ⟨a,t,rfl,e _ _ ha,e.sqT ht⟩
abbrev lP (K:Frag) (H:Hp):List V->List (Int × List Int)->Prop:=Paired (KeyR K H)
theorem lP.imp {K:Frag} {H H':Hp} (hh:∀ y k,KeyR K H y k->KeyR K H' y k):∀ {ys:List V} {ks:List (Int × List Int)},lP K H ys ks->lP K H' ys ks
 | _,_,.nil=>.nil
 | _,_,.cons q r=>.cons (hh _ _ q) (lP.imp hh r)
theorem lP.snoc {K:Frag} {H:Hp} {y:V} {k:Int × List Int} (q:KeyR K H y k):∀ {ys:List V} {ks:List (Int × List Int)},lP K H ys ks->lP K H (ys++[y]) (ks++[k])
 | _,_,.nil=>.cons q .nil
 | _,_,.cons p r=>.cons p (lP.snoc q r)
theorem lP.get {K:Frag} {H:Hp}:∀ {ys:List V} {ks:List (Int × List Int)} {i:Nat} {y:V},lP K H ys ks->ys[i]? = some y->∃ k,ks[i]? = some k/\KeyR K H y k
 | _,_,0,y,.cons q r,e=>by cases e; exact ⟨_,rfl,q⟩
 | _::_,_::_,i+1,y,.cons q r,e=>lP.get (i:=i) r e
theorem jM (I:Inv X pins σ H s):∀ {ys:List V} {ks:List (Int × List Int)} {us:List Value},lP X.K H ys ks->kY ys us->∃ fs:List Value,KatTups s.heap us fs/\fs.length=us.length/\∀ v ∈ fs,∃ n t,v=Value.int n t
 | _,_,_,.nil,.nil=>⟨[],.nil,rfl,λ_ h=>nomatch h⟩
 | _,_,_,.cons q r,.cons p v=>by
  obtain ⟨fs,h1,h2,h3⟩:=jM I r v
  obtain ⟨a,t,rfl,ha,ht⟩:=q
  cases p
  obtain ⟨_,its,r1,p1⟩:=(show ls X.prog X.w H s.heap a (.tup _) from I.hok a _ ha)
  obtain ⟨⟨cls,dd,data,sl⟩,ho,hc,n,hd⟩:=id p1
  cases r1 with
  | cons q1 r1=>
   obtain ⟨t1,rfl⟩:=q1
   refine ⟨.int _ t1::fs,.cons ho hc hd rfl h1,by simp [h2],λv hv=>?_⟩
   rcases List.mem_cons.mp hv with rfl | hv
   ·exact ⟨_,_,rfl⟩
   ·exact h3 v hv
theorem jT {A:Around} {E:Value->Shared->Prop} {f:Value} {H0:Hp} {D kS:Addr} {φ:Heap->Prop} {key:V->Int × List Int} {body:Value->PUnit->Sem (ForInStep PUnit)} {R:PUnit->Shared->Prop} {all:List V}
  (h0:H0 kS=none) (hn:all.length<64)
  (hf:∀ x ∈ all,∀ u H1 s1,k9 x u->Inv X pins σ H1 s1->kW H0 H1->wpAny (model X.prog X.w) A (call f [u]) (λk s2=>∃ y H2,Inv X pins σ H2 s2/\k9 y k/\kW H1 H2/\KeyR X.K H2 y (key x)) (λ_ _=>False) s1)
  (hb:∀ u (s1:Shared) (C:Shared->Prop),wpAny (model X.prog X.w) A (call f [u]) (λk s2=>∃ (ks:List Value) (n:Nat),s2.heap.get? kS=some (seqObj "list" (List.toArray ks) n)/\ks.length<64/\C { s2 with heap:=s2.heap.update kS (Obj.mapSeq (·.push k)) }) (λ_ _=>False) s1->
   wpAny (model X.prog X.w) A (body u ⟨⟩) (λr s2=>r=.yield ⟨⟩/\C s2) E s1)
  (hR:∀ H1 s1 ys ks,Inv X pins σ H1 s1->kW H0 H1->H1 D=some (.ext φ)->H1 kS=some (.lst ys)->lP X.K H1 ys ks->ks=all.map key->R ⟨⟩ s1) :
  ∀ (r pre:List V) (us:List Value) (ys:List V) (H1:Hp) (s1:Shared),all=pre++r->kY r us->Inv X pins σ H1 s1->kW H0 H1->H1 D=some (.ext φ)->H1 kS=some (.lst ys)->lP X.K H1 ys (pre.map key)->
   wpAny (model X.prog X.w) A (forIn us PUnit.unit body) R E s1
 | [],pre,us,ys,H1,s1,ea,rv,I,sm,hD,hk,kr=>by
  cases rv
  rw [forIn_nil]
  exact wpAny_pure (hR H1 s1 ys _ I sm hD hk kr (by rw [ea,append_nil]))
 | x::r,pre,us,ys,H1,s1,ea,rv,I,sm,hD,hk,kr=>by
  cases rv with
  | cons q rv=>
   rename_i u us
   rw [forIn_cons]
   have hx:x ∈ all:=by rw [ea]; simp
   have hyl:ys.length=pre.length:=by have:=Paired.length kr; rw [length_map] at this; exact this
   have hal:all.length=pre.length+(r.length+1):=by rw [ea,length_append,length_cons]
   refine wpAny_bind (wpAny_mono (hb u s1 (λs2=>wpAny (model X.prog X.w) A (forIn us PUnit.unit body) R E s2) (wpAny_mono (hf x hx u H1 s1 q I sm) (λk s2 ⟨y,H2,I2,ry,sm2,ky⟩=>?_) λ_ _ z=>z)) (λz s2 ⟨ez,hz⟩=>?_) λ_ _ z=>z)
   ·obtain ⟨_,its,n,rk,lk,ek⟩:=I2.lstM (sm2 _ _ hk)
    refine ⟨its,n,ek,by omega,?_⟩
    have I3:=I2.lset (t':=s2.toks) (f:=(·.push k)) (its':=its++[k]) (ys:=ys++[y]) (sm2 _ _ hk) ek (by simp) (rk.append (.cons ry .nil)) (by rw [length_append,length_singleton,sizeLine_eq]; omega)
    have keep:∀ c o,H2 c=some o->c ≠ kS->upd H2 kS (.lst (ys++[y])) c=some o:=λc o e ne=>by rw [au ne]; exact e
    refine jT h0 hn hf hb hR r (pre++[x]) us (ys++[y]) _ _ (by rw [ea]; simp) rv I3 (λc o e=>?_) ?_ af ?_
    ·exact keep c o (sm2 _ _ (sm c o e)) (aC e h0)
    ·exact keep D _ (sm2 _ _ hD) (bU hD hk (by intro z; cases z))
    ·rw [map_append]
     exact lP.snoc (ky.but (sm2 _ _ hk) keep) (lP.imp (λ_ _ z=>(z.same sm2).but (sm2 _ _ hk) keep) kr)
   ·subst ez
    exact hz
end
theorem jz:∀ {a b c:List Int},HT.lexLt a b=true->HT.lexLt b c=true->HT.lexLt a c=true
 | [],[],_,h,_=>by simp [HT.lexLt] at h
 | [],_::_,[],_,h=>by simp [HT.lexLt] at h
 | [],_::_,_::_,_,_=>rfl
 | _::_,[],_,h,_=>by simp [HT.lexLt] at h
 | _::_,_::_,[],_,h=>by simp [HT.lexLt] at h
 | x::a,y::b,z::c,h1,h2=>by
  rw [HT.lexLt_cons] at h1 h2 ⊢
  by_cases e1:x=y
  ·subst e1
   rw [if_pos rfl] at h1
   by_cases e2:x=z
   ·rw [if_pos e2] at h2 ⊢
    exact jz h1 h2
   ·rw [if_neg e2] at h2 ⊢
    exact h2
  ·rw [if_neg e1] at h1
   have l1:=of_decide_eq_true h1
   by_cases e2:y=z
   ·subst e2
    rw [if_neg e1]
    exact h1
   ·rw [if_neg e2] at h2
    have l2:=of_decide_eq_true h2
    rw [if_neg (by omega)]
    exact decide_eq_true (by omega)
theorem jP:∀ {a b:List Int},a ≠ b->HT.lexLt a b=false->HT.lexLt b a=true
 | [],[],h,_=>absurd rfl h
 | [],_::_,_,h=>by simp [HT.lexLt] at h
 | _::_,[],_,_=>rfl
 | x::a,y::b,h,h1=>by
  rw [HT.lexLt_cons] at h1 ⊢
  by_cases e:x=y
  ·subst e
   rw [if_pos rfl] at h1 ⊢
   exact jP (λz=>h (by rw [z])) h1
  ·rw [if_neg e] at h1
   rw [if_neg (λz=>e z.symm)]
   have:=of_decide_eq_false h1
   exact decide_eq_true (by omega)
theorem kD:∀ a:List Int,HT.lexLt a a=false
 | []=>rfl
 | x::a=>by rw [HT.lexLt_cons,if_pos rfl]; exact kD a
theorem klt_eq (a b:Int × List Int):klt a b=if a.1=b.1 then HT.lexLt a.2 b.2 else decide (a.1<b.1):=by
 unfold klt
 by_cases e:a.2=b.2
 ·rw [if_pos e,e,kD]
 ·rw [if_neg e]
theorem jH {a b c:Int × List Int} (h1:klt a b=true) (h2:klt b c=true):klt a c=true:=by
 rw [klt_eq] at *
 by_cases e1:a.1=b.1
 ·rw [if_pos e1] at h1
  by_cases e2:b.1=c.1
  ·rw [if_pos e2] at h2
   rw [if_pos (e1.trans e2)]
   exact jz h1 h2
  ·rw [if_neg e2] at h2
   rw [if_neg (by rw [e1]; exact e2),e1]
   exact h2
 ·rw [if_neg e1] at h1
  have l1:=of_decide_eq_true h1
  by_cases e2:b.1=c.1
  ·rw [if_neg (by rw [<- e2]; exact e1),<- e2]
   exact h1
  ·rw [if_neg e2] at h2
   have l2:=of_decide_eq_true h2
   rw [if_neg (by omega)]
   exact decide_eq_true (by omega)
theorem klt_total {a b:Int × List Int} (h:a ≠ b) (h1:klt a b=false):klt b a=true:=by
 rw [klt_eq] at *
 by_cases e:a.1=b.1
 ·rw [if_pos e] at h1
  rw [if_pos e.symm]
  exact jP (λz=>h (Prod.ext e z)) h1
 ·rw [if_neg e] at h1
  have:=of_decide_eq_false h1
  rw [if_neg (λz=>e z.symm)]
  exact decide_eq_true (by omega)
theorem klt_irr (a:Int × List Int):klt a a=false:=by rw [klt_eq,if_pos rfl,kD]
def kAt (ks:List (Int × List Int)) (i j:Nat):Bool:=klt (ks.getD i (0,[])) (ks.getD j (0,[]))
theorem kAt_tot {ks:List (Int × List Int)} (hn:ks.Nodup):Tot ks.length (kAt ks):=by
 refine ⟨λi j k _ _ _=>jH,λi j hi hj hne h=>klt_total (λz=>hne ?_) h⟩
 have g:∀ {i:Nat} (hi:i<ks.length),ks.getD i (0,[])=ks[i]:=λhi=>by simp [List.getD,hi]
 rw [g hi,g hj] at z
 exact (getElem_inj hn).mp z
section
variable {X:Cx} {pins:List (Addr × Obj)} {σ:St} {H:Hp} {s:Shared}
theorem jY {A:Around} {E:Value->Shared->Prop} {P:PySem.Fin->Shared->Prop} {H0:Hp} {D kS:Addr} {e1:Nat} {st:SortSt} {out:List Value} {ys zs:List V} (hout:(arrOf st).map (·.2)=List.toArray out) (hz:out.length<64) (hf:failedOf st=none)
  (I:Inv X pins σ H s) (h0:H0 kS=none) (h1:H0 D=none) (sm:kW H0 H) (hD:H D=some (.ext λh=>h.get? D=some (seqObj "list" #[] e1))) (hk:H kS=some (.lst ys)) (rv:kY zs out.reverse)
  (h:∀ H2 s2,Inv X pins σ H2 s2->kW H0 H2->H2 D=some (.lst zs)->P (.done (.ret .none)) s2):wpAny (model X.prog X.w) A (ksk_tail D true e1 (.ref kS) st) P E s:=by
 have ne:D ≠ kS:=bU hD hk (by intro z; cases z)
 have hzl:zs.length=out.length:=by rw [rv.length,length_reverse]
 obtain ⟨lz,its,n,rk,lk,ek⟩:=I.lstM hk
 have I1:=I.lset (t':=s.toks) (f:=λ_=>#[]) (its':=[]) (ys:=[]) hk ek rfl .nil (Nat.zero_le _)
 have hD1:upd H kS (.lst []) D=some (.ext λh=>h.get? D=some (seqObj "list" #[] e1)):=by rw [au ne]; exact hD
 have eD:(s.heap.update kS (Obj.mapSeq λ_=>#[])).get? D=some (seqObj "list" #[] e1):=(show ls X.prog X.w _ _ D (.ext _) from I1.hok D _ hD1).1
 have q:=get?_update_seq eD (λ_=>List.toArray out.reverse)
 have I2:Inv X pins σ (upd (upd H kS (.lst [])) D (.lst zs)) { s with heap:=(s.heap.update kS (Obj.mapSeq λ_=>#[])).update D (Obj.mapSeq λ_=>List.toArray out.reverse),toks:=s.toks }:=
  I1.write (x:=D) (e:=D) (by rw [hD1]; exact trivial) (.inl rfl) (λb' u hb hu=>(get?_update_other _ _ (Ne.symm hb)).trans hu) ⟨_,q⟩ ⟨by rw [hzl,sizeLine_eq]; omega,out.reverse,_,rv,q⟩
 unfold ksk_tail
 dsimp only
 rw [hout,kat_outs,show katRev true out=out.reverse from if_pos rfl]
 refine wpAny_bind (listUpdate_at ek rfl ?_ (by rw [size_toArray,<- lk]; exact lz) (Nat.zero_le _))
 refine wpAny_bind (wpAny_letGo ?_)
 refine wpAny_bind (seqEpoch_at eD rfl ?_)
 refine wpAny_bind (listUpdate_at eD rfl ?_ (Nat.zero_le _) (by rw [size_toArray,length_reverse,sizeLine_eq]; omega))
 rw [hf]
 simp only [bne_self_eq_false,Bool.false_eq_true,if_false]
 refine wpAny_pure (h _ _ I2 (λc o e=>?_) af)
 rw [au (aC e h1),au (aC e h0)]
 exact sm c o e
end
theorem ij {α:Type} {l:List α} {d:α} {i:Nat} (h:i<l.length):l.getD i d=l[i]:=by simp [List.getD,h]
theorem map_range {α:Type} (l:List α) (d:α):(List.range l.length).map (λi=>l.getD i d)=l:=by
 apply List.ext_getElem
 ·simp
 ·intro i h1 h2
  rw [List.getElem_map,List.getElem_range,ij h2]
def i0 {α:Type} (p:Array Nat) (xs:List α) (d:α):List α:=p.toList.map λi=>xs.reverse.getD i d
theorem pick_perm {α:Type} {p:Array Nat} {xs:List α} {d:α} (hp:Pm xs.length p):((i0 p xs d).reverse).Perm xs:=by
 refine (reverse_perm _).trans (((hp.map _).trans ?_).trans (reverse_perm xs))
 rw [show List.map (λi=>xs.reverse.getD i d) (List.range xs.length)=xs.reverse by rw [<- length_reverse (as:=xs)]; exact map_range _ _]
theorem Pm.mem {n:Nat} {p:Array Nat} (hp:Pm n p) {i:Nat} (h:i ∈ p.toList):i<n:=List.mem_range.mp (hp.mem_iff.mp h)
theorem pick_vals {p:Array Nat} {xs:List V} {us:List Value} (hp:Pm xs.length p) (rv:kY xs us):kY (i0 p xs .non) (i0 p us Value.none):=by
 have r:=rv.reverse
 have go:∀ l:List Nat,(∀ i ∈ l,i<xs.length)->kY (l.map λi=>xs.reverse.getD i .non) (l.map λi=>us.reverse.getD i Value.none):=by
  intro l
  induction l with
  | nil=>intro _; exact .nil
  | cons i l ih=>
   intro h
   have hi:i<xs.reverse.length:=by rw [length_reverse]; exact h i (by simp)
   refine .cons ?_ (ih λj hj=>h j (by simp [hj]))
   obtain ⟨u,e,q⟩:=r.get (getElem?_eq_getElem hi)
   show k9 (xs.reverse.getD i .non) (us.reverse.getD i Value.none)
   rw [ij hi,getD_eq_getElem?_getD,e]
   exact q
 exact go _ λi hi=>hp.mem hi
theorem pick_pair {p:Array Nat} {xs:List V} {key:V->Int × List Int} (hp:Pm xs.length p) (hs:So (kAt (xs.map key).reverse) p xs.length):((i0 p xs .non).reverse).Pairwise λx y=>klt (key y) (key x)=true:=by
 rw [List.pairwise_reverse]
 unfold i0
 rw [List.pairwise_map,List.pairwise_iff_getElem]
 intro i j hi hj hij
 rw [Array.length_toList,hp.sz] at hi hj
 have z:=hs i j hij hj
 unfold kAt at z
 have g:∀ k (hk:k<xs.length),key (xs.reverse.getD (p.getD k 0) .non)=(xs.map key).reverse.getD (p.getD k 0) (0,[]):=λk hk=>by
  have h1:p.getD k 0<xs.length:=hp.lt hk
  rw [ij (by rw [length_reverse]; exact h1),ij (by rw [length_reverse,length_map]; exact h1)]
  simp
 rw [<- g i hi,<- g j hj,gd_at (by rw [hp.sz]; exact hi),gd_at (by rw [hp.sz]; exact hj)] at z
 exact z
section
variable {X:Cx} {pins:List (Addr × Obj)} {σ:St} {H:Hp} {s:Shared}
theorem sort_end {A:Around} {E:Value->Shared->Prop} {P:PySem.Fin->Shared->Prop} {H0:Hp} {D kS:Addr} {e1:Nat} {xs ys:List V} {us its:List Value} {key:V->Int × List Int} (hu:A.units+64<cLine)
  (I:Inv X pins σ H s) (h0:H0 kS=none) (h1:H0 D=none) (sm:kW H0 H) (hD:H D=some (.ext λh=>h.get? D=some (seqObj "list" #[] e1))) (hk:H kS=some (.lst ys)) (kr:lP X.K H ys (xs.map key)) (ru:kY ys us) (rv:kY xs its)
  (h64:xs.length<64) (nd:(xs.map key).Nodup)
  (h:∀ H2 s2 zs,Inv X pins σ H2 s2->kW H0 H2->H2 D=some (.lst zs)->zs.Perm xs->zs.Pairwise (λx y=>klt (key y) (key x)=true)->P (.done (.ret .none)) s2):wpAny (model X.prog X.w) A (ksk_end D true its.toArray e1 (.ref kS) us.toArray) P E s:=by
 have lx:=rv.length
 have lu:=ru.length
 have ly:ys.length=xs.length:=by have:=Paired.length kr; rw [length_map] at this; exact this
 have hl:us.length=its.length:=by omega
 unfold ksk_end
 dsimp only
 rw [if_pos rfl]
 refine wpAny_bind (wpAny_rule ?_)
 by_cases h2:its.toArray.size<2
 ·rw [if_pos h2,if_pos h2]
  refine wpAny_bind (wpAny_pure ?_)
  rw [StateT.run_pure]
  refine wpAny_bind (wpAny_pure ?_)
  dsimp only
  rw [kat_pairs true hl,show katRev true us=us.reverse from if_pos rfl,show katRev true its=its.reverse from if_pos rfl]
  refine jY (st:=SortSt.mk' general' _ #[] 7 none) (out:=its.reverse) (zs:=xs) ?_ (by rw [length_reverse]; omega) rfl I h0 h1 sm hD hk (by rw [List.reverse_reverse]; exact rv) λH2 s2 I2 sm2 q=>h H2 s2 xs I2 sm2 q (.refl _) ?_
  ·show Array.map (·.2) ((us.reverse.toArray).zip (its.reverse.toArray))=_
   apply Array.toList_inj.mp
   rw [Array.toList_map,ksk_zip]
   exact List.map_snd_zip (by simp [hl])
  ·rw [size_toArray] at h2
   match xs,(by omega:xs.length<2) with
   | [],_=>exact .nil
   | [x],_=>exact List.pairwise_singleton _ _
 ·rw [if_neg h2,if_neg h2]
  rw [size_toArray] at h2
  obtain ⟨fs,t1,t2,t3⟩:=jM I kr ru
  refine wpAny_bind (kat_kind (T:=.type "int") t1 (by omega) (λv hv=>?_) (by decide) ?_)
  ·obtain ⟨n,t,rfl⟩:=t3 v hv
   exact Looks.of_pure rfl
  rw [show (Value.type "int" != Value.type "tuple")=true by decide,kat_pairs true hl,show katRev true us=us.reverse from if_pos rfl,show katRev true its=its.reverse from if_pos rfl]
  have tot:=kAt_tot (ks:=(xs.map key).reverse) ((reverse_perm _).nodup_iff.mpr nd)
  rw [length_reverse,length_map] at tot
  obtain ⟨hp,hs⟩:=ev_sort tot (by omega)
  refine wpAny_bind (wpAny_mono (kat_run (vs:=its.reverse) (ks:=us.reverse) (G:=λp s'=>p=ev (kAt (xs.map key).reverse) (kas_sort xs.length)/\s'=s)
   (Q:=λst' s'=>s'=s/\failedOf st'=none/\arrOf st'=(ev (kAt (xs.map key).reverse) (kas_sort xs.length)).map (kas_item ((List.toArray us.reverse).zip (List.toArray its.reverse))))
   (by rw [length_reverse,length_reverse]; exact hl) (by rw [length_reverse]; omega) (by rw [length_reverse]; omega) (λp st' s' a1 a2 a3 a4=>⟨a4.2,a3,by rw [<- a4.1]; exact a2⟩) ?_) ?_ λ_ _ x=>x)
  ·rw [length_reverse,<- lx]
   refine wp_ev (c:=kAt (xs.map key).reverse) (λi j C hi hj hC=>?_) (inr_sort (by omega)) ⟨rfl,rfl⟩
   show wpAny _ _ (keyLt' _ (us.reverse.getD i Value.none) (us.reverse.getD j Value.none)) C _ s
   have at_:∀ i,i<xs.length->∃ y u,us.reverse.getD i Value.none=u/\k9 y u/\KeyR X.K H y ((xs.map key).reverse.getD i (0,[])):=λi hi=>by
    have hi':xs.length-1-i<ys.length:=by omega
    obtain ⟨k,ek,kk⟩:=lP.get kr (getElem?_eq_getElem hi')
    obtain ⟨u,eu,ru'⟩:=ru.get (getElem?_eq_getElem hi')
    refine ⟨ys[xs.length-1-i],u,?_,ru',?_⟩
    ·rw [getD_eq_getElem?_getD,List.getElem?_reverse (by omega),show us.length-1-i=xs.length-1-i by omega,eu]
     rfl
    ·rw [getD_eq_getElem?_getD,List.getElem?_reverse (by rw [length_map]; exact hi),length_map,ek]
     exact kk
   obtain ⟨y1,u1,e1,r1,k1⟩:=at_ i hi
   obtain ⟨y2,u2,e2,r2,k2⟩:=at_ j hj
   rw [e1,e2]
   exact key_lt hu I k1 k2 r1 r2 hC
  ·rintro ⟨⟨⟩,st'⟩ s' ⟨es,hf,har⟩
   dsimp only at es hf har ⊢
   subst es
   refine jY (out:=i0 (ev (kAt (xs.map key).reverse) (kas_sort xs.length)) its Value.none) (zs:=(i0 (ev (kAt (xs.map key).reverse) (kas_sort xs.length)) xs .non).reverse) (kat_snds (by rw [length_reverse,length_reverse]; exact hl) har) ?_ hf I h0 h1 sm hD hk (pick_vals hp rv).reverse
    λH2 s2 I2 sm2 q=>h H2 s2 _ I2 sm2 q (pick_perm hp) (pick_pair hp hs)
   unfold i0
   rw [length_map,Array.length_toList,hp.sz]
   exact h64
end
section
variable {X:Cx} {pins:List (Addr × Obj)} {σ:St} {H:Hp} {s:Shared}
def KeyF (X:Cx) (pins:List (Addr × Obj)) (σ:St) (A:Around) (f:Value) (H0:Hp) (xs:List V) (key:V->Int × List Int):Prop:=
 ∀ x ∈ xs,∀ u H1 s1,k9 x u->Inv X pins σ H1 s1->kW H0 H1->wpAny (model X.prog X.w) A (call f [u]) (λk s2=>∃ y H2,Inv X pins σ H2 s2/\k9 y k/\kW H1 H2/\KeyR X.K H2 y (key x)) (λ_ _=>False) s1
theorem sort_tree {A:Around} {E:Value->Shared->Prop} {P:PySem.Fin->Shared->Prop} {H0:Hp} {D:Addr} {f:Value} {xs:List V} {key:V->Int × List Int} (hu:A.units+64<cLine)
  (I:Inv X pins σ H s) (h1:H0 D=none) (sm:kW H0 H) (hD:H D=some (.lst xs)) (h64:xs.length<64) (nd:(xs.map key).Nodup) (hf:KeyF X pins σ A f H0 xs key)
  (h:∀ H2 s2 zs,Inv X pins σ H2 s2->kW H0 H2->H2 D=some (.lst zs)->zs.Perm xs->zs.Pairwise (λx y=>klt (key y) (key x)=true)->P (.done (.ret .none)) s2):wpAny (model X.prog X.w) A (ksk_tree D f true) P E s:=by
 obtain ⟨lz,its,n,rv,lk,e⟩:=I.lstM hD
 have q:=get?_update_seq e (λ_=>#[])
 have I1:Inv X pins σ (upd H D (.ext λh=>h.get? D=some (seqObj "list" #[] (if ((#[]:Array Value).size == its.toArray.size)=true then n else n+1)))) { s with heap:=s.heap.update D (Obj.mapSeq λ_=>#[]),toks:=s.toks }:=
  I.write (x:=D) (e:=D) (by rw [hD]; exact trivial) (.inl rfl) (λb' u hb hu=>(get?_update_other _ _ (Ne.symm hb)).trans hu) ⟨_,q⟩ ⟨q,⟨_,q⟩,λ_ _ p k=>k _ p⟩
 have I2:=I1.laid (t':=s.toks) (o:=.tup xs) (λb ob z=>get?_push_of_some { cls:=.type "tuple",data:=.seq its.toArray } z) (Nat.le_refl _) ⟨by rw [sizeLine_eq]; omega,its,rv,IsTup.new _ _⟩
 have I3:=I2.lnew (t':=s.toks) (ys:=[]) (its:=[]) .nil (Nat.zero_le _)
 have nT:=I1.fresh
 have nK:=I2.fresh
 have hD1:upd H D (.ext λh=>h.get? D=some (seqObj "list" #[] (if ((#[]:Array Value).size == its.toArray.size)=true then n else n+1))) D=some (.ext λh=>h.get? D=some (seqObj "list" #[] (if ((#[]:Array Value).size == its.toArray.size)=true then n else n+1))):=af
 have s1:kW H0 (upd H D (.ext λh=>h.get? D=some (seqObj "list" #[] (if ((#[]:Array Value).size == its.toArray.size)=true then n else n+1)))):=sm.put h1
 have hD2:=kW.new (o:=.tup xs) nT _ _ hD1
 have s2:=s1.trans (kW.new (o:=.tup xs) nT)
 have hD3:=kW.new (o:=.lst []) nK _ _ hD2
 have s3:=s2.trans (kW.new (o:=.lst []) nK)
 have hK0:=s2.free nK
 unfold ksk_tree
 refine wpAny_bind (listItems_at e rfl ?_)
 refine wpAny_bind (listUpdate_at e rfl ?_ (by rw [size_toArray,sizeLine_eq]; omega) (Nat.zero_le _))
 refine wpAny_bind (seqEpoch_at q rfl ?_)
 refine wpAny_bind (wpAny_newTuple ?_ (by show its.length<=_; rw [sizeLine_eq]; omega))
 refine wpAny_bind (wpAny_newList ?_ (Nat.zero_le _))
 refine wpAny_holding ?_
 unfold ksk_rest
 refine wpAny_bind (wpAny_rule ?_)
 first
  | rw [List.forIn_toArray]
  | (rw [<- Array.forIn_toList]; simp only [List.toList_toArray])
  | rw [<- Array.forIn_toList]
 refine wpAny_bind (jT (all:=xs) hK0 h64 hf (λu s1 C hc=>?_) (λH4 s4 ys ks I4 sm4 hD4 hk4 kr ek=>?_) xs [] its [] _ _ rfl rv I3 s3 hD3 af .nil)
 ·refine wpAny_bind (wpAny_attempt (wpAny_mono hc (λk s5 ⟨ks,m,eo,hz,hC⟩=>?_) λ_ _ z=>z.elim))
  dsimp only
  refine wpAny_bind (listUpdate_at eo rfl ?_ (by rw [size_toArray,sizeLine_eq]; omega) (Nat.le_trans (Nat.le_of_eq (Array.size_push ..)) (by rw [size_toArray,sizeLine_eq]; omega)))
  exact wpAny_pure ⟨rfl,hC⟩
 ·dsimp only
  obtain ⟨_,us,m,ru,_,eo⟩:=I4.lstM hk4
  refine wpAny_bind (listItems_at eo rfl ?_)
  subst ek
  exact sort_end hu I4 hK0 h1 sm4 hD4 hk4 kr ru rv h64 nd h
end
def DRaw (d:Addr) (es:Array DictEntry) (ep:Nat) (h:Heap):Prop:=∃ o,h.get? d=some o/\o.ExactDict/\o.data=.dict es ep
section
variable {prog:Program} {w:World} {A:Around} {E:Value->Shared->Prop} {s:Shared} {d it:Addr} {es:Array DictEntry} {ep i:Nat}
theorem DRaw.typeIs (h:DRaw d es ep s.heap):s.TypeIs (.ref d) "dict":=let ⟨o,ho,hc,_⟩:=h; ⟨o,ho,hc.1⟩
theorem DRaw.at {h h':Heap} (x:DRaw d es ep h) (e:∀ o,h.get? d=some o->h'.get? d=some o):DRaw d es ep h':=let ⟨o,ho,r⟩:=x; ⟨o,e _ ho,r⟩
theorem iter_raw {Q:Value->Shared->Prop} (hd:(d == sysModules)=false) (hm:DRaw d es ep s.heap)
  (hQ:Q (.ref s.heap.objs.size) { s with heap:=s.heap.push { cls:=.type "dict_keyiterator",data:=.fields #[.ref d,.int 0 0,.int es.size 0,.int ep 0] } }):wpAny (model prog w) A (pyIter (.ref d)) Q E s:=by
 have hT:=hm.typeIs
 obtain ⟨o,ho,_,hdat⟩:=id hm
 refine wpAny_pyIter_slot hT F.slot_dict_iter (wpAny_call_entry F.slot_dict_iter hT F.entry_dict_iter ?_ (F.args_dict_iter_1 _))
 unfold Builtin.«dict.__iter__» Builtin.Dict.dictSlotNone
 refine wpAny_bind (wpAny_bind (wpAny_notOrdered_dict hT (wpAny_pure ?_)))
 show wpAny _ _ (Builtin.Dict.showsAll d >>= _) _ _ s
 unfold Builtin.Dict.showsAll
 rw [if_neg (by rw [hd]; exact Bool.false_ne_true)]
 refine wpAny_bind (wpAny_pure (wpAny_bind (wpAny_dictEntries ho hdat (wpAny_bind (wpAny_dictEpoch ho hdat ?_)))))
 refine wpAny_bind (wpAny_newObj_type (wpAny_pure ⟨_,rfl, "dict_keyiterator",_,⟨_,get?_push_size _ rfl,rfl⟩,F.slot_dict_keyiterator_next.lookup,?_⟩))
 simpa [rawInt] using hQ
theorem fU {Q:Option Value->Shared->Prop} (hh:A.handled=none) (hit:s.heap.IsKeyIter it d i es.size ep) (hm:DRaw d es ep s.heap)
  (h1:∀ (hi:i<es.size) h',h'.IsKeyIter it d (i+1) es.size ep->Heap.SameBut it s.heap h'->Q (some es[i].key) { s with heap:=h' })
  (h2:es.size<=i->∀ h',Heap.ExtBut it s.heap h'->Q none { s with heap:=h' }):wpAny (model prog w) A (pyNext (.ref it)) Q E s:=by
 obtain ⟨o,ho,hc,hd⟩:=id hit
 obtain ⟨od,hod,_,hdd⟩:=id hm
 have hT:=hit.typeIs
 unfold pyNext
 refine wpAny_bind (wpAny_attempt (wpAny_callSpecial?_slot (name:=Str.ofString "__next__") hT F.slot_dict_keyiterator_next (wpAny_call_entry F.slot_dict_keyiterator_next hT F.entry_dict_keyiterator_next ?_ (F.args_dict_keyiterator_next_1 _))))
 refine wpAny_bind (wpAny_pure (wpAny_bind (wpAny_bind ?_)))
 first | refine wpAny_bind (wpAny_typeNameOfWhole_keyiter hT (wpAny_pure ?_)) | refine wpAny_bind (wpAny_typeNameOf_keyiter hT (wpAny_pure ?_))
 refine wpAny_bind (wpAny_fieldsOf ho hd ?_)
 simp only [show Builtin.Dict_items.ownsTuple "dict_keyiterator" = false by decide,Bool.false_eq_true,if_false]
 show wpAny _ _ (if (Value.ref d == Value.none)=true then _ else _) _ _ s
 rw [if_neg (show ¬ ((Value.ref d == Value.none)=true) from Bool.false_ne_true)]
 refine wpAny_bind (wpAny_pure (wpAny_bind (wpAny_dictEntries hod hdd ?_)))
 rw [if_neg (by simp)]
 refine wpAny_bind (wpAny_pure (wpAny_bind (wpAny_dictEpoch hod hdd ?_)))
 rw [if_neg (by simp)]
 refine wpAny_pure ?_
 by_cases hlt:i<es.size
 ·simp only [show ¬ ((i:Int)<0) from by omega,if_false,Int.toNat_natCast,Array.getElem?_eq_getElem hlt]
  refine wpAny_bind ?_
  first | refine wpAny_bind (wpAny_typeNameOfWhole_keyiter hT (wpAny_pure ?_)) | refine wpAny_bind (wpAny_typeNameOf_keyiter hT (wpAny_pure ?_))
  refine wpAny_bind (wpAny_isOneOf_keyiter hT ?_)
  show wpAny _ _ (setField (.ref it) 1 (rawInt ((i:Int)+1)) >>= _) _ _ s
  refine wpAny_bind (wpAny_setField ho hd (by simp) ?_)
  have hit':(s.heap.update it (Obj.mapFields (·.setIfInBounds 1 (rawInt ((i:Int)+1))))).IsKeyIter it d (i+1) es.size ep:=
   ⟨_,get?_update_self _ ho (Obj.isFreed_of_fields (Obj.data_mapFields hd _)),(Obj.cls_mapFields ..).trans hc,by rw [Obj.data_mapFields hd]; simp [rawInt]⟩
  refine wpAny_bind (wpAny_holding (wpAny_bind (wpAny_isOneOf_keyiter (s:={ s with heap:=s.heap.update it (Obj.mapFields (·.setIfInBounds 1 (rawInt ((i:Int)+1)))) }) hit'.typeIs ?_)))
  show wpAny _ _ (pure es[i].key) _ _ _
  exact wpAny_pure (wpAny_pure ⟨_,rfl,wpAny_pure (h1 hlt _ hit' (Heap.SameBut.update ..))⟩)
 ·simp only [show ¬ ((i:Int)<0) from by omega,if_false,Int.toNat_natCast,Array.getElem?_eq_none (Nat.le_of_not_lt hlt)]
  refine wpAny_bind ?_
  first | refine wpAny_bind (wpAny_typeNameOfWhole_keyiter hT (wpAny_pure ?_)) | refine wpAny_bind (wpAny_typeNameOf_keyiter hT (wpAny_pure ?_))
  show wpAny _ _ (setField (.ref it) 0 .none >>= _) _ _ s
  refine wpAny_bind (wpAny_setField ho hd (by simp) ?_)
  show wpAny _ _ (newExc (.type "StopIteration") [] >>= _) _ _ _
  refine wpAny_bind ?_
  simp only [newExc,newTuple]
  refine wpAny_bind (wpAny_newObj_type ?_ (by size_fits))
  refine wpAny_bind (m:=firstArgMember _ _) (wpAny_of_eq (a:=Value.none) (by first | rfl | (simp only [firstArgMember]; rfl)) ?_)
  refine wpAny_newObj_type ?_ (by size_fits)
  simp only [raiseNew]
  refine wpAny_bind (wpAny_handled ?_)
  rw [show A.in1.handled=none from hh]
  refine wpAny_bind (wpAny_pure (wpAny_throw ?_))
  refine wpAny_bind (wpAny_isInstance (T := "StopIteration") (b:=true) ⟨_,get?_push_size _ rfl,rfl⟩ isSubtype_stop ?_)
  exact wpAny_pure (h2 (Nat.le_of_not_lt hlt) _ (((Heap.SameBut.update ..).extBut.push _).push _))
theorem walks_raw (hh:A.handled=none) (it d:Addr) (hne:d ≠ it) (es:Array DictEntry) (ep:Nat) :
  Walks prog w A it [it,d] [it] es.size (λi v=>∃ hi:i<es.size,v=es[i].key) (λi h=>h.IsKeyIter it d i es.size ep/\DRaw d es ep h) where
 sub:=λb hb=>by simp at hb; simp [hb]
 frame:=λ_ _ _ st hk=>⟨st.1.at λo e=>hk it (by simp) o e,st.2.at λo e=>hk d (by simp) o e⟩
 item:=λi s Q E hi st hQ=>fU hh st.1 st.2 (λhi h' hit' hs'=>hQ _ h' s.toks ⟨hi,rfl⟩ ⟨hit',st.2.at λo e=>hs'.extBut d o hne e⟩ λb o hb e=>hs'.extBut b o (λh=>hb (by simp [h])) e) λhge=>absurd hi (Nat.not_lt.mpr hge)
 done:=λs Q E st hQ=>fU hh st.1 st.2 (λhi=>absurd hi (Nat.lt_irrefl _)) λ_ h' he'=>hQ h' s.toks λb o hb e=>he' b o (λh=>hb (by simp [h])) e
 self:=λ_ _ _ _ st hQ=>wpAny_pyIter_keyiter st.1 hQ
theorem src_raw (lo:(d == sysModules)=false):KdlSrc prog w "dict" d d es.size (λi v=>∃ hi:i<es.size,v=es[i].key) (DRaw d es ep) where
 type:=λ_ hm=>hm.typeIs
 there:=λ_ ⟨_,ho,_⟩=>⟨lt_size ho,lt_size ho⟩
 keep:=λ_ _ hm hk=>hm.at λo e=>hk d (.inl rfl) o e
 notList:=by decide
 notTuple:=by decide
 hint:=λ_ _ _ _ hm hq=>kdl_hint_dict hm.typeIs hq
 iter:=λ_ s hh hm=>⟨_,_,(λ_ _ hq=>iter_raw lo hm hq),walks_raw hh _ d (Nat.ne_of_lt (let ⟨_,ho,_⟩:=hm; lt_size ho)) es ep,⟨⟨_,get?_push_size _ rfl,rfl,rfl⟩,hm.at λo e=>get?_push_of_some _ e⟩⟩
end
section
variable {X:Cx} {pins:List (Addr × Obj)} {σ:St} {H:Hp} {s:Shared}
def Src (K:Frag) (H:Hp) (x:V) (B:List V->Prop):Prop:=
 (∃ l xs,x=.ref l/\SqL K H l xs/\B xs)\/∃ d kvs,x=.ref d/\H d=some (.dT kvs)/\∀ as,Paired (λ(p:List Key × V) (a:Addr)=>H a=some (.tup (p.1.map kV))) kvs as->B (as.map V.ref)
theorem collect_src {E:Value->Shared->Prop} {A:Around} {x:V} {u:Value} {B:List V->Prop} {R:List Value->Shared->Prop} (hh:A.handled=none) (I:Inv X pins σ H s) (rx:k9 x u) (hs:Src X.K H x B)
  (h:∀ h' tk its xs,B xs->kY xs its->(∀ b o,s.heap.get? b=some o->h'.get? b=some o)->xs.length<=sizeLine->R its { s with heap:=h',toks:=tk }):wpAny (model X.prog X.w) A (collect u) R E s:=by
 rcases hs with ⟨l,xs,rfl,hl,hB⟩ | ⟨d,kvs,rfl,hd,hB⟩
 ·cases rx
  obtain ⟨its,rv,p,hz⟩:=I.list hl
  refine collect_list (vs:=its) p.isList (h _ s.toks its xs hB rv (λb o q=>?_) hz) (by rw [<- rv.length]; exact hz)
  have hlt:b<s.heap.objs.size:=lt_size q
  rw [Heap.get?_update_ne _ _ _ _ (Nat.ne_of_lt hlt),Heap.get?_push_ne _ _ _ (Nat.ne_of_lt hlt)]
  exact q
 ·cases rx
  obtain ⟨hz,hm,es3,kt,o,es,ep,h1,h2,h3,h4,h5⟩:=(show ls X.prog X.w H s.heap d (.dT kvs) from I.hok d _ hd)
  have hsz:es.size=kvs.length:=by rw [<- Array.length_toList,h4,length_map,<- Paired.length kt]
  refine kdu_collect (src_raw (es:=es) (ep:=ep) hm) hh ⟨o,h1,h2,h3⟩ (by rw [hsz]; exact hz) λh' tk acc hk ha=>?_
  have go:∀ {l:List (List Key × V)} {m:List (List Key × Addr × Value)},Paired (λ(p:List Key × V) (q:List Key × Addr × Value)=>p.1=q.1/\H q.2.1=some (.tup (p.1.map kV))/\k9 p.2 q.2.2) l m->
    Paired (λ(p:List Key × V) (a:Addr)=>H a=some (.tup (p.1.map kV))) l (m.map (·.2.1)):=by
   intro l m q
   induction q with
   | nil=>exact .nil
   | cons hq t ih=>exact .cons hq.2.1 ih
  have ke:acc.toList=(es3.map (·.2.1)).map Value.ref:=by
   apply List.ext_getElem?
   intro j
   rw [Array.getElem?_toList]
   by_cases hj:j<es.size
   ·have hj':j<acc.size:=by rw [ha.1]; exact hj
    obtain ⟨_,e⟩:=ha.2 j acc[j] (Array.getElem?_eq_getElem hj')
    rw [Array.getElem?_eq_getElem hj',e]
    have e2:es.toList[j]? = (es3.map (entryOfKey (tupleKind (aZ X.prog X.w))))[j]?:=by rw [h4]
    rw [Array.getElem?_toList,Array.getElem?_eq_getElem hj,getElem?_map] at e2
    rw [getElem?_map,getElem?_map]
    cases e3:es3[j]? with
    | none=>rw [e3] at e2; cases e2
    | some q=>
     rw [e3] at e2
     show some es[j].key=some (Value.ref q.2.1)
     have e4:es[j]=entryOfKey (tupleKind (aZ X.prog X.w)) q:=Option.some.inj e2
     rw [e4]
     rfl
   ·rw [Array.getElem?_eq_none (by rw [ha.1]; omega)]
    symm
    apply List.getElem?_eq_none
    rw [length_map,length_map,<- Paired.length kt]
    omega
  have vals:∀ l:List Addr,kY (l.map V.ref) (l.map Value.ref):=by
   intro l
   induction l with
   | nil=>exact .nil
   | cons a l ih=>exact .cons rfl ih
  rw [ke]
  exact h h' tk _ _ (hB _ (go kt)) (vals _) hk (by rw [length_map,length_map,<- Paired.length kt]; exact hz)
theorem call_sorted {E:Value->Shared->Prop} {x:V} {u:Value} {f:Addr} {B:List V->Prop} {Q:Value->Shared->Prop} (hh:X.A.handled=none) (hu:X.A.in1.in1.units+64<cLine) (I:Inv X pins σ H s) (rx:k9 x u) (hs:Src X.K H x B)
  (hB:∀ xs,B xs->xs.length<64/\∃ key:V->Int × List Int,(xs.map key).Nodup/\KeyF X pins σ X.A.in1.in1 (.ref f) H xs key/\
   ∀ D H2 s2 zs,H D=none->Inv X pins σ H2 s2->kW H H2->H2 D=some (.lst zs)->zs.Perm xs->zs.Pairwise (λx y=>klt (key y) (key x)=true)->Q (.ref D) s2) :
  wpAny (model X.prog X.w) X.A (call (.builtin "sorted") [u] [(Str.ofString "key",.ref f),(Str.ofString "reverse",.bool true)]) Q E s:=by
 refine call_function_entry_kw kind_sorted plain_sorted entry_sorted (ksk_s2 _ _ _) ?_
 unfold Builtin.«sorted»
 refine wpAny_bind (m:=checkCount "sorted" 1 1 _) (wpAny_pure ?_)
 refine wpAny_bind (collect_src (A:=X.A.in1) hh I rx hs λh' tk its xs src rv hk' hz=>?_)
 obtain ⟨h64,key,nd,kf,h⟩:=hB xs src
 have I1:Inv X pins σ H { s with heap:=h',toks:=tk }:=I.kept hk'
 have I2:=I1.lnew (t':=tk) rv hz
 refine wpAny_bind (wpAny_newList ?_ (by rw [<- rv.length]; exact hz))
 refine wpAny_bind (wpAny_holding (wpAny_call_entry_kw slot_list_sort ⟨_,get?_push_size _ rfl,rfl⟩ entry_list_sort ?_ (ksk_l2 _ _ _)))
 rw [ksk_t2]
 refine sort_tree (key:=key) hu I2 I1.fresh (kW.new I1.fresh) af h64 nd kf λH2 s2 zs I3 sm q pm pw=>⟨_,rfl,wpAny_pure ⟨_,rfl,h _ H2 s2 zs I1.fresh I3 sm q pm pw⟩⟩
end
def SortB (K:Frag) (sp:Sp) (H1:Hp) (Q:VK) (xs:List V):Prop:=xs.length<64/\∃ key:V->Int × List Int,(xs.map key).Nodup/\(∀ y ∈ xs,∀ H2,kW H1 H2->sp [y] H2 (λz H3=>kW H2 H3/\KeyR K H3 z (key y)) E0)/\
 ∀ D H2 zs,H1 D=none->kW H1 H2->H2 D=some (.lst zs)->zs.Perm xs->zs.Pairwise (λx y=>klt (key y) (key x)=true)->Q (.ref D) H2
def tSort (K:Frag) (sp:Sp) (te:TE):TE:=λσ H Q=>te σ H λx H1=>Src K H1 x (SortB K sp H1 Q)
section
variable {X:Cx} {p pos kp k1 k2 kp2:Pos} {e:Expr} {te:TE}
theorem key_fn {pins:List (Addr × Obj)} {σ:St} {A:Around} {k:Nat} {sp:Sp} {f:Addr} {fd:FuncData} {ps:List Str} {H0:Hp} {xs:List V} {key:V->Int × List Int} (F:kZ X.prog X.w X.K X.mg X.base CX0 k f fd ps sp) (hb:lL X.K fd ps []) (hr:lA k X.A.in1.in1)
  (h:∀ y ∈ xs,∀ H2,kW H0 H2->sp [y] H2 (λz H3=>kW H2 H3/\KeyR X.K H3 z (key y)) E0):KeyF X pins σ X.A.in1.in1 (.ref f) H0 xs key:=by
 intro x hx u H1 s1 rx I sm
 have h':=h x hx H1 sm
 have r2:kY [x] [u]:=.cons rx .nil
 have hl:([u]++[]).length=ps.length:=F.len _ _ _ _ h'
 refine wpAny_call (codeAny_mono (F.run X.A.in1.in1 X.stack s1 H1 ⟨[u],[]⟩ [u] [x] _ E0 hr I.env0.in1.in1 (hb s1 [u] I.kIn hl) r2 h') λr s' hq=>?_)
 cases r with
 | error e=>exact hq
 | ok fl=>
  cases fl with
  | ret v=>
   obtain ⟨y,H2,I2,ry,q1,q2⟩:=I.after hq
   exact ⟨y,H2,I2,ry,q1,q2⟩
  | next=>exact False.elim hq
  | brk=>exact False.elim hq
  | cont=>exact False.elim hq
theorem pe_sortK (T:Blt X.mg) {x:Str} {k:Nat} {sp:Sp} {j:Nat} (F:FnB X.prog X.w X.K X.mg X.base k x sp) (hr:lA (k+2) X.A) (he:PE X e te) (hg:Gl X "sorted":=by rfl) (hgx:Gl X x:=by rfl) (hdb:(x == ("__debug__" : Str))=false:=by decide)
  (hs:starEach [e] X.env=[(false,eval e X.env)]:=by rfl) :
  PE X (.Call (.Name "sorted" p) [e] [⟨some "key",.Name x kp,k1⟩,⟨some "reverse",.Constant (.bool true) j kp2,k2⟩] pos) (tSort X.K sp te):=by
 obtain ⟨f,fd,ps,F',hm,hk,hb⟩:=F.ex
 intro pins s σ H Q I h
 refine wpAny_Call_Name_kw (eR I hg T.sorted boot_sorted ?_)
 refine callWith_kw ?_ (by rw [hs]; rfl) (by rw [hs]; rfl)
 refine thn ((aa he ag hs) pos pins s σ H (λvs H1=>match vs with | [v]=>Src X.K H1 v (SortB X.K sp H1 Q) | _=>False) I h) λus s1 ⟨vs,H1,I1,r1,q1⟩=>?_
 match vs,r1,q1 with
 | [v],r1,q1=>
  obtain ⟨u,rfl,ru⟩:=r1.one
  refine thn ((pk_cons (cQ (v:=.ref f) hgx hm rfl hdb) (pk_cons cW pk_nil)) pos pins s1 σ H1 (λzs H2=>zs=[V.ref f,.bl true]/\H2=H1) I1 ⟨rfl,rfl⟩) λws s2 ⟨zs,H2,I2,r2,e1,e2⟩=>?_
  subst e1 e2
  obtain ⟨w1,w2,rfl,rw1,rw2⟩:=r2.two
  cases rw1
  cases rw2
  refine call_sorted (f:=f) hr.hd hr.in1.in1.units I2 ru q1 λxs ⟨h64,key,nd,hk1,hq⟩=>⟨h64,key,nd,key_fn (A:=X.A) F' hb hr.in1.in1 hk1,λD H3 s3 zs nD I3 sm q pm pw=>⟨.ref D,H3,I3,rfl,hq D H3 zs nD sm q pm pw⟩⟩
end
def Itd (d:Addr) (o:Obj) (u:HO) (vs:List V):It:=⟨λi H=>H d=some (.frz o u)/\i<vs.length,λi H x H'=>H'=H/\vs[i]? = some x,λi H=>H d=some (.frz o u)/\vs.length<=i⟩
theorem turn_dict {P:Program} {w:World} {K:Frag} {tg:Expr} {d it:Addr} {o:Obj} {u:HO} {es:Array DictEntry} {ep:Nat} {vs:List V} (hx:o.ExactDict) (hd:o.data=.dict es ep) (rv:kY vs (es.toList.map (·.key))) :
  kz P w K tg (Itd d o u vs) [it] it (λi h=>h.IsKeyIter it d i es.size ep) where
 mem:=by simp
 obj:=λi h st b hb=>by
  have e:b=it:=by simpa using hb
  subst e
  obtain ⟨o,e,c,d⟩:=st
  exact ⟨o,e,λv z=>by rw [d] at z; cases z⟩
 keep:=λi h h' st k=>st.at λo e=>k it (by simp) o e
 item:=by
  intro X hP hw hK hc i pins s σ H E I hf st hg
  subst hP hw hK
  obtain ⟨hD,hi⟩:=(show H d=some (.frz o u)/\i<vs.length from hg)
  have hl:vs.length=es.size:=by rw [rv.length]; simp
  have ho:s.heap.get? d=some o:=(show ls X.prog X.w H s.heap d (.frz o u) from I.hok d _ hD).1
  obtain ⟨f0,f1,f2,f3,f4,f5⟩:=hf it (by simp)
  refine fU (I.ok.hd hc) st ⟨o,ho,hx,hd⟩ (λhi' h' st' sb=>?_) λhge=>absurd hi (by omega)
  have I1:Inv X pins σ H { s with heap:=h' }:=I.turned (t':=s.toks) (λb o hb e=>(sb.2 b hb).trans e) f0 f1 f3 f4 f5
  obtain ⟨x,hxi⟩:∃ x,vs[i]? = some x:=⟨_,getElem?_eq_getElem hi⟩
  obtain ⟨v,hv,rx⟩:=rv.get hxi
  have hv':es[i].key=v:=by
   rw [getElem?_map,Array.getElem?_toList,Array.getElem?_eq_getElem hi'] at hv
   exact Option.some.inj hv
  obtain ⟨ob,e,c,dd⟩:=id st'
  exact ⟨_,rfl,go_of (s:={ s with heap:=h' }) e c dd (by decide) ⟨x,H,I1,by rw [hv']; exact rx,⟨rfl,hxi⟩,st',λb hb=>(hf b hb).1⟩⟩
 done:=by
  intro X hP hw hK hc i pins s σ H E I hf st hg
  subst hP hw hK
  obtain ⟨hD,hi⟩:=(show H d=some (.frz o u)/\vs.length<=i from hg)
  have hl:vs.length=es.size:=by rw [rv.length]; simp
  have ho:s.heap.get? d=some o:=(show ls X.prog X.w H s.heap d (.frz o u) from I.hok d _ hD).1
  obtain ⟨f0,f1,f2,f3,f4,f5⟩:=hf it (by simp)
  exact fU (I.ok.hd hc) st ⟨o,ho,hx,hd⟩ (λhi'=>absurd hi' (by omega)) λ_ h' eb=>⟨rfl,I.turned (t':=s.toks) (λb o hb e=>eb b o hb e) f0 f1 f3 f4 f5⟩
 self:=λ_ _ _ _ _ st h=>wpAny_pyIter_keyiter st h
def iDict (tl:TE):TI:=λσ H R=>tl σ H λx H1=>∃ d kvs,x=.ref d/\H1 d=some (.dT kvs)/\∀ o as,Paired (λ(p:List Key × V) (a:Addr)=>H1 a=some (.tup (p.1.map kV))) kvs as->R (Itd d o (.dT kvs) (as.map V.ref)) (upd H1 d (.frz o (.dT kvs)))
theorem dict_keys {P:Program} {w:World} {H:Hp} {kvs:List (List Key × V)} {m:List (List Key × Addr × Value)} (q:Paired (λ(p:List Key × V) (q:List Key × Addr × Value)=>p.1=q.1/\H q.2.1=some (.tup (p.1.map kV))/\k9 p.2 q.2.2) kvs m) :
  Paired (λ(p:List Key × V) (a:Addr)=>H a=some (.tup (p.1.map kV))) kvs (m.map (·.2.1))/\kY ((m.map (·.2.1)).map V.ref) ((m.map (entryOfKey (tupleKind (aZ P w)))).map (·.key)):=by
 induction q with
 | nil=>exact ⟨.nil,.nil⟩
 | cons hq t ih=>exact ⟨.cons hq.2.1 ih.1,.cons rfl ih.2⟩
theorem pi_dict {X:Cx} {tg l:Expr} {tl:TE} (hl:PE X l tl):PI X tg l (iDict tl):=by
 intro pins s σ H R I h
 refine thn (hl pins s σ H _ I h) λv s1 ⟨x,H1,I1,r1,q1⟩=>?_
 obtain ⟨d,kvs,e,hd,q⟩:=q1
 subst e
 cases r1
 obtain ⟨hz,hm,es3,kt,o,es,ep,h1,h2,h3,h4,h5⟩:=id (show ls X.prog X.w H1 s1.heap d (.dT kvs) from I1.hok d _ hd)
 obtain ⟨k1,k2⟩:=dict_keys (P:=X.prog) (w:=X.w) kt
 have go:∀ {l:List (List Key × V)} {m:List (List Key × Addr × Value)},Paired (λ(p:List Key × V) (q:List Key × Addr × Value)=>p.1=q.1/\H1 q.2.1=some (.tup (p.1.map kV))/\k9 p.2 q.2.2) l m->
   Paired (λ(p:List Key × V) (q:List Key × Addr × Value)=>p.1=q.1/\upd H1 d (.frz o (.dT kvs)) q.2.1=some (.tup (p.1.map kV))/\k9 p.2 q.2.2) l m:=by
  intro l m q
  induction q with
  | nil=>exact .nil
  | cons hq t ih=>exact .cons ⟨hq.1,by rw [au (bU hq.2.1 hd (by intro z; cases z))]; exact hq.2.1,hq.2.2⟩ ih
 have I2:Inv X pins σ (upd H1 d (.frz o (.dT kvs))) { s1 with heap:=s1.heap,toks:=s1.toks }:=I1.write (x:=d) (e:=d) (by rw [hd]; exact trivial) (.inl rfl) (λ_ _ _ z=>z) ⟨_,h1⟩ ⟨h1,hz,hm,es3,go kt,o,es,ep,h1,h2,h3,h4,h5⟩
 rw [<- h4] at k2
 refine iter_raw hm ⟨o,h1,h2,h3⟩ ?_
 refine ⟨s1.heap.objs.size,[s1.heap.objs.size],_,_,_,rfl,I2.kept (t':=s1.toks) λb o e=>get?_push_of_some _ e,turn_dict (u:=.dT kvs) h2 h3 k2,⟨_,get?_push_size _ rfl,rfl,rfl⟩,λb hb=>?_,q o _ k1⟩
 have e:b=s1.heap.objs.size:=by simpa using hb
 subst e
 exact I2.fpOk (Nat.le_refl _) (I2.hok.fresh (Nat.le_refl _))
theorem hu1 {k:Nat} {A:Around} (hr:lA k A):A.units+1<cLine:=by have:=hr.un; omega
theorem kpi_dict {X:Cx} {tg e:Expr} {te:TE} (K:Frag) (hK:X.K=K) (hl:PE X e te):PI X tg e (iDict te):=pi_dict hl
def kI (k:List Int):List Key:=k.map Sum.inl
theorem kI_inj {a b:List Int} (h:kI a=kI b):a=b:=by
 induction a generalizing b with
 | nil=>cases b with
  | nil=>rfl
  | cons y b=>cases h
 | cons x a ih=>cases b with
  | nil=>cases h
  | cons y b=>
   have h':(Sum.inl x:Key)::kI a=Sum.inl y::kI b:=h
   injection h' with h1 h2
   injection h1 with h1
   rw [h1,ih h2]
theorem kI_kV (k:List Int):(kI k).map kV=k.map V.int:=by
 unfold kI
 rw [map_map]
 rfl
section
variable {α:Type}
def bW (m:List (List Int × α)) (k:List Int):Option α:=(m.find? λp=>decide (p.1=k)).map (·.2)
def jc (m:List (List Int × α)) (k:List Int) (x:α):List (List Int × α):=if (bW m k).isSome then m.map (λp=>if p.1=k then (p.1,x) else p) else m++[(k,x)]
theorem aval_nil (k:List Int):bW ([]:List (List Int × α)) k=none:=rfl
theorem gq {p:List Int × α} {r:List (List Int × α)} {k:List Int} (e:p.1=k):bW (p::r) k=some p.2:=by simp [bW,find?_cons,e]
theorem gf {p:List Int × α} {r:List (List Int × α)} {k:List Int} (e:¬ p.1=k):bW (p::r) k=bW r k:=by simp [bW,find?_cons,e]
theorem aval_none {k:List Int}:∀ {m:List (List Int × α)},bW m k=none↔¬ k ∈ m.map (·.1)
 | []=>by simp [aval_nil]
 | p::r=>by
  by_cases e:p.1=k
  ·rw [gq e]
   simp [e]
  ·rw [gf e,aval_none (m:=r),map_cons,mem_cons]
   exact ⟨λh z=>z.elim (λz=>e z.symm) h,λh z=>h (.inr z)⟩
theorem bV {k:List Int} {x:α}:∀ {m:List (List Int × α)},bW m k=some x->(k,x) ∈ m
 | p::r,h=>by
  by_cases e:p.1=k
  ·rw [gq e] at h
   have:p=(k,x):=Prod.ext e (Option.some.inj h)
   rw [this]; simp
  ·rw [gf e] at h
   exact List.mem_cons.mpr (.inr (bV h))
theorem gm {k:List Int} {x:α}:∀ {m:List (List Int × α)},(m.map (·.1)).Nodup->(k,x) ∈ m->bW m k=some x
 | p::r,hn,h=>by
  have hn':(p.1::r.map (·.1)).Nodup:=hn
  obtain ⟨h1,h2⟩:=List.nodup_cons.mp hn'
  rcases List.mem_cons.mp h with z | z
  ·rw [<- z]
   exact gq rfl
  ·have:k ∈ r.map (·.1):=List.mem_map.mpr ⟨_,z,rfl⟩
   rw [gf (λe=>h1 (by rw [e]; exact this))]
   exact gm h2 z
theorem aput_keys (m:List (List Int × α)) (k:List Int) (x:α):(jc m k x).map (·.1)=if (bW m k).isSome then m.map (·.1) else m.map (·.1)++[k]:=by
 unfold jc
 split
 ·rw [map_map]
  apply List.map_congr_left
  intro p _
  show (if p.1=k then (p.1,x) else p).1=p.1
  split<;>rfl
 ·rw [map_append]; rfl
theorem aput_nodup {m:List (List Int × α)} {k:List Int} {x:α} (h:(m.map (·.1)).Nodup):((jc m k x).map (·.1)).Nodup:=by
 rw [aput_keys]
 split
 ·exact h
 ·rename_i hs
  have hn:bW m k=none:=by
   cases e:bW m k with
   | none=>rfl
   | some y=>rw [e] at hs; exact absurd rfl hs
  exact List.nodup_append.mpr ⟨h,by simp,λa ha b hb=>by
   rw [List.mem_singleton.mp hb]
   intro z
   exact aval_none.mp hn (by rw [<- z]; exact ha)⟩
theorem gk {m:List (List Int × α)} {k:List Int} {x:α} {p:List Int × α} (h:p ∈ jc m k x):p=(k,x)\/p ∈ m:=by
 unfold jc at h
 split at h
 ·obtain ⟨q,hq,e⟩:=List.mem_map.mp h
  by_cases hk:q.1=k
  ·rw [if_pos hk] at e
   exact .inl (by rw [<- e,hk])
  ·rw [if_neg hk] at e
   exact .inr (by rw [<- e]; exact hq)
 ·rcases List.mem_append.mp h with z | z
  ·exact .inr z
  ·exact .inl (List.mem_singleton.mp z)
theorem aput_len (m:List (List Int × α)) (k:List Int) (x:α):(jc m k x).length<=m.length+1:=by
 unfold jc
 split
 ·rw [length_map]; omega
 ·rw [length_append]; simp
def lF (R:V->α->Prop) (kvs:List (List Key × V)) (m:List (List Int × α)):Prop:=Paired (λ(p:List Key × V) (q:List Int × α)=>p.1=kI q.1/\R p.2 q.2) kvs m
theorem lF.mono {R R':V->α->Prop} (h:∀ v x,R v x->R' v x):∀ {kvs:List (List Key × V)} {m:List (List Int × α)},lF R kvs m->lF R' kvs m
 | _,_,.nil=>.nil
 | _,_,.cons q r=>.cons ⟨q.1,h _ _ q.2⟩ (lF.mono h r)
theorem lF.val {R:V->α->Prop} (k:List Int):∀ {kvs:List (List Key × V)} {m:List (List Int × α)},lF R kvs m->(fi kvs (kI k)=none/\bW m k=none)\/∃ v x,fi kvs (kI k)=some v/\bW m k=some x/\R v x
 | _,_,.nil=>.inl ⟨rfl,rfl⟩
 | p::_,q' :: _,.cons q r=>by
  by_cases e:q'.1=k
  ·exact .inr ⟨p.2,q'.2,fZ (by rw [q.1,e]),gq e,q.2⟩
  ·rw [gh (λz=>e (kI_inj (q.1.symm.trans z))),gf e]
   exact lF.val k r
theorem lF.put {R:V->α->Prop} {k:List Int} {v:V} {x:α} (hx:R v x) {kvs:List (List Key × V)} {m:List (List Int × α)} (h:lF R kvs m):lF R (da kvs (kI k) v) (jc m k x):=by
 unfold da jc
 rw [i9]
 rcases h.val k with ⟨e1,e2⟩ | ⟨v',x',e1,e2,_⟩
 ·rw [e1,e2]
  have go:∀ {kvs:List (List Key × V)} {m:List (List Int × α)},lF R kvs m->lF R (kvs++[(kI k,v)]) (m++[(k,x)]):=by
   intro kvs m h
   induction h with
   | nil=>exact .cons ⟨rfl,hx⟩ .nil
   | cons q r ih=>exact .cons q ih
  exact go h
 ·rw [e1,e2]
  have go:∀ {kvs:List (List Key × V)} {m:List (List Int × α)},lF R kvs m->lF R (kvs.map λkv=>if kv.1=kI k then (kv.1,v) else kv) (m.map λp=>if p.1=k then (p.1,x) else p):=by
   intro kvs m h
   induction h with
   | nil=>exact .nil
   | @cons p q ps qs hq r ih=>
    refine .cons ?_ ih
    dsimp only
    by_cases e:q.1=k
    ·rw [if_pos (by rw [hq.1,e]),if_pos e]
     exact ⟨hq.1,hx⟩
    ·rw [if_neg (λz=>e (kI_inj (hq.1.symm.trans z))),if_neg e]
     exact hq
  exact go h
theorem lF.tups {R:V->α->Prop} {H:Hp}:∀ {kvs:List (List Key × V)} {m:List (List Int × α)} {as:List Addr},lF R kvs m->Paired (λ(p:List Key × V) (a:Addr)=>H a=some (.tup (p.1.map kV))) kvs as->
  Paired (λ(a:Addr) (q:List Int × α)=>H a=some (.tup (q.1.map V.int))) as m
 | _,_,_,.nil,.nil=>.nil
 | _,_,_,.cons q r,.cons t ts=>.cons (by rw [q.1,kI_kV] at t; exact t) (lF.tups r ts)
end
theorem gX {β:Type} {lt:β->β->Bool} (irr:∀ a,lt a a=false) (tr:∀ a b c,lt a b=true->lt b c=true->lt a c=true):∀ {xs ys:List β},xs.Perm ys->xs.Pairwise (λa b=>lt b a=true)->ys.Pairwise (λa b=>lt b a=true)->xs=ys
 | [],ys,p,_,_=>(List.nil_perm.mp p).symm
 | x::xs,[],p,_,_=>by have:=p.length_eq; simp at this
 | x::xs,y::ys,p,h1,h2=>by
  obtain ⟨a1,a2⟩:=List.pairwise_cons.mp h1
  obtain ⟨b1,b2⟩:=List.pairwise_cons.mp h2
  have e:x=y:=by
   have mx:x ∈ y::ys:=p.mem_iff.mp (by simp)
   have my:y ∈ x::xs:=p.mem_iff.mpr (by simp)
   rcases List.mem_cons.mp mx with z | z
   ·exact z
   ·rcases List.mem_cons.mp my with w | w
    ·exact w.symm
    ·have c1:=b1 x z
     have c2:=a1 y w
     have:=tr _ _ _ c1 c2
     rw [irr] at this
     cases this
  subst e
  rw [gX irr tr ((List.perm_cons x).mp p) a2 b2]
variable {X:Cx}
end L2
namespace L2
open PySem PySem.Spec PyProof.Rows PySem.W
theorem for_zip {t1 t2:Bool} {K:Frag} {a b:Addr} {xs ys:List V} {g:TG} {tb:TS} {D:fP} {σ:St} {H:Hp} (Pv:Nat->St->Hp->Prop) (h0:Pv 0 σ H) (hl:∀ i σ H,i<=min xs.length ys.length->Pv i σ H->SqV t1 K H a xs/\SqV t2 K H b ys)
  (hs:∀ (i:Nat) x y σ H p,xs[i]? = some x->ys[i]? = some y->Pv i σ H->H p=none->g (.ref p) σ (upd H p (.tup [x,y])) λσ2 H2=>tb { D with nx:=Pv (i+1),ct:=Pv (i+1),bk:=D.nx } σ2 H2) (hd:∀ σ H,Pv (min xs.length ys.length) σ H->D.nx σ H) :
  ∃ W:Nat->Nat->St->Hp->Prop,(∃ m,W 0 m σ H)/\∀ i m σ H,W i m σ H->
   ((Itz t1 t2 K a b).stop i H/\D.nx σ H)\/((Itz t1 t2 K a b).go i H/\∃ N:St->Hp->Prop,(∀ σ' H',N σ' H'->∃ m',m' < m/\W (i+1) m' σ' H')/\∀ x H',(Itz t1 t2 K a b).yld i H x H'->g x σ H' λσ2 H2=>tb { D with nx:=N,ct:=N,bk:=D.nx } σ2 H2):=by
 refine ⟨λi m σ H=>m=min xs.length ys.length-i/\i<=min xs.length ys.length/\Pv i σ H,⟨min xs.length ys.length,by simp,Nat.zero_le _,h0⟩,?_⟩
 rintro i m σ H ⟨rfl,hi,p⟩
 obtain ⟨q1,q2⟩:=hl i σ H hi p
 by_cases hlt:i<min xs.length ys.length
 ·have hx:i<xs.length:=by omega
  have hy:i<ys.length:=by omega
  refine .inr ⟨⟨xs,ys,xs[i],ys[i],q1,q2,by simp [hx],by simp [hy]⟩,Pv (i+1),λσ' H' p'=>⟨min xs.length ys.length-(i+1),by omega,rfl,hlt,p'⟩,λx H' y=>?_⟩
  obtain ⟨l,x1,y1,rfl,hl1,rfl,g1,g2⟩:=y
  exact hs i x1 y1 σ _ l (g1 xs q1) (g2 ys q2) p hl1
 ·have e:i=min xs.length ys.length:=by omega
  subst e
  refine .inl ⟨⟨xs,ys,q1,q2,?_⟩,hd σ H p⟩
  omega
section
variable {X:Cx} {pins:List (Addr × Obj)} {σ:St} {H:Hp} {s:Shared}
end
end L2
namespace L2
open PySem PySem.Spec PyProof.Rows
theorem lA.m {j k:Nat} {A:Around} (r:lA k A) (h:j<=k:=by first | decide | exact Nat.le_refl _):lA j A:=r.mono h
theorem kX.i {N P:List Str} {sc:Scope} (a:sc.kind=.function:=by rfl) (b:sc.isCoroutine=false:=by rfl) (c:sc.isGenerator=false:=by rfl) (d:N.Nodup:=by decide +kernel) (e:N.take P.length=P:=by rfl)
  (f:∀ x ∈ P,sc.names.lookup x=some .local\/sc.names.lookup x=some .cell:=by decide +kernel) (g:∀ y ∈ sc.names,y.2 ≠ .free:=by decide +kernel):kX N P sc:=⟨a,b,c,d,e,f,g⟩
def AllA:Nat->(List Value->Prop)->Prop
 | 0,p=>p []
 | n+1,p=>∀ v,AllA n λr=>p (v::r)
theorem AllA.all:∀ {n:Nat} {p:List Value->Prop},AllA n p->∀ us:List Value,us.length=n->p us
 | 0,_,h,[],_=>h
 | _+1,_,h,v::r,e=>AllA.all (h v) r (Nat.succ.inj e)
def li (K:Frag) (n:Str) (st:Stmt):Prop:=∃ f fd,nsIn K mainGlobals n=some (some (.ref f))/\Fun K n n st f fd
theorem li.mk {K:Frag} {n:Str} {st:Stmt} {f:Addr} {oc:Value} {od an:Option Addr} {osl:Array (Option Value)} {kV doc pm cdv ct:Value} (a:nsIn K mainGlobals n=some (some (.ref f))) (l:K.lookup f=some ⟨oc,od,.func (fnOf n n (aM st) (aJ st) (aj st) .none kV doc pm an cdv ct),osl⟩)
  (c:codeIn K cdv n=true) (k:keepIn K (.ref f)=true):li K n st:=⟨f,_,a,cC l c k⟩
section
variable {P:Program} {w:World} {K:Frag} {mg:Str->Option Value} {base h:Heap} {n:Str} {st:Stmt} {k:Nat} {sp:Sp} {ps:List Str}
def BindsOk (n:Str) (st:Stmt) (ps:List Str):Prop:=∀ (kV doc pm:Value) (an:Option Addr) (cdv ct:Value),AllA ps.length λus=>bindArgs (fnOf n n (aM st) (aJ st) (aj st) .none kV doc pm an cdv ct) ⟨us,[]⟩=pure (ps.zip us)
theorem BindsOk.b (h:BindsOk n st ps) {f:Addr} {fd:FuncData} (F:Fun K n n st f fd):lL K fd ps []:=F.binds λa b c d e g=>(h a b c d e g).all
theorem li.fb (X:K.In h) (G:h.Ns mainGlobals mg) (d:li K n st) (o:∀ {f fd},Fun K n n st f fd->kZ P w K mg base CX0 k f fd ps sp) (b:BindsOk n st ps:=by (repeat intro _); rfl):FnB P w K mg base k n sp:=
 let ⟨f,fd,a,F⟩:=d
 ⟨f,fd,ps,o F,mg_of X G a,F.kp,b.b F⟩
theorem li.law {fa:Addr} {x:Str} (X:K.In h) (G:h.Ns mainGlobals mg) (d:li K n st) (e:mg n=some (.ref fa))
  (o:∀ {fd} {base:Heap},Fun K n n st fa fd->K.In base->base.Ns mainGlobals mg->kZ P w K mg base CX0 k fa fd ps sp) (b:BindsOk n st [x]:=by (repeat intro _); rfl) :
  ∃ fd:FuncData,(∀ (s:Shared) (v:Value),BindsTo s fd ⟨[v],[]⟩ [(x,v)])/\∀ base:Heap,K.In base->base.Ns mainGlobals mg->kZ P w K mg base CX0 k fa fd ps sp:=by
 obtain ⟨f,fd,a,F⟩:=d
 cases e.symm.trans (mg_of X G a)
 obtain ⟨oc,od,kV,doc,pm,an,cdv,ct,osl,rfl,lk,hcd⟩:=id F.ex
 exact ⟨_,λs v=>.of_eq (b kV doc pm an cdv ct v),λbase=>o F⟩
end
theorem bmA {X:Cx} (K:Frag) (hK:X.K=K) {o e:Expr} {es:List Expr} {to:TE} {t:TA} {apos cpos:Pos} (ho:PE X o to) (ha:PA X (e::es) t)
  (hbase:attributeBase o "append" X.env (eval o X.env)=eval o X.env:=by rfl)
  (hfew:((backTo cpos (starEach (e::es) X.env)).all (λx=>!x.1) && (backToKw cpos (keywordEach [] X.env)).all (λx=>x.1.isSome)
   && decide ((e::es).length+([]:List Keyword).length+(if ([]:List Keyword).isEmpty then 0 else 1)<30))=true:=by rfl)
  (hline:(apos.endLine == cpos.line)=true:=by rfl) (hs:starEach (e::es) X.env=(false,eval e X.env)::starEach es X.env:=by rfl) (hplain:(backTo cpos (starEach es X.env)).any (·.1)=false:=by rfl) :
  PE X (.Call (.Attribute o "append" apos) (e::es) [] cpos) (tBM K "list" rAppend to t):=hK ▸ fY PySem.F.plainAttrs_list PySem.F.slot_list_append PySem.F.type_list_append jB ho ha hbase hfew hline hs hplain
section
variable {P:Program} {w:World} {K:Frag} {mg:Str->Option Value} {base:Heap}
theorem Fun.o {x qual:Str} {st:Stmt} {f:Addr} {fd:FuncData} {N ps:List Str} {k:Nat} {sp:Sp} (F:Fun K x qual st f fd) (S:kX N ps (aj st))
  (hbody:∀ (cdv:Value) (A:Around) (outer:List Env) (s:Shared) (H:Hp) (vs:List V) (Q:VK) (E:XK),lA k (A.deeper (envOfC qual (aj st) s.heap.objs.size f cdv))->sp vs H Q E->
   ∃ t,PSs (cX CX0 P w K mg base N qual (aj st) f cdv A outer s H E).nox (aJ st) t/\t { nx:=λ_ H'=>Q .non H',rt:=Q } (eJ N vs) H)
  (len:∀ vs H Q E,sp vs H Q E->vs.length=ps.length:=by intro _ _ _ _ h; repeat first | (cases h.1; rfl) | obtain ⟨_,h⟩:=h):kZ P w K mg base CX0 (k+1) f fd ps sp:=F.ok S len hbody
end
end L2
namespace L2
open PySem PySem.Spec PyProof.Rows PySem.W
section
variable {prog:Program} {w:World} {A:Around} {E:Value->Shared->Prop} {κ:SortKind} {it:Array Keyed} {n:Nat} {c:Nat->Nat->Bool} {s:Shared} {st:SortSt}
end
end L2
namespace L2
open PySem PySem.Spec PyProof.Rows
end L2
namespace L2
open PySem PySem.Spec PyProof.Rows PySem.Builtin PySem.Builtin.Str
section
variable {X:Cx}
def rStarts:V->List V->Hp->VK->Prop:=λx vs H Q=>∃ a b,x=.str a/\vs=[.str b]/\Q (.bl (Txt.startswith a b)) H
theorem mt_starts:MtM X "str.startswith" rStarts:=by
 intro pins s σ H x vs v us Q I rx rv h
 obtain ⟨a,b,rfl,rfl,q⟩:=h
 obtain ⟨t,rfl⟩:=rx
 obtain ⟨u,rfl,ru⟩:=rv.one
 obtain ⟨tu,rfl⟩:=ru
 exact SC.startswith ⟨.bl _,H,I,rfl,q⟩
theorem jK:∀ l:List (Str × Tok),kY ((l.map (·.1)).map V.str) (strValues l)
 | []=>.nil
 | p::r=>.cons ⟨p.2,rfl⟩ (jK r)
def rSplit:V->List V->Hp->VK->Prop:=λx vs H Q=>∃ a b,x=.str a/\vs=[.str b]/\(b.length == 0)=false/\a.length+2<=sizeLine/\∀ l,H l=none->Q (.ref l) (upd H l (.lst ((Txt.split a b).map V.str)))
theorem mt_split:MtM X "str.split" rSplit:=by
 intro pins s σ H x vs v us Q I rx rv h
 obtain ⟨x,y,rfl,rfl,hy,hsz,q⟩:=h
 obtain ⟨t,rfl⟩:=rx
 obtain ⟨u,rfl,ru⟩:=rv.one
 obtain ⟨u,rfl⟩:=ru
 have hn:(partsBetween x (occurrences x y 0 x.length (x.length+1)) y.length).length<=sizeLine:=by
  have e1:=StrLaws.occ_length_le x y 0 x.length (x.length+1)
  rw [length_partsBetween]; omega
 have fin:∀ (l:List (Str × Tok)) (k:Nat),l.map (·.1)=Txt.split x y->l.length<=sizeLine->EP X pins σ Q (.ref s.heap.objs.size) { s with heap:=s.heap.push { cls:=.type "list",data:=.seq (strValues l).toArray },toks:=k }:=λl k e hl=>by
  refine ⟨.ref s.heap.objs.size,_,I.lnew (jK l) (by rw [length_map,length_map]; exact hl),rfl,?_⟩
  rw [e]
  exact q _ I.fresh
 cases h1:(decide (x.length<y.length) || decide (strKind x<strKind y))
 ·cases hf:(occurrences x y 0 x.length (x.length+1)).isEmpty
  ·refine call_meets F.slot_str_split (typeIs_str _ _ _) F.entry_str_split (F.args_str_split_2 _ _) (meets_str_split_sep x y t u h1 hy hf (by omega) hn) ?_
   show wants _ _ _ { s with toks:=_,heap:=s.heap.push { cls:=.type "list",data:=.seq (strsFrom s.toks (partsBetween x (occurrences x y 0 x.length (x.length+1)) y.length)).toArray } }
   rw [strsFrom_eq]
   refine fin (numbered s.toks _) _ ((numbered_texts _ _).trans ((if_neg (ne_true_of_eq_false h1)).trans (if_neg (ne_true_of_eq_false hf))).symm) ?_
   have e:=congrArg List.length (numbered_texts s.toks (partsBetween x (occurrences x y 0 x.length (x.length+1)) y.length))
   rw [length_map] at e
   omega
  ·exact call_meets F.slot_str_split (typeIs_str _ _ _) F.entry_str_split (F.args_str_split_2 _ _) (meets_str_split_not_found x y t u h1 hy hf)
    (fin [(x,t)] s.toks ((if_neg (ne_true_of_eq_false h1)).trans (if_pos hf)).symm (by show 1<=sizeLine; decide))
 ·exact call_meets F.slot_str_split (typeIs_str _ _ _) F.entry_str_split (F.args_str_split_2 _ _) (meets_str_split_cannot_occur x y t u h1)
   (fin [(x,t)] s.toks (if_pos h1).symm (by show 1<=sizeLine; decide))
def rPart:V->List V->Hp->VK->Prop:=λx vs H Q=>∃ a b,x=.str a/\vs=[.str b]/\(b.length == 0)=false/\a.length<=sizeLine/\∀ p,H p=none->Q (.ref p) (upd H p (.tup [.str (Txt.partition a b).1,.str (Txt.partition a b).2.1,.str (Txt.partition a b).2.2]))
theorem mt_part:MtM X "str.partition" rPart:=by
 intro pins s σ H x vs v us Q I rx rv h
 obtain ⟨x,y,rfl,rfl,hy,hsz,q⟩:=h
 obtain ⟨t,rfl⟩:=rx
 obtain ⟨u,rfl,ru⟩:=rv.one
 obtain ⟨u,rfl⟩:=ru
 have fin:∀ (ta tb tc:Tok) (k:Nat),EP X pins σ Q (.ref s.heap.objs.size) { s with heap:=s.heap.push { cls:=.type "tuple",data:=.seq [.str (Txt.partition x y).1 ta,.str (Txt.partition x y).2.1 tb,.str (Txt.partition x y).2.2 tc].toArray },toks:=k }:=λta tb tc k=>by
  have hv:kY [V.str (Txt.partition x y).1,.str (Txt.partition x y).2.1,.str (Txt.partition x y).2.2] [.str (Txt.partition x y).1 ta,.str (Txt.partition x y).2.1 tb,.str (Txt.partition x y).2.2 tc]:=.cons ⟨ta,rfl⟩ (.cons ⟨tb,rfl⟩ (.cons ⟨tc,rfl⟩ .nil))
  exact ⟨.ref s.heap.objs.size,_,I.laid (t':=k) (λb o e=>get?_push_of_some _ e) (Nat.le_refl _) (show ls X.prog X.w _ _ _ (.tup _) from ⟨by show 3<=sizeLine; decide,_,hv,IsTup.new _ _⟩),rfl,q _ I.fresh⟩
 refine call_meets F.slot_str_partition (typeIs_str _ _ _) F.entry_str_partition (F.args_str_partition_2 _ _) (meets_str_partition x y t u hy hsz) ?_
 have h':=fin
 unfold Txt.partition at h'
 revert h'
 cases occurrences x y 0 x.length 1 with
 | nil=>intro h'; exact h' _ _ _ _
 | cons i r=>intro h'; exact h' _ _ _ _
def rJoin:V->List V->Hp->VK->Prop:=λx vs H Q=>∃ a l ys,x=.str a/\vs=[.ref l]/\H l=some (.lst (ys.map V.str))/\JoinOk a ys=true/\Q (.str (Txt.join a ys)) H
theorem strs_of:∀ {ys:List Str} {us:List Value},kY (ys.map V.str) us->∃ l:List (Str × Tok),us=strValues l/\l.map (·.1)=ys
 | [],_,.nil=>⟨[],rfl,rfl⟩
 | y::ys,_,.cons ⟨t,e⟩ r=>by
  obtain ⟨l,e1,e2⟩:=strs_of r
  refine ⟨(y,t)::l,?_,by rw [map_cons,e2]⟩
  rw [e,e1]
  rfl
theorem kq:MtM X "str.join" rJoin:=by
 intro pins s σ H x vs v us Q I rx rv h
 obtain ⟨a,l,ys,rfl,rfl,hl,hok,q⟩:=h
 obtain ⟨t,rfl⟩:=rx
 obtain ⟨u,rfl,ru⟩:=rv.one
 cases ru
 obtain ⟨hz,its,n,r,_,e⟩:=I.lstM hl
 obtain ⟨ps,e1,e2⟩:=strs_of r
 subst e1
 exact SC.join (l:=ps) (D:=l) ⟨_,e,rfl,_,rfl⟩ e2 hok λt' k=>⟨.str _,H,I.kept (t':=k) λ_ _ e=>e,⟨t',rfl⟩,q⟩
end
section
variable {X:Cx}
def rSlS:V->Option Int->Option Int->Hp->VK->Prop:=λx lo hi H Q=>∃ a,x=.str a/\a.length<=sizeLine/\Q (.str (Txt.slice a lo hi)) H
theorem kM:SlR X rSlS:=by
 intro pins s σ H x v vl vu lo hi sl Q I rx hs pl pu h
 obtain ⟨a,rfl,hz,q⟩:=h
 obtain ⟨t,rfl⟩:=rx
 refine ⟨"str",_,F.slot_str_getitem.lookup,typeIs_str _ _ _,?_⟩
 have fin:∀ (l u:Option (Int × Tok)),lo=l.map (·.1)->hi=u.map (·.1)->s.heap.IsSlice sl l u none->wpAny (model X.prog X.w) X.A (getItem (.str a t) (.ref sl)) (EP X pins σ Q) X.xe s:=λl u e1 e2 hs=>by
  subst e1 e2
  refine wpAny_getItem_str_slice (l:=l) (u:=u) (st:=none) hs rfl (post_val_or_str ⟨Nat.le_trans (Txt.slice_le a _ _) hz,λt' k=>?_⟩)
  exact ⟨.str (Txt.slice a (l.map (·.1)) (u.map (·.1))),H,I.kept (t':=k) λ_ _ e=>e,⟨t',rfl⟩,q⟩
 cases pl with
 | none=>
  cases pu with
  | none=>exact fin none none rfl rfl hs
  | int j u=>exact fin none (some (j,u)) rfl rfl hs
 | int i t=>
  cases pu with
  | none=>exact fin (some (i,t)) none rfl rfl hs
  | int j u=>exact fin (some (i,t)) (some (j,u)) rfl rfl hs
theorem jj:cE X (.type "int") (λxs H Q=>∃ x n,xs=[.str x]/\PySem.intText? x=some n/\x.length<=640/\Q (.int n) H):=by
 intro pins s σ H xs us Q I r h
 obtain ⟨x,n,rfl,hn,hl,q⟩:=h
 obtain ⟨u,rfl,rx⟩:=eG r
 obtain ⟨t,rfl⟩:=rx
 exact PySem.W.KIN.call_text hn hl ⟨.int n,H,I.kept (t':=s.toks+1) λ_ _ e=>e,⟨_,rfl⟩,q⟩
def Its (x:Str):It:=⟨λi _=>i<x.cps.size,λi H v H'=>H'=H/\∃ c,x.cps[i]? = some c/\v=.str ⟨#[c]⟩,λi _=>x.cps.size<=i⟩
theorem turn_str {P:Program} {w:World} {K:Frag} {tg:Expr} (x:Str) (t:Tok) (it:Addr):kz P w K tg (Its x) [it] it (λi h=>h.IsStrIter it "str_ascii_iterator" x t i) where
 mem:=by simp
 obj:=λi h st b hb=>by
  have e:b=it:=by simpa using hb
  subst e
  obtain ⟨o,e,c,d⟩:=st
  exact ⟨o,e,λv z=>by rw [d] at z; cases z⟩
 keep:=λi h h' st k=>by
  obtain ⟨o,e,r⟩:=st
  exact ⟨o,k it (by simp) o e,r⟩
 item:=by
  intro X hP hw hK hc i pins s σ H E I hf st hg
  subst hP hw hK
  have hx:x.cps[i]? = some (x.cps[i]'hg):=Array.getElem?_eq_getElem hg
  obtain ⟨f0,f1,f2,f3,f4,f5⟩:=hf it (by simp)
  refine wpAny_pyNext_ascii_item st hx λh' st' sb=>?_
  have I1:Inv X pins σ H { s with heap:=h',toks:=s.toks+1 }:=I.turned (t':=s.toks+1) (λb o hb e=>(sb.2 b hb).trans e) f0 f1 f3 f4 f5
  obtain ⟨o,e,c,d⟩:=id st'
  exact ⟨_,rfl,go_of (s:={ s with heap:=h',toks:=s.toks+1 }) e c d (by decide) ⟨.str _,H,I1,⟨_,rfl⟩,⟨rfl,_,hx,rfl⟩,st',λb hb=>(hf b hb).1⟩⟩
 done:=by
  intro X hP hw hK hc i pins s σ H E I hf st hg
  subst hP hw hK
  obtain ⟨f0,f1,f2,f3,f4,f5⟩:=hf it (by simp)
  exact wpAny_pyNext_ascii_end (I.ok.hd hc) st (Array.getElem?_eq_none hg) λh' eb=>⟨rfl,I.turned (t':=s.toks) (λb o hb e=>eb b o hb e) f0 f1 f3 f4 f5⟩
 self:=λ_ _ _ _ _ st h=>wpAny_pyIter_striter_ascii st h
def iStr (tl:TE):TI:=λσ H R=>tl σ H λx H1=>∃ a,x=.str a/\a.cps.all (· < 128)=true/\R (Its a) H1
theorem pi_str {tg l:Expr} {tl:TE} (hl:PE X l tl):PI X tg l (iStr tl):=by
 intro pins s σ H R I h
 refine thn (hl pins s σ H _ I h) λv s1 ⟨x,H1,I1,r1,q1⟩=>?_
 obtain ⟨a,rfl,ha,q⟩:=q1
 obtain ⟨t,rfl⟩:=r1
 refine wpAny_pyIter_ascii ha ?_
 refine ⟨s1.heap.objs.size,[s1.heap.objs.size],_,_,H1,rfl,I1.kept (t':=s1.toks) λb o e=>get?_push_of_some _ e,turn_str a t _,⟨_,get?_push_size _ rfl,rfl,rfl⟩,λb hb=>?_,q⟩
 have e:b=s1.heap.objs.size:=by simpa using hb
 subst e
 exact I1.fpOk (Nat.le_refl _) (I1.hok.fresh (Nat.le_refl _))
end
end L2
namespace L2
open PySem PySem.Spec PyProof.Rows PySem.W
theorem ba:bootBuiltins "str"=some (.type "str"):=by decide +kernel
section
variable {X:Cx} {K:Frag} {e st lo:Expr} {te:TE} {ts tl:TO} {pos p2:Pos}
def iF (xs:List V) (lo hi st:Option Int):List V:=(sliceRange (sliceBounds lo hi st xs.length).1 (sliceBounds lo hi st xs.length).2.1 (sliceBounds lo hi st xs.length).2.2).filterMap (xs[·]?)
theorem gA {xs:List V} {us:List Value} (r:kY xs us):∀ ix:List Nat,kY (ix.filterMap (xs[·]?)) (ix.filterMap (us[·]?))
 | []=>.nil
 | i::ix=>by
  have hl:=r.length
  cases hx:xs[i]? with
  | none=>
   have hu:us[i]? = none:=by rw [List.getElem?_eq_none_iff] at hx ⊢; omega
   rw [List.filterMap_cons_none hx,List.filterMap_cons_none hu]
   exact gA r ix
  | some x=>
   obtain ⟨u,hu,ru⟩:=r.get hx
   rw [List.filterMap_cons_some hx,List.filterMap_cons_some hu]
   exact .cons ru (gA r ix)
def tStep (K:Frag) (te:TE) (tl ts:TO):TE:=λσ H Q=>te σ H λx H1=>tl σ H1 λl H2=>ts σ H2 λk H3=>k ≠ some 0/\∃ a xs,x=.ref a/\SqL K H3 a xs/\∀ p,H3 p=none->Q (.ref p) (upd H3 p (.lst (iF xs l none k)))
theorem pe_step (hK:X.K=K) (he:PE X e te) (hl:PO X (some lo) tl) (hs:PO X (some st) ts):PE X (.Subscript e (.Slice (some lo) none (some st) p2) pos) (tStep K te tl ts):=by
 subst hK
 intro pins s σ H Q I h
 refine Subscript_ (thn (he pins s σ H _ I h) λv s1 ⟨x,H1,I1,r1,q1⟩=>?_)
 refine wpAny_Slice (thn (hl pins s1 σ H1 _ I1 q1) λvl s2 ⟨l,H2,I2,pl,q2⟩=>?_)
 rw [evalPart_none]
 refine wpAny_pure ?_
 refine thn (hs pins s2 σ H2 _ I2 q2) λvs s3 ⟨k,H3,I3,ps,q3⟩=>?_
 obtain ⟨k0,a,xs,rfl,hx,q⟩:=q3
 have I4:Inv X pins σ H3 { s3 with heap:=s3.heap.push { cls:=.type "slice",data:=.fields #[vl,.none,vs] } }:=I3.kept (t':=s3.toks) λb ob q=>get?_push_of_some _ q
 cases r1
 obtain ⟨its,r,ht,hz⟩:=I4.list hx
 have hlen:=r.length
 show wpAny (model X.prog X.w) X.A (subscriptTail e (.Slice (some lo) none (some st) p2) (.ref a) (.ref s3.heap.objs.size)) (EP X pins σ Q) X.xe { s3 with heap:=s3.heap.push { cls:=.type "slice",data:=.fields #[vl,.none,vs] } }
 refine tail_any (ops:=[.ref a,.ref s3.heap.objs.size]) ht.isList.typeIs slot_list_getitem.lookup ?_ (by with_unfolding_all rfl)
 refine wpAny_getItem_list_slice ht.isList (Heap.IsSliceOf.new ..) pl .none ps k0 ?_ (by rw [size_toArray]<;>omega)
 have ep:slicePick its.toArray l none k=((sliceRange (sliceBounds l none k xs.length).1 (sliceBounds l none k xs.length).2.1 (sliceBounds l none k xs.length).2.2).filterMap (its[·]?)).toArray:=by
  unfold slicePick
  rw [size_toArray,hlen]
  simp only [List.getElem?_toArray]
 have zl:=slicePick_size_le its.toArray l none k
 rw [ep,size_toArray,size_toArray] at zl
 rw [ep]
 have rv:=gA r (sliceRange (sliceBounds l none k xs.length).1 (sliceBounds l none k xs.length).2.1 (sliceBounds l none k xs.length).2.2)
 have rl:=rv.length
 refine ⟨.ref _,_,I4.laid (o:=.lst (iF xs l none k)) (λb ob q=>get?_push_of_some _ q) (Nat.le_refl _) ?_,rfl,q _ (I4.hok.fresh (Nat.le_refl _))⟩
 exact ⟨by unfold iF; omega,_,0,rv,get?_push_size _ rfl⟩
end
end L2
namespace L2
open PySem PySem.Spec PyProof.Rows
section
variable {prog:Program} {w:World} {A:Around} {E:Value->Shared->Prop} {s:Shared}
theorem g8 (hh:A.handled=none) (it l:Addr) (hne:l ≠ it) (items:Array Value) :
  Draws prog w A it [it,l] items.size (λi v=>items[i]? = some v) (λi h=>h.IsTupleIter it l i/\h.IsTuple l items) where
 live:=λ_ _ st=>let ⟨o,ho,_⟩:=st.1; ⟨o,ho⟩
 frame:=λ_ _ _ st hk=>by
  obtain ⟨⟨o,ho,r⟩,⟨o',ho',r'⟩⟩:=st
  exact ⟨⟨o,hk it (by simp) o ho,r⟩,⟨o',hk l (by simp) o' ho',r'⟩⟩
 item:=λi s Q E hi st hQ=>by
  refine cV st.1 st.2 (x:=items[i]) (by simp [hi]) λh' hit' hs'=>?_
  exact hQ _ h' s.toks (by simp [hi]) ⟨hit',st.2.extBut hs'.extBut hne⟩ hs'
 done:=λs Q E st hE=>dj hh st.1 st.2 (by simp) hE
open AutoSeq1 (wpAny_loadPart') in
theorem iY (l:Addr) (items:Array Value) (n:Nat) (dct:Option Addr) (sl:Array (Option Value)) :
  Meets (Builtin.«enumerate.__new__» ⟨[.type "enumerate",.ref l],[]⟩) (λ_ R s=>s.heap.get? l=some { cls:=.type "tuple",dict:=dct,data:=.seq items n,slots:=sl }/\
   R (.ok (.ret (.ref (s.heap.push { cls:=.type "tuple_iterator",data:=.fields #[.ref l,.int 0 0] }).objs.size)))
    { s with heap:=(s.heap.push { cls:=.type "tuple_iterator",data:=.fields #[.ref l,.int 0 0] }).push { cls:=.type "enumerate",data:=.fields #[.none,.bool false,.ref s.heap.objs.size,rawInt 0,.none,.none] } }):=
 .of_wp λprog w A R s h=>by
  obtain ⟨hp,g,d,tk,os⟩:=s; obtain ⟨hl,h⟩:=h
  have hsub:=sub_enumerate
  have hL:Heap.IsTuple (Shared.heap ⟨hp,g,d,tk,os⟩) l items:=⟨_,hl,rfl,n,rfl⟩
  wp_walk using wpAny_loadPart' hl
  refine wpAny_stack_any λst=>wpAny_pure ?_
  split
  ·rename_i c _ _ _ _ _
   cases (c == Value.type "enumerate")
   ·wp_walk using wpAny_loadPart' hl,wpAny_pyIter_tuple hL
    exact ⟨_,rfl,h⟩
   ·wp_walk using wpAny_loadPart' hl,wpAny_pyIter_tuple hL
    exact ⟨_,rfl,h⟩
  ·wp_walk using wpAny_loadPart' hl,wpAny_pyIter_tuple hL
   exact ⟨_,rfl,h⟩
theorem fH {l:Addr} {items:Array Value} {Q:Value->Shared->Prop} (hL:s.heap.IsTuple l items)
  (h:∀ h',IsEnum h' (s.heap.objs.size+1) s.heap.objs.size 0 .none->h'.IsTupleIter s.heap.objs.size l 0->h'.objs.size=s.heap.objs.size+2->
   (∀ b o,s.heap.get? b=some o->h'.get? b=some o)->Q (.ref (s.heap.objs.size+1)) { s with heap:=h' }) :
  wpAny (model prog w) A (call (.type "enumerate") [.ref l]) Q E s:=by
 obtain ⟨⟨c,dct,dt,sl⟩,hl,hc,n,hd⟩:=hL
 replace hc:c=.type "tuple":=hc
 replace hd:dt=.seq items n:=hd
 subst hc hd
 refine callType_new F.called_enumerate (by decide) (F.typeCall_enumerate_1 _) (F.newCall_enumerate_1 _) (λobj=>F.args_object_init_2 obj _) F.entry_enumerate_new
  (iY l items n dct sl) ⟨hl,?_⟩
 have hz:(s.heap.push { cls:=.type "tuple_iterator",data:=.fields #[.ref l,.int 0 0] }).objs.size=s.heap.objs.size+1:=size_push ..
 show _/\_
 rw [hz]
 have he:IsEnum ((s.heap.push { cls:=.type "tuple_iterator",data:=.fields #[.ref l,.int 0 0] }).push
   { cls:=.type "enumerate",data:=.fields #[.none,.bool false,.ref s.heap.objs.size,rawInt 0,.none,.none] }) (s.heap.objs.size+1) s.heap.objs.size 0 .none:=by
  have:=get?_push_size (s.heap.push { cls:=.type "tuple_iterator",data:=.fields #[.ref l,.int 0 0] })
   (o:={ cls:=.type "enumerate",data:=.fields #[.none,.bool false,.ref s.heap.objs.size,rawInt 0,.none,.none] }) rfl
  rw [hz] at this; exact this
 refine ⟨⟨_,he,rfl⟩,h _ he ⟨_,get?_push_of_some _ (get?_push_size _ rfl),rfl,rfl⟩ (by rw [size_push,hz]) λb o x=>get?_push_of_some _ (get?_push_of_some _ x)⟩
end
def IteT (K:Frag) (a:Addr):It:=
 ⟨λi H=>∃ xs x,SqT K H a xs/\xs[i]? = some x,
  λi H v H'=>∃ p x,v=.ref p/\H p=none/\H'=upd H p (.tup [.int i,x])/\∀ xs,SqT K H a xs->xs[i]? = some x,
  λi H=>∃ xs,SqT K H a xs/\xs.length=i⟩
theorem turn_enumT {P:Program} {w:World} {K:Frag} {es:List Expr} {ek:Nat} {ep:Pos} (a e it:Addr) (hne:e ≠ it) :
  kz P w K (.Tuple es ek ep) (IteT K a) [e,it] e (λi h=>(∃ old,IsEnum h e it ((i:Nat):Int) old)/\h.IsTupleIter it a i) where
 mem:=by simp
 obj:=λi h ⟨⟨old,he⟩,hi⟩ c hc=>by
  simp only [mem_cons,not_mem_nil,or_false] at hc
  rcases hc with rfl | rfl
  ·exact ⟨_,he,λv z=>by cases z⟩
  ·obtain ⟨o,ho,_,d⟩:=hi
   exact ⟨o,ho,λv z=>by rw [d] at z; cases z⟩
 keep:=λi h h' ⟨⟨old,he⟩,hi⟩ k=>⟨⟨old,k e (by simp) _ he⟩,hi.at λo q=>k it (by simp) o q⟩
 item:=by
  intro X hP hw hK hc i pins s σ H E I hf st hg
  subst hP hw hK
  obtain ⟨xs,x,qx,hx⟩:=hg
  obtain ⟨⟨old,he⟩,hi⟩:=st
  obtain ⟨ix,rx,px,zx⟩:=I.tuple qx
  obtain ⟨u,hu,ru⟩:=rx.get hx
  have na:=dA (t:=true) I hf qx
  simp only [mem_cons,not_mem_nil,or_false,not_or] at na
  have hix:i<ix.toArray.size:=by
   rw [size_toArray]
   exact (List.getElem?_eq_some_iff.mp hu).1
  refine wpAny_pyNext_enum_itemD (g8 (A:=X.A.in1) (I.ok.hd hc) it a na.2 ix.toArray) he ⟨hi,px⟩ hix hne (by simp only [mem_cons,not_mem_nil,or_false,not_or]; exact ⟨hne,λz=>na.1 z.symm⟩) λu' h' tk hu' a1 a2 a3 a4 hk=>?_
  have eu:u'=u:=by
   have:ix[i]? = some u':=by simpa using hu'
   rw [hu] at this
   injection this with this
   exact this.symm
  subst eu
  refine ⟨_,rfl,wpAny_letOwnedTupleGo_enum a1 λh'' he'' sb=>?_⟩
  have lt2:∀ c ∈ [e,it],c<s.heap.objs.size:=λc hc=>by
   simp only [mem_cons,not_mem_nil,or_false] at hc
   rcases hc with rfl | rfl
   ·exact lt_size he
   ·obtain ⟨o,ho,_⟩:=hi; exact lt_size ho
  have nT:s.heap.objs.size ∉ [e,it]:=λhc=>absurd (lt2 _ hc) (Nat.lt_irrefl _)
  have kk:∀ c o,c ∉ [e,it]->s.heap.get? c=some o->h''.get? c=some o:=λc o hc q=>by
   simp only [mem_cons,not_mem_nil,or_false,not_or] at hc
   exact (sb.2 c hc.1).trans (hk c o hc.1 hc.2 q)
  have hT:h''.get? s.heap.objs.size=some { cls:=.type "tuple",data:=.seq #[.int i tk,u'] }:=(sb.2 _ (λz=>nT (by simp [z]))).trans a3
  have fresh:H s.heap.objs.size=none:=I.hok.fresh (Nat.le_refl _)
  have gT:(s.heap.push { cls:=.type "tuple",data:=.seq #[.int i tk,u'] }).get? s.heap.objs.size=some { cls:=.type "tuple",data:=.seq #[.int i tk,u'] }:=get?_push_size _ rfl
  have I1:Inv X pins σ (upd H s.heap.objs.size (.tup [.int i,x])) { s with heap:=s.heap.push { cls:=.type "tuple",data:=.seq #[.int i tk,u'] },toks:=tk+1 }:=
   I.laid (λb o q=>get?_push_of_some _ q) (Nat.le_refl _) ⟨by show 2<=sizeLine; decide,[.int i tk,u'],.cons ⟨_,rfl⟩ (.cons ru .nil),_,gT,rfl,_,rfl⟩
  have fp1:∀ c ∈ [e,it],fN X pins (upd H s.heap.objs.size (.tup [.int i,x])) c:=λc hc=>
   ⟨by rw [au (Nat.ne_of_lt (lt2 c hc))]; exact (hf c hc).1,(hf c hc).2⟩
  have I2:=I1.turnedN (h':=h'') (t':=tk+1) (fp:=[e,it]) (λc o hc q=>by
   rcases Heap.get?_push_cases q with ⟨e1,e2⟩ | e1
   ·rw [e1,e2]
    exact hT
   ·exact kk c o hc e1) fp1
  refine ⟨.ref s.heap.objs.size,_,I2,rfl,⟨_,x,rfl,fresh,rfl,λxs' q=>by rw [I.tuple_inj q qx]; exact hx⟩,⟨⟨u',?_⟩,a2.1.at λo q=>(sb.2 it hne.symm).trans q⟩,λc hc=>(fp1 c hc).1⟩
  have e1:((i+1:Nat):Int)=(i:Int)+1:=by push_cast; rfl
  rw [e1]
  exact he''
 done:=by
  intro X hP hw hK hc i pins s σ H E I hf st hg
  subst hP hw hK
  obtain ⟨xs,qx,hend⟩:=hg
  obtain ⟨⟨old,he⟩,hi⟩:=st
  obtain ⟨ix,rx,px,zx⟩:=I.tuple qx
  have lx:=rx.length
  have na:=dA (t:=true) I hf qx
  simp only [mem_cons,not_mem_nil,or_false,not_or] at na
  have en:ix.toArray.size=i:=by rw [size_toArray]; omega
  refine wpAny_pyNext_enum_endD (g8 (A:=X.A.in1) (I.ok.hd hc) it a na.2 ix.toArray) he (by rw [en]; exact ⟨hi,px⟩) λh' eb=>⟨rfl,I.turnedN (fp:=[e,it]) (t':=s.toks) (λc o hc q=>?_) hf⟩
  simp only [mem_cons,not_mem_nil,or_false,not_or] at hc
  exact eb c o hc.2 q
 self:=λ_ _ _ _ _ st h=>by
  obtain ⟨⟨old,he⟩,_⟩:=st
  exact wpAny_pyIter_enum he h
def iEnumT (K:Frag) (ta:TA):TI:=λσ H R=>ta σ H λvs H1=>∃ a,vs=[.ref a]/\(∃ xs,SqT K H1 a xs)/\R (IteT K a) H1
theorem kpi_enumT {X:Cx} (K:Frag) {es:List Expr} {ek:Nat} {ep:Pos} {a:Expr} {ta:TA} {p pos:Pos} (hK:X.K=K) (hg:Gl X "enumerate") (hm:X.mg "enumerate" = none) (ha:PA X [a] ta) (hs:starEach [a] X.env=[(false,eval a X.env)]:=by rfl) :
  PI X (.Tuple es ek ep) (.Call (.Name "enumerate" p) [a] [] pos) (iEnumT K ta):=by
 subst hK
 intro pins s σ H R I h
 refine Call_ (eR I hg hm boot_enumerate (PyProof.Rows.callWith_type1 (thn (ha pos pins s σ H _ I h) λus s1 ⟨vs,H1,I1,r1,q1⟩=>?_) hs rfl))
 obtain ⟨l,e,⟨xs,qx⟩,q⟩:=q1
 subst e
 cases r1 with
 | cons r rr=>
  cases rr
  cases r
  obtain ⟨ix,rx,px,zx⟩:=I1.tuple qx
  refine fH px λh' a1 a2 a3 a4=>?_
  have I2:Inv X pins σ H1 { s1 with heap:=h',toks:=s1.toks }:=I1.kept a4
  refine wpAny_pyIter_enum (s:={ s1 with heap:=h' }) a1 ?_
  refine ⟨_,[s1.heap.objs.size+1,s1.heap.objs.size],_,_,H1,rfl,I2,turn_enumT l (s1.heap.objs.size+1) s1.heap.objs.size (Nat.succ_ne_self _),⟨⟨.none,a1⟩,a2⟩,λb hb=>?_,q⟩
  have hb':s1.heap.objs.size<=b:=by
   simp only [mem_cons,not_mem_nil,or_false] at hb
   rcases hb with rfl | rfl
   ·exact Nat.le_add_right _ _
   ·exact Nat.le_refl _
  exact I1.fpOk hb' (I1.hok.fresh hb')
theorem for_enumT {K:Frag} {a:Addr} {xs:List V} {g:TG} {tb:TS} {D:fP} {σ:St} {H:Hp} (Pv:Nat->St->Hp->Prop) (h0:Pv 0 σ H) (hl:∀ i σ H,i<=xs.length->Pv i σ H->SqT K H a xs)
  (hs:∀ i x σ H p,xs[i]? = some x->Pv i σ H->H p=none->g (.ref p) σ (upd H p (.tup [.int i,x])) λσ2 H2=>tb { D with nx:=Pv (i+1),ct:=Pv (i+1),bk:=D.nx } σ2 H2) (hd:∀ σ H,Pv xs.length σ H->D.nx σ H) :
  ∃ W:Nat->Nat->St->Hp->Prop,(∃ m,W 0 m σ H)/\∀ i m σ H,W i m σ H->
   ((IteT K a).stop i H/\D.nx σ H)\/((IteT K a).go i H/\∃ N:St->Hp->Prop,(∀ σ' H',N σ' H'->∃ m',m' < m/\W (i+1) m' σ' H')/\∀ x H',(IteT K a).yld i H x H'->g x σ H' λσ2 H2=>tb { D with nx:=N,ct:=N,bk:=D.nx } σ2 H2):=by
 refine ⟨λi m σ H=>m=xs.length-i/\i<=xs.length/\Pv i σ H,⟨xs.length,by simp,Nat.zero_le _,h0⟩,?_⟩
 rintro i m σ H ⟨rfl,hi,p⟩
 have q:=hl i σ H hi p
 by_cases hlt:i<xs.length
 ·refine .inr ⟨⟨xs,xs[i],q,by simp [hlt]⟩,Pv (i+1),λσ' H' p'=>⟨xs.length-(i+1),by omega,rfl,hlt,p'⟩,λx H' y=>?_⟩
  obtain ⟨l,x1,rfl,hl1,rfl,y⟩:=y
  exact hs i x1 σ _ l (y xs q) p hl1
 ·have e:i=xs.length:=by omega
  subst e
  exact .inl ⟨⟨xs,q,rfl⟩,hd σ H p⟩
section
variable {X:Cx} {e:Expr} {te:TE} {p pos:Pos}
theorem pl_lenT (T:Blt X.mg) (ha:PE X e te) (hg:Gl X "len":=by rfl) (hs:starEach [e] X.env=[(false,eval e X.env)]:=by rfl):PE X (.Call (.Name "len" p) [e] [] pos) (tCB (λxs H Q=>∃ z:Str,xs=[.str z]/\z.length<=sizeLine/\Q (.int z.length) H) (cc te er)):=
 cI kT hg T.len PySem.boot_len (aa ha ag hs) (by decide) (by decide) hs
end
end L2
set_option exponentiation.threshold 9000
namespace K
open PySem L2 PyProof.Rows
variable {P:Program} {w:World} {K:Frag} {mg:Str->Option Value} {base:Heap}
def top (i:Nat):Stmt:=PySem.Challenge.pw_relationladder_k52_sums_written.main.body.getD i (.Pass ⟨0,0,0,0⟩)
abbrev aR:Stmt:=inClass (top 10) 0
abbrev aH:Stmt:=inClass (top 10) 2
abbrev aW:Stmt:=inClass (top 10) 3
abbrev aS:Stmt:=inClass (top 10) 5
abbrev aX:Stmt:=inClass (top 11) 0
abbrev bq:Stmt:=inClass (top 11) 1
abbrev aT:Stmt:=inClass (top 11) 3
abbrev bB:Stmt:=inClass (top 11) 4
abbrev bt:Stmt:=inClass (top 11) 6
abbrev fu:Stmt:=top 12
abbrev bJ:Stmt:=top 13
abbrev gu:Stmt:=top 14
abbrev iX:Stmt:=top 16
abbrev iC:Stmt:=top 17
abbrev bb:Stmt:=inClass (top 20) 0
abbrev bj:Stmt:=inClass (top 20) 1
abbrev bo:Stmt:=inClass (top 20) 2
abbrev iq:Stmt:=top 21
abbrev fx:Stmt:=top 25
abbrev bQ:Stmt:=top 26
abbrev cD:Stmt:=top 27
abbrev eO:Stmt:=top 28
abbrev dc:Stmt:=top 29
abbrev cu:Stmt:=top 30
abbrev cF:Stmt:=top 31
abbrev fA:Stmt:=top 32
abbrev dF:Stmt:=top 33
abbrev ck:Stmt:=top 34
abbrev dI:Stmt:=top 35
abbrev eX:Stmt:=top 36
abbrev dL:Stmt:=top 37
abbrev cj:Stmt:=top 38
abbrev cJ:Stmt:=top 39
abbrev cq:Stmt:=top 40
abbrev et:Stmt:=top 42
abbrev fE:Stmt:=top 43
abbrev eV:Stmt:=top 44
abbrev dQ:Stmt:=top 45
abbrev cZ:Stmt:=top 46
abbrev dO:Stmt:=top 47
abbrev ft:Stmt:=top 48
abbrev cr:Stmt:=top 49
abbrev dE:Stmt:=top 50
abbrev cH:Stmt:=top 51
abbrev eC:Stmt:=top 52
abbrev db:Stmt:=top 53
abbrev eI:Stmt:=top 54
abbrev de:Stmt:=top 55
abbrev cL:Stmt:=top 56
abbrev fG:Stmt:=top 57
abbrev fM:Stmt:=top 58
abbrev bL:Stmt:=top 59
abbrev cp:Stmt:=top 60
abbrev bM:Stmt:=top 61
abbrev bF:Stmt:=top 62
abbrev cm:Stmt:=top 63
abbrev eA:Stmt:=top 64
abbrev eB:Stmt:=top 65
abbrev s_law:Stmt:=top 66
theorem nd_0:(["_law_part", "_law_number_here"]:List Str).Nodup:=by decide +kernel
theorem nd_1:(["_law_product_here", "_law_come", "_law_prime_here"]:List Str).Nodup:=by decide +kernel
def CDivA (_ j:Int):Prop:=j ≠ 0/\j.natAbs<2 ^ 8800
theorem CDivA.ok {i j:Int} (h:CDivA i j):Builtin.divisionGoesByPylong i j=false:=by
 refine PyProof.noPylong_of_log2 ?_
 by_cases h0:j.natAbs=0
 ·rw [h0]; decide +kernel
 ·have h30:j.natAbs.log2<8800:=(Nat.log2_lt h0).mpr h.2
  omega
theorem cf {X:Cx}:OpR X (binaryOp .FloorDiv) (rI CDivA λi j=>.int (i.fdiv j)):=opI λ_ _ _ _ _ _ _ hc q=>floordiv_int hc.1 q (.inl hc.ok)
theorem mulOk {i j:Int} (hi:i.natAbs<2 ^ 8800) (hj:j.natAbs<2 ^ 8800):IntMulOk i j:=by
 have bits:∀ {k:Int},k.natAbs<2 ^ 8800->Builtin.Int.intBits k<=8800:=λ{k} h=>by
  unfold Builtin.Int.intBits
  split
  ·omega
  ·rename_i h0
   have h0':k.natAbs ≠ 0:=by intro z; apply h0; simp; omega
   have:=(Nat.log2_lt h0').mpr h
   omega
 have h1:=bits hi
 have h2:=bits hj
 unfold IntMulOk
 have h3:Builtin.Int.intTooBig ((Builtin.Int.intBits i:Int)+Builtin.Int.intBits j)=false:=by
  unfold Builtin.Int.intTooBig
  rw [decide_eq_false_iff_not]
  have:bitsLine=2 ^ 27:=rfl
  rw [this]
  omega
 rw [h3]
 simp
theorem gQ {K:Frag} {a:Addr} {xs:List V} {g:TG} {tb:TS} {D:fP} {σ:L2.St} {H:Hp} (Pv:Nat->L2.St->Hp->Prop) (h0:Pv 0 σ H) (hl:∀ i σ H,i<=xs.length->Pv i σ H->SqL K H a xs)
  (hs:∀ i x σ H,xs[i]? = some x->Pv i σ H->∀ N B:L2.St->Hp->Prop,(∀ σ' H',Pv (i+1) σ' H'->N σ' H')->g x σ H λσ2 H2=>tb { nx:=N,ct:=N,bk:=B,rt:=D.rt } σ2 H2) (hd:∀ σ H,Pv xs.length σ H->D.nx σ H) :
  ∃ W:Nat->Nat->L2.St->Hp->Prop,(∃ m,W 0 m σ H)/\∀ i m σ H,W i m σ H->
   ((Itl K a).stop i H/\D.nx σ H)\/((Itl K a).go i H/\∃ N:L2.St->Hp->Prop,(∀ σ' H',N σ' H'->∃ m',m' < m/\W (i+1) m' σ' H')/\∀ x H',(Itl K a).yld i H x H'->g x σ H' λσ2 H2=>tb { D with nx:=N,ct:=N,bk:=D.nx } σ2 H2):=
 f8 Pv h0 hl (λi x σ H e p=>hs i x σ H e p _ _ λ_ _ z=>z) hd
theorem dR {lo:Int} {n:Nat} {g:TG} {tb:TS} {D:fP} {σ:L2.St} {H:Hp} (Pv:Nat->L2.St->Hp->Prop) (h0:Pv 0 σ H)
  (hs:∀ i σ H,i<n->Pv i σ H->∀ N B:L2.St->Hp->Prop,(∀ σ' H',Pv (i+1) σ' H'->N σ' H')->g (.int (lo+i)) σ H λσ2 H2=>tb { nx:=N,ct:=N,bk:=B,rt:=D.rt } σ2 H2) (hd:∀ σ H,Pv n σ H->D.nx σ H) :
  ∃ W:Nat->Nat->L2.St->Hp->Prop,(∃ m,W 0 m σ H)/\∀ i m σ H,W i m σ H->
   ((Itr lo n).stop i H/\D.nx σ H)\/((Itr lo n).go i H/\∃ N:L2.St->Hp->Prop,(∀ σ' H',N σ' H'->∃ m',m' < m/\W (i+1) m' σ' H')/\∀ x H',(Itr lo n).yld i H x H'->g x σ H' λσ2 H2=>tb { D with nx:=N,ct:=N,bk:=D.nx } σ2 H2):=
 e7 Pv h0 (λi σ H e p=>hs i σ H e p _ _ λ_ _ z=>z) hd
theorem for_zipN {t1 t2:Bool} {K:Frag} {a b:Addr} {xs ys:List V} {g:TG} {tb:TS} {D:fP} {σ:L2.St} {H:Hp} (Pv:Nat->L2.St->Hp->Prop) (h0:Pv 0 σ H) (hl:∀ i σ H,i<=min xs.length ys.length->Pv i σ H->SqV t1 K H a xs/\SqV t2 K H b ys)
  (hs:∀ (i:Nat) x y σ H p,xs[i]? = some x->ys[i]? = some y->Pv i σ H->H p=none->∀ N B:L2.St->Hp->Prop,(∀ σ' H',Pv (i+1) σ' H'->N σ' H')->g (.ref p) σ (upd H p (.tup [x,y])) λσ2 H2=>tb { nx:=N,ct:=N,bk:=B,rt:=D.rt } σ2 H2) (hd:∀ σ H,Pv (min xs.length ys.length) σ H->D.nx σ H) :
  ∃ W:Nat->Nat->L2.St->Hp->Prop,(∃ m,W 0 m σ H)/\∀ i m σ H,W i m σ H->
   ((Itz t1 t2 K a b).stop i H/\D.nx σ H)\/((Itz t1 t2 K a b).go i H/\∃ N:L2.St->Hp->Prop,(∀ σ' H',N σ' H'->∃ m',m' < m/\W (i+1) m' σ' H')/\∀ x H',(Itz t1 t2 K a b).yld i H x H'->g x σ H' λσ2 H2=>tb { D with nx:=N,ct:=N,bk:=D.nx } σ2 H2):=
 for_zip Pv h0 hl (λi x y σ H p e1 e2 q n=>hs i x y σ H p e1 e2 q n _ _ λ_ _ z=>z) hd
theorem aP {j:Int} (h:0<=j) (h2:j<2 ^ 63):j.natAbs<2 ^ 8800:=by
 have h3:j.natAbs<2 ^ 63:=by omega
 exact Nat.lt_of_lt_of_le h3 (Nat.pow_le_pow_right (by decide) (by decide))
theorem fT {i j:Int} (h:0<j) (h2:j<2 ^ 63):CDivA i j:=⟨by omega,aP (by omega) h2⟩
theorem at_int (ns:List Int) {k:Int} (h0:0<=k) (h1:k<ns.length):∃ z,atI (ns.map V.int) k=some (V.int z):=by
 obtain ⟨n,rfl⟩:=Int.eq_ofNat_of_zero_le h0
 have hn:n<ns.length:=by omega
 exact ⟨ns[n],ay (by rw [getElem?_map,getElem?_eq_getElem hn]; rfl)⟩
def spCell (K:Frag):Sp:=λvs H Q _=>∃ (a:Addr) (ns:List Int) (k:Int),vs=[.ref a,.int k]/\SqL K H a (ns.map V.int)/\ns.length<=63/\0<=k/\k<=100/\∀ r:Int,Q (.int r) H
def fo (a b:Int):Int:=(a*48271+7919*b*b+17) % 2147483647
def lI (a b:Int) (k:Nat):Prop:=b=0\/(0<=a/\a<2147483647/\0<b/\b<=k)
def spBag (K:Frag):Sp:=λvs H Q _=>∃ (a:Addr) (ns:List Int) (k:Int),vs=[.ref a,.int k]/\SqL K H a (ns.map V.int)/\ns.length<=63/\0<=k/\k<=99/\
 ∀ (p:Addr) (a b:Int),H p=none->lI a b 100->Q (.ref p) (upd H p (.lst [.int a,.int b]))
def eP:Sp:=λvs H Q _=>∃ (p:Addr) (a b m:Int) (k:Nat),vs=[.ref p,.int m]/\H p=some (.lst [.int a,.int b])/\lI a b k/\k<=1000000/\0<m/\m.natAbs<2 ^ 8800/\
 ∀ r a' b',0<=r->r<m->lI a' b' (k+1)->Q (.int r) (upd H p (.lst [.int a',.int b']))
theorem md:kX ["_law_script", "_law_k", "_law_seed", "_law_some_here"] ["_law_script", "_law_k"] (aj et):=.i
theorem ok_cell {f:Addr} {fd:FuncData} (F:Fun K "_law_cell" "_law_cell" et f fd) (T:Blt mg):kZ P w K mg base CX0 1 f fd ["_law_script", "_law_k"] (spCell K):=by
 refine F.o md λ_ _ _ _ H _ Q _ hr h=>?_
 ·obtain ⟨a,ns,k,rfl,hS,hl,hk0,hk1,q⟩:=h
  have hln:((ns.map V.int).length:Int)=ns.length:=by rw [length_map]
  refine ⟨_,(ae (aG (aq dY (pv 1) (cx K T (pv 0)) (ao _))
(ah (al (aA (aK K rfl) (pv 0) (pv 1) (λ_ _=>rfl))))
aw)
(ae (ak (i:=2) md.nd rfl (Or.inl rfl) (am bf (pv 1) ac))
(ae (aG (aq cg (cx K T (pv 0)) ac (ao _))
(ah (ak (i:=2) md.nd rfl (Or.inl rfl) (am bi (pv 2) (am bn (aA (aK K rfl) (pv 0) (am bn (pv 1) (cx K T (pv 0))) (λ_ _=>rfl)) ac))))
aw)
(ae (ak (i:=3) md.nd rfl (Or.inl rfl) (am bn (am bf (pv 2) ac) ac))
(ah (al (am bn (am cf (am bf (pv 3) (am bi (am bi (pv 3) (am bf ac (pv 1))) ac)) ac) ac))))))),?_⟩
  refine ⟨_,rfl,_,rfl,a,_,rfl,.inl hS,_,_,rfl,rfl,_,rfl,?_⟩
  refine aY (λh=>?_) (λh=>?_)
  ·have h':k<ns.length:=by have:=of_decide_eq_true h; omega
   obtain ⟨z,hz⟩:=at_int ns hk0 h'
   exact ⟨_,rfl,_,rfl,a,_,_,_,rfl,rfl,hS,hz,q _⟩
  ·refine ⟨_,rfl,_,_,rfl,rfl,.inl ⟨by omega,by omega⟩,?_⟩
   refine ⟨_,rfl,a,_,rfl,.inl hS,_,_,rfl,rfl,_,rfl,?_⟩
   have fin:∀ sd:Int,(0:Int)<=sd*48271 % 65537/\sd*48271 % 65537<65537:=λsd=>⟨Int.emod_nonneg _ (by decide),Int.emod_lt_of_pos _ (by decide)⟩
   refine aY (λh=>?_) (λh=>?_)
   ·have h':0<(ns.length:Int):=by have:=of_decide_eq_true h; omega
    obtain ⟨z,hz⟩:=at_int ns (k:=k % ((ns.map V.int).length:Int)) (Int.emod_nonneg _ (by omega)) (by have:=Int.emod_lt_of_pos k (b:=((ns.map V.int).length:Int)) (by omega); omega)
    refine ⟨_,rfl,_,rfl,_,rfl,_,rfl,a,_,rfl,.inl hS,_,_,rfl,rfl,(by show (0:Int)<_; omega),a,_,_,_,rfl,rfl,hS,hz,_,_,rfl,rfl,(by show (0:Int)<65537; decide),_,_,rfl,rfl,?_⟩
    have f1:=fin (k*7919+z % 65537)
    refine ⟨_,rfl,_,_,rfl,rfl,.inr ⟨by decide,by decide⟩,_,_,rfl,rfl,(by show (0:Int)<65537; decide),?_⟩
    exact ⟨_,rfl,_,rfl,_,rfl,_,_,rfl,rfl,.inl ⟨by decide,by decide⟩,_,_,rfl,rfl,_,_,rfl,rfl,_,_,rfl,rfl,.inl ⟨Int.lt_of_lt_of_le (by decide) f1.1,Int.lt_of_lt_of_le f1.2 (by decide)⟩,_,_,rfl,rfl,fT (by decide) (by decide),_,_,rfl,rfl,(by show (0:Int)<65521; decide),q _⟩
   ·have f1:=fin (k*7919)
    refine ⟨_,rfl,_,_,rfl,rfl,.inr ⟨by decide,by decide⟩,_,_,rfl,rfl,(by show (0:Int)<65537; decide),?_⟩
    exact ⟨_,rfl,_,rfl,_,rfl,_,_,rfl,rfl,.inl ⟨by decide,by decide⟩,_,_,rfl,rfl,_,_,rfl,rfl,_,_,rfl,rfl,.inl ⟨Int.lt_of_lt_of_le (by decide) f1.1,Int.lt_of_lt_of_le f1.2 (by decide)⟩,_,_,rfl,rfl,fT (by decide) (by decide),_,_,rfl,rfl,(by show (0:Int)<65521; decide),q _⟩
theorem sc__law_bag:kX ["_law_script", "_law_at", "_law_cell_here"] ["_law_script", "_law_at"] (aj fE):=.i
theorem ok_bag {f:Addr} {fd:FuncData} (F:Fun K "_law_bag" "_law_bag" fE f fd) (rg:FnB P w K mg base 1 "_law_cell" (spCell K)):kZ P w K mg base CX0 2 f fd ["_law_script", "_law_at"] (spBag K):=by
 refine F.o sc__law_bag λ_ _ _ _ H _ Q _ hr h=>?_
 ·obtain ⟨a,ns,k,rfl,hS,hl,hk0,hk1,q⟩:=h
  refine ⟨_,(ae (ak (i:=2) sc__law_bag.nd rfl (Or.inl rfl) (aB rg hr.m (aa (pv 0) (aa (pv 1) ag))))
(ae (aG (PW.pt (dw (aq op_ge (pv 2) (am dM ac ac) (ao _)) (dW (aq op_le (pv 2) (j3 gs (am dM ac ac)) (ao _)))))
(ah (al (aV (aa (pv 2) (aa ac ag)))))
aw)
(ah (al (aV (aa (am bn (pv 2) ac) (aa (am bi (pv 1) ac) ag))))))),?_⟩
  refine ⟨_,rfl,_,rfl,a,ns,k,rfl,hS,hl,hk0,by omega,λr=>?_⟩
  refine ⟨_,rfl,_,_,rfl,rfl,⟨by decide,by decide,by decide⟩,_,_,rfl,rfl,_,rfl,?_⟩
  have f1:(0:Int)<=r % 2147483647/\r % 2147483647<2147483647:=⟨Int.emod_nonneg _ (by decide),Int.emod_lt_of_pos _ (by decide)⟩
  refine aY (λh=>?_) (λh=>?_)
  ·refine bG ?_
   exact ⟨_,rfl,by show 2<=sizeLine; decide,λp hp=>q p r 0 hp (.inl rfl)⟩
  ·refine ⟨_,rfl,_,_,rfl,rfl,⟨by decide,by decide,by decide⟩,_,rfl,_,_,rfl,rfl,_,rfl,?_⟩
   refine aY (λh=>?_) (λh=>?_)
   ·exact ⟨_,rfl,by show 2<=sizeLine; decide,λp hp=>q p r 0 hp (.inl rfl)⟩
   ·exact ⟨_,rfl,_,_,rfl,rfl,(by show (0:Int)<2147483647; decide),_,rfl,_,_,rfl,rfl,by show 2<=sizeLine; decide,λp hp=>q p _ _ hp (.inr ⟨f1.1,f1.2,by omega,by omega⟩)⟩
theorem sc__law_take:kX ["_law_bag_here", "_law_many", "_law_some_here"] ["_law_bag_here", "_law_many"] (aj eV):=.i
theorem ok_take {f:Addr} {fd:FuncData} (F:Fun K "_law_take" "_law_take" eV f fd):kZ P w K mg base CX0 1 f fd ["_law_bag_here", "_law_many"] eP:=by
 refine F.o sc__law_take λ_ _ _ _ H _ Q _ hr h=>?_
 ·obtain ⟨p,a,b,m,k,rfl,hp,hb,hk,hm,hm2,q⟩:=h
  refine ⟨_,(ae (aG (aq a9 (aA (aK K rfl) (pv 0) ac (λ_ _=>rfl)) ac (ao _))
(ae (ak (i:=2) sc__law_take.nd rfl (Or.inl rfl) (am bn (aA (aK K rfl) (pv 0) ac (λ_ _=>rfl)) (pv 1)))
(ae (kg (am cf (aA (aK K rfl) (pv 0) ac (λ_ _=>rfl)) (pv 1)) (ku (pv 0) ac f9))
(ah (al (pv 2)))))
aw)
(ae (kg (am bn (am bi (am bi (am bf (aA (aK K rfl) (pv 0) ac (λ_ _=>rfl)) ac) (am bf (am bf ac (aA (aK K rfl) (pv 0) ac (λ_ _=>rfl))) (aA (aK K rfl) (pv 0) ac (λ_ _=>rfl)))) ac) ac) (ku (pv 0) ac f9))
(ae (kg (am bi (aA (aK K rfl) (pv 0) ac (λ_ _=>rfl)) ac) (ku (pv 0) ac f9))
(ah (al (am bn (am bn (am bf (aA (aK K rfl) (pv 0) ac (λ_ _=>rfl)) ac) ac) (pv 1))))))),?_⟩
  have e0:∀ (a b:Int) (H':Hp),H' p=some (.lst [.int a,.int b])->SqL K H' p [.int a,.int b]:=λa b H' h=>SqL.of h
  refine ⟨_,rfl,p,_,_,_,rfl,rfl,e0 a b H hp,rfl,rfl,_,rfl,?_⟩
  refine aY (λh=>?_) (λh=>?_)
  ·have hb0:b=0:=by simpa using h
   refine ⟨_,rfl,p,_,_,_,rfl,rfl,e0 a b H hp,rfl,_,rfl,_,_,rfl,rfl,hm,?_⟩
   refine ⟨_,rfl,p,_,_,_,rfl,rfl,e0 a b H hp,rfl,_,rfl,_,_,rfl,rfl,⟨by omega,hm2⟩,_,rfl,p,_,_,_,rfl,rfl,hp,rfl,?_⟩
   refine ⟨_,rfl,?_⟩
   exact q _ _ _ (Int.emod_nonneg _ (by omega)) (Int.emod_lt_of_pos _ hm) (.inl hb0)
  ·have hb0:b ≠ 0:=by simpa using h
   rcases hb with z | ⟨a0,a1,b0,b1⟩
   ·exact absurd z hb0
   refine ⟨_,rfl,p,_,_,_,rfl,rfl,e0 a b H hp,rfl,_,_,rfl,rfl,.inl ⟨by omega,by omega⟩,_,rfl,p,_,_,_,rfl,rfl,e0 a b H hp,rfl,_,_,rfl,rfl,.inl ⟨by decide,by decide⟩,_,rfl,p,_,_,_,rfl,rfl,e0 a b H hp,rfl,_,_,rfl,rfl,.inr ⟨by omega,by omega⟩,_,_,rfl,rfl,_,_,rfl,rfl,_,_,rfl,rfl,(by show (0:Int)<2147483647; decide),_,rfl,p,_,_,_,rfl,rfl,hp,rfl,?_⟩
   have a0':0<=fo a b:=Int.emod_nonneg _ (by decide)
   have a1':fo a b<2147483647:=Int.emod_lt_of_pos _ (by decide)
   refine ⟨_,rfl,p,_,_,_,rfl,rfl,e0 (fo a b) b _ af,rfl,_,_,rfl,rfl,_,rfl,p,[.int (fo a b),.int b],_,_,rfl,rfl,af,rfl,?_⟩
   refine ⟨_,rfl,p,_,_,_,rfl,rfl,e0 (fo a b) (b+1) _ af,rfl,_,_,rfl,rfl,.inl ⟨by omega,by omega⟩,_,_,rfl,rfl,(by show (0:Int)<2147483629; decide),_,rfl,_,_,rfl,rfl,hm,?_⟩
   have e:upd (upd H p (.lst [.int (fo a b),.int b])) p (.lst [.int (fo a b),.int (b+1)])=upd H p (.lst [.int (fo a b),.int (b+1)]):=bX
   have z:=q (fo a b*69621 % 2147483629 % m) (fo a b) (b+1) (Int.emod_nonneg _ (by omega)) (Int.emod_lt_of_pos _ hm) (.inr ⟨a0',a1',by omega,by omega⟩)
   rw [<- e] at z
   exact z
def km (K:Frag):Sp:=λvs H Q _=>∃ (v:V) (t:Value) (b c:Bool),vs=[v]/\lR K H v t/\kitOne K t (.type "int")=some b/\kitOne K t (.type "bool")=some c/\Q (.bl (b && !c)) H
theorem lI.mono {a b:Int} {j k:Nat} (h:lI a b j) (hk:j<=k):lI a b k:=by
 rcases h with h | ⟨h1,h2,h3,h4⟩
 ·exact .inl h
 ·exact .inr ⟨h1,h2,h3,by omega⟩
theorem js:kX ["_law_found"] ["_law_found"] (aj dO):=.i
theorem ok_whole {f:Addr} {fd:FuncData} (F:Fun K "_law_whole" "_law_whole" dO f fd) (T:Blt mg):kZ P w K mg base CX0 1 f fd ["_law_found"] (km K):=by
 refine F.o js λ_ _ _ _ H _ Q _ hr h=>?_
 ·obtain ⟨v,t,b,c,rfl,ty,h1,h2,q⟩:=h
  refine ⟨_,(ah (al (fF (eK K T (pv 0) T.int br) (fI (pe_not (eK K T (pv 0) T.bool boot_bool')))))),?_⟩
  refine ⟨_,rfl,t,b,ty,h1,_,rfl,?_⟩
  cases b with
  | false=>exact be q
  | true=>exact bG ⟨_,rfl,t,c,ty,h2,_,rfl,q⟩
theorem sqvT {K:Frag} {H:Hp} {a:Addr} {xs:List V} (h:SqT K H a xs):SqV true K H a xs:=h
theorem sqvL {K:Frag} {H:Hp} {a:Addr} {xs:List V} (h:SqL K H a xs):SqV false K H a xs:=h
def v2 (f:Int->Int->V):V->V->V:=λx y=>match x,y with
 | .int i,.int j=>f i j
 | _,_=>.non
def v1 (f:Int->V):V->V:=λx=>match x with
 | .int i=>f i
 | _=>.non
theorem map_v1 (f:Int->V) (ns:List Int):(ns.map V.int).map (v1 f)=ns.map f:=by
 rw [map_map]; rfl
theorem j9 {ns:List Int} {i:Nat} {x:V} (h:(ns.map V.int)[i]? = some x):∃ z,ns[i]? = some z/\x=.int z:=by
 rw [getElem?_map] at h
 cases e:ns[i]? with
 | none=>rw [e] at h; cases h
 | some z=>rw [e] at h; exact ⟨z,rfl,(Option.some.inj h).symm⟩
theorem all_tt {α:Type}:∀ xs:List α,((xs.map λ_=>true).all id)=true
 | []=>rfl
 | _::r=>all_tt r
theorem eE:((10:Int) ^ (10:Int).toNat)=10000000000:=by decide +kernel
def j6:Sp:=λvs H Q _=>∃ (p:Addr) (a b:Int) (k:Nat),vs=[.ref p]/\H p=some (.lst [.int a,.int b])/\lI a b k/\k<=900000/\
 ∀ (r a' b':Int),0<=r->r<1000000000000000000000000000000->lI a' b' (k+3)->Q (.int r) (upd H p (.lst [.int a',.int b']))
def spSigned:Sp:=λvs H Q _=>∃ (p:Addr) (a b:Int) (k:Nat),vs=[.ref p]/\H p=some (.lst [.int a,.int b])/\lI a b k/\k<=800000/\
 ∀ (r a' b':Int),-1000000000000000000000000000000<r->r<1000000000000000000000000000000->lI a' b' (k+4)->Q (.int r) (upd H p (.lst [.int a',.int b']))
theorem sc__law_great:kX ["_law_bag_here", "_law_high"] ["_law_bag_here"] (aj dQ):=.i
theorem ok_great {f:Addr} {fd:FuncData} (F:Fun K "_law_great" "_law_great" dQ f fd) (mT:FnB P w K mg base 1 "_law_take" eP):kZ P w K mg base CX0 2 f fd ["_law_bag_here"] j6:=by
 refine F.o sc__law_great λ_ _ _ _ H _ Q _ hr h=>?_
 ·obtain ⟨p,a,b,k,rfl,hp,hb,hk,q⟩:=h
  refine ⟨_,(ae (ak (i:=1) sc__law_great.nd rfl (Or.inl rfl) (am bi (am bf (aB mT hr.m (aa (pv 0) (aa (am dM ac ac) ag))) (am dM ac ac)) (aB mT hr.m (aa (pv 0) (aa (am dM ac ac) ag)))))
(ah (al (am bi (am bf (pv 1) (am dM ac ac)) (aB mT hr.m (aa (pv 0) (aa (am dM ac ac) ag))))))),?_⟩
  refine ⟨_,rfl,_,_,rfl,rfl,⟨by decide,by decide,by decide⟩,p,a,b,_,k,rfl,hp,hb,by omega,by rw [eE]; decide,by rw [eE]; exact aP (by decide) (by decide),λr1 a1 b1 r10 r11 hb1=>?_⟩
  rw [eE] at r11
  refine ⟨_,_,rfl,rfl,⟨by decide,by decide,by decide⟩,_,_,rfl,rfl,.inl ⟨by omega,by omega⟩,?_⟩
  refine ⟨_,rfl,_,_,rfl,rfl,⟨by decide,by decide,by decide⟩,p,a1,b1,_,k+1,rfl,af,hb1,by omega,by rw [eE]; decide,by rw [eE]; exact aP (by decide) (by decide),λr2 a2 b2 r20 r21 hb2=>?_⟩
  rw [eE] at r21
  refine ⟨_,_,rfl,rfl,?_⟩
  refine ⟨_,rfl,_,_,rfl,rfl,⟨by decide,by decide,by decide⟩,_,_,rfl,rfl,.inr (by rw [eE]; exact ⟨by decide,by decide⟩),?_⟩
  refine ⟨_,rfl,_,_,rfl,rfl,⟨by decide,by decide,by decide⟩,p,a2,b2,_,k+2,rfl,af,hb2,by omega,by rw [eE]; decide,by rw [eE]; exact aP (by decide) (by decide),λr3 a3 b3 r30 r31 hb3=>?_⟩
  rw [eE] at r31
  refine ⟨_,_,rfl,rfl,?_⟩
  rw [bX,bX,eE]
  exact q _ a3 b3 (by omega) (by omega) hb3
theorem i3:kX ["_law_bag_here"] ["_law_bag_here"] (aj cZ):=.i
theorem ok_signed {f:Addr} {fd:FuncData} (F:Fun K "_law_signed" "_law_signed" cZ f fd) (mT:FnB P w K mg base 1 "_law_take" eP) (nY:FnB P w K mg base 2 "_law_great" j6):kZ P w K mg base CX0 3 f fd ["_law_bag_here"] spSigned:=by
 refine F.o i3 λ_ _ _ _ H _ Q _ hr h=>?_
 ·obtain ⟨p,a,b,k,rfl,hp,hb,hk,q⟩:=h
  refine ⟨_,(ah (al (am bf (am df (am bf ac (aB mT hr.m (aa (pv 0) (aa ac ag)))) ac) (aB nY hr.m (aa (pv 0) ag))))),?_⟩
  refine ⟨_,rfl,p,a,b,2,k,rfl,hp,hb,by omega,by decide,aP (by decide) (by decide),λr1 a1 b1 r10 r11 hb1=>?_⟩
  refine ⟨_,_,rfl,rfl,.inl ⟨by decide,by decide⟩,_,_,rfl,rfl,?_⟩
  refine ⟨_,rfl,p,a1,b1,k+1,rfl,af,hb1,by omega,λr2 a2 b2 r20 r21 hb2=>?_⟩
  refine ⟨_,_,rfl,rfl,.inl ⟨by omega,by omega⟩,?_⟩
  rw [bX]
  have h01:r1=0\/r1=1:=by omega
  refine q _ a2 b2 ?_ ?_ hb2
  ·rcases h01 with z | z<;>rw [z]<;>omega
  ·rcases h01 with z | z<;>rw [z]<;>omega
def spLow:Sp:=λvs H Q _=>∃ (a b:Int),vs=[.int a,.int b]/\b ≠ 0/\b.natAbs<2 ^ 8800/\∀ t,H t=none->Q (.ref t) (upd H t (.tup [.int (nrm a b).1,.int (nrm a b).2]))
theorem l3:kX ["_law_top", "_law_bottom", "_law_one", "_law_other"] ["_law_top", "_law_bottom"] (aj ft):=.i
theorem ok_low {f:Addr} {fd:FuncData} (F:Fun K "_law_low" "_law_low" ft f fd) (T:Blt mg):kZ P w K mg base CX0 1 f fd ["_law_top", "_law_bottom"] spLow:=by
 refine F.o l3 λ_ _ _ _ H _ Q _ hr h=>?_
 ·obtain ⟨a,b,rfl,hb,hbs,q⟩:=h
  refine ⟨_,(ae (ak (i:=2) l3.nd rfl (Or.inl rfl) (jb T (pv 0)))
(ae (ak (i:=3) l3.nd rfl (Or.inl rfl) (jb T (pv 1)))
(ae (eU PassesOwn.never (aq cg (pv 3) ac (ao _))
(ah (ps_par (i:=2) (j:=3) rfl l3.nd rfl rfl (by decide) rfl rfl (aa (pv 3) (aa (am bn (pv 2) (pv 3)) ag)) rfl)))
(ae (aG (aq dY (pv 1) ac (ao _))
(ah (ak (i:=2) l3.nd rfl (Or.inl rfl) (am df ac (pv 2))))
aw)
(ah (al (bE (aa (am cf (pv 0) (pv 2)) (aa (am cf (pv 1) (pv 2)) ag))))))))),?_⟩
  refine ⟨_,rfl,_,rfl,_,rfl,_,rfl,?_⟩
  refine el (λσ H'=>∃ x y:Nat,σ=[some (.int a),some (.int b),some (.int x),some (.int y)]/\H'=H/\Nat.gcd x y=Int.gcd a b) (λσ _=>match σ with | [_,_,_,some (.int y)]=>y.toNat | _=>0) ⟨a.natAbs,b.natAbs,?_,rfl,rfl⟩ ?_ ?_
  ·have e1:(if a<0 then -a else a)=(a.natAbs:Int):=by split<;>omega
   have e2:(if b<0 then -b else b)=(b.natAbs:Int):=by split<;>omega
   rw [e1,e2]
   rfl
  ·rintro σ H2 ⟨x,y,rfl,rfl,hg⟩
   refine ⟨_,rfl,_,_,rfl,rfl,_,rfl,aY (λh=>?_) (λh=>?_)⟩
   ·have hy:0<y:=by have:=of_decide_eq_true h; omega
    refine ⟨_,rfl,_,rfl,_,rfl,_,_,rfl,rfl,(by show (0:Int)<(y:Int); omega),_,_,rfl,⟨y,x % y,?_,rfl,?_⟩,?_⟩
    ·rfl
    ·rw [<- hg,Nat.gcd_comm x y,Nat.gcd_rec y x,Nat.gcd_comm]
    ·show ((x:Int) % (y:Int)).toNat<(y:Int).toNat
     have h1:=Int.emod_lt_of_pos (x:Int) (show (0:Int)<y by omega)
     have h2:=Int.emod_nonneg (x:Int) (show (y:Int) ≠ 0 by omega)
     omega
   ·have hy:y=0:=by
     have h1:¬ (0:Int)<(y:Int):=λz=>h (decide_eq_true z)
     omega
    subst hy
    rw [Nat.gcd_zero_right] at hg
    subst hg
    have hgp:0<Int.gcd a b:=Int.gcd_pos_of_ne_zero_right a hb
    have hgl:Int.gcd a b<=b.natAbs:=Nat.le_of_dvd (by omega) (Nat.gcd_dvd_right a.natAbs b.natAbs)
    have sm:(Int.gcd a b)<2 ^ 8800:=Nat.lt_of_le_of_lt hgl hbs
    refine ⟨_,rfl,_,_,rfl,rfl,_,rfl,aY (λh=>?_) (λh=>?_)⟩
    ·have hb0:b<0:=of_decide_eq_true h
     refine ⟨_,rfl,_,_,rfl,rfl,?_⟩
     have sm2:CDivA a (0-(Int.gcd a b:Int)):=⟨by omega,by rw [show (0-(Int.gcd a b:Int)).natAbs=Int.gcd a b by omega]; exact sm⟩
     refine ⟨_,rfl,_,rfl,_,_,rfl,rfl,sm2,_,rfl,_,rfl,_,_,rfl,rfl,sm2,(by show 2<=sizeLine; decide),λt ht=>?_⟩
     have z:=q t ht
     unfold nrm at z
     rw [if_pos hb0] at z
     rw [show 0-(Int.gcd a b:Int) = -(Int.gcd a b:Int) by omega]
     exact z
    ·have hb0:¬ b<0:=λz=>h (decide_eq_true z)
     have sm2:CDivA a (Int.gcd a b:Int):=⟨by omega,by rw [Int.natAbs_natCast]; exact sm⟩
     refine ⟨_,rfl,_,rfl,_,_,rfl,rfl,sm2,_,rfl,_,rfl,_,_,rfl,rfl,sm2,(by show 2<=sizeLine; decide),λt ht=>?_⟩
     have z:=q t ht
     unfold nrm at z
     rw [if_neg hb0] at z
     exact z
  ·rintro σ H Q Q' hq ⟨x,hx,i,j,e1,e2,b,hb,h⟩
   exact ⟨x,hx,i,j,e1,e2,b,hb,hq _ _ h⟩
def cb (n:Int) (i:Nat):List Int:=((List.range i).map λj:Nat=>(2:Int)+(j:Int)).filter λd=>decide (d*d<=n)
def fO (n:Int):Bool:=decide (1<n) && (cb n 98).all λd=>decide (0<n % d)
def ll (p:Int):Prop:=p=0\/(2<=p/\p<=9973/\fO p=true)
theorem fX (n:Int) (i:Nat):cb n (i+1)=if (2+(i:Int))*(2+(i:Int))<=n then cb n i++[2+(i:Int)] else cb n i:=by
 unfold cb
 rw [range_succ,map_append,filter_append]
 by_cases h:(2+(i:Int))*(2+(i:Int))<=n
 ·rw [if_pos h]
  simp [h]
 ·rw [if_neg h]
  simp [h]
theorem mem_parts {n d:Int} {i:Nat}:d ∈ cb n i↔2<=d/\d<2+(i:Int)/\d*d<=n:=by
 unfold cb
 rw [List.mem_filter,List.mem_map]
 constructor
 ·rintro ⟨⟨j,hj,rfl⟩,h⟩
  have:=List.mem_range.mp hj
  exact ⟨by omega,by omega,of_decide_eq_true h⟩
 ·rintro ⟨h1,h2,h3⟩
  exact ⟨⟨(d-2).toNat,List.mem_range.mpr (by omega),by omega⟩,decide_eq_true h3⟩
theorem isPb_iff {n:Int}:fO n=true↔1<n/\∀ d,2<=d->d<100->d*d<=n->0<n % d:=by
 unfold fO
 rw [Bool.and_eq_true,all_eq_true]
 constructor
 ·rintro ⟨h1,h2⟩
  exact ⟨of_decide_eq_true h1,λd a b c=>of_decide_eq_true (h2 d (mem_parts.mpr ⟨a,by omega,c⟩))⟩
 ·rintro ⟨h1,h2⟩
  refine ⟨decide_eq_true h1,λd hd=>?_⟩
  obtain ⟨a,b,c⟩:=mem_parts.mp hd
  exact decide_eq_true (h2 d a (by omega) c)
theorem isPb_2:fO 2=true:=by decide +kernel
def i5:Sp:=λvs H Q _=>∃ n:Int,vs=[.int n]/\∀ H',kW H H'->Q (.bl (fO n)) H'
theorem ml:kX ["_law_number_here", "_law_parts"] ["_law_number_here"] (aj cr):=.i
theorem ok_lawprime {f:Addr} {fd:FuncData} (F:Fun K "_law_is_prime" "_law_is_prime" cr f fd) (T:Blt mg):kZ P w K mg base CX0 1 f fd ["_law_number_here"] i5:=by
 refine F.o ml λ_ _ _ _ H _ Q _ hr h=>?_
 ·obtain ⟨n,rfl,q⟩:=h
  refine ⟨_,(ae (kc (i:=1) ml.nd rfl (Or.inl rfl) (N:=["_law_part", "_law_number_here"]) (src:=[none,some 0]) rfl rfl rfl (by exact (pi_range2 rfl T.range (aa ac (aa ac ag)))) (λ_ _ _=>by exact ⟨by exact (cR (i:=0) nd_0 rfl rfl),(ii (aq op_le (am bf (pv 0) (pv 0)) (pv 1) (ao _))),by exact (pv 0)⟩))
(ah (al (fF (aU cg (pv 0) ac (ao _)) (fI (ia K T (by exact cv (N:=["_law_part", "_law_number_here"]) (src:=[none,some 0]) rfl rfl rfl (by exact (bH K rfl (pv 1))) (λ_ _ _=>by exact ⟨by exact (cR (i:=0) nd_0 rfl rfl),cN,by exact (aU cg (am bn (pv 1) (pv 0)) ac (ao _))⟩)) false)))))),?_⟩
  refine ⟨_,_,rfl,⟨by decide,by decide,by decide,by decide⟩,eY (n:=98) (σ0:=[none,some (.int n)]) rfl (λacc i zs σ H'=>∃ u:Option V,σ=[u,some (.int n)]/\zs=(cb n i).map V.int/\kW H H') (by decide) (λacc hacc=>⟨none,rfl,rfl,kW.new hacc⟩) ?_ ?_ ?_ ?_⟩
  ·rintro acc i zs σ H' hacc hi hz _
   exact hi
  ·rintro acc zs σ H' hacc hz _
   exact Nat.le_refl 98
  ·rintro acc i zs σ H' x H'' hacc hi hz hzl ⟨u,rfl,rfl,sm⟩ ⟨rfl,rfl⟩
   refine ⟨_,rfl,_,rfl,_,_,rfl,rfl,.inl ⟨by omega,by omega⟩,_,rfl,_,_,rfl,rfl,_,rfl,aY (λh=>?_) (λh=>?_)⟩
   ·have h':(2+(i:Int))*(2+(i:Int))<=n:=of_decide_eq_true h
    refine ⟨_,rfl,_,hz,gG (by omega),_,af,by rw [length_append,length_singleton]; omega,_,rfl,?_,sm.put hacc⟩
    rw [fX,if_pos h',map_append]
    rfl
   ·have h':¬ (2+(i:Int))*(2+(i:Int))<=n:=λz=>h (decide_eq_true z)
    refine ⟨_,hz,by omega,_,rfl,?_,sm⟩
    rw [fX,if_neg h']
  ·rintro acc zs σ H' hacc hz hzl ⟨u,rfl,rfl,sm⟩
   refine ⟨_,rfl,_,_,rfl,rfl,_,rfl,aY (λh=>?_) (λh=>?_)⟩
   ·have h1:(1:Int)<n:=of_decide_eq_true h
    refine ⟨_,rfl,acc,rfl,⟨_,SqL.of hz⟩,comp_lst (v1 λd=>.bl (decide (0<n % d))) rfl (SqL.of hz) (Nat.le_of_lt (gG (by omega))) (λi x H1 R hx sm1 hR=>?_) (λacc2 H1 hacc2 sm1 hl1=>?_)⟩
    ·obtain ⟨z,hz',rfl⟩:=j9 hx
     obtain ⟨z2,_,_⟩:=mem_parts.mp (mem_of_getElem? hz')
     exact ⟨_,rfl,_,rfl,_,_,rfl,rfl,(by show (0:Int)<z; omega),_,_,rfl,rfl,hR⟩
    ·rw [map_v1] at hl1
     have e1:(cb n 98).map (λd=>V.bl (decide (0<n % d)))=((cb n 98).map λd=>decide (0<n % d)).map V.bl:=by rw [map_map]; rfl
     rw [e1] at hl1
     refine ⟨acc2,_,rfl,sqvL (SqL.of hl1),?_⟩
     have z:=q H1 (sm.trans sm1)
     unfold fO at z
     rw [decide_eq_true h1,Bool.true_and] at z
     rw [List.all_map]
     exact z
   ·have h1:¬ (1:Int)<n:=λz=>h (decide_eq_true z)
    have z:=q H' sm
    unfold fO at z
    rw [decide_eq_false h1,Bool.false_and] at z
    exact z
def spPrime:Sp:=λvs H Q _=>∃ (p:Addr) (a b:Int) (k:Nat),vs=[.ref p]/\H p=some (.lst [.int a,.int b])/\lI a b k/\k<=900000/\
 ∀ (r a' b':Int) (H':Hp),ll r->H' p=some (.lst [.int a',.int b'])->lI a' b' (k+2)->(∀ c o,H c=some o->c ≠ p->H' c=some o)->Q (.int r) H'
theorem l5:kX ["_law_bag_here", "_law_way", "_law_number_here"] ["_law_bag_here"] (aj dE):=.i
theorem ok_prime {f:Addr} {fd:FuncData} (F:Fun K "_law_prime" "_law_prime" dE f fd) (mT:FnB P w K mg base 1 "_law_take" eP) (pB:FnB P w K mg base 1 "_law_is_prime" i5):kZ P w K mg base CX0 2 f fd ["_law_bag_here"] spPrime:=by
 refine F.o l5 λ_ _ _ _ H _ Q _ hr h=>?_
 ·obtain ⟨p,a,b,k,rfl,hp,hb,hk,q⟩:=h
  refine ⟨_,(ae (ak (i:=1) l5.nd rfl (Or.inl rfl) (aB mT hr.m (aa (pv 0) (aa ac ag))))
(ae (aG (aq dY (pv 1) ac (ao _))
(ah (al ac))
aw)
(ae (aG (aq dY (pv 1) ac (ao _))
(ah (al (aA (aK K rfl) (aV (aa ac (aa ac (aa ac ag)))) (am df (pv 1) ac) (λ_ _=>rfl))))
aw)
(ae (ak (i:=2) l5.nd rfl (Or.inl rfl) (am bi ac (aB mT hr.m (aa (pv 0) (aa ac ag)))))
(ae (eU PassesOwn.never (bK (bd (aB pB hr.m (aa (pv 2) ag))))
(ah (ak (i:=2) l5.nd rfl (Or.inl rfl) (am df (pv 2) ac))))
(ah (al (pv 2)))))))),?_⟩
  refine ⟨_,rfl,p,a,b,8,k,rfl,hp,hb,by omega,by decide,aP (by decide) (by decide),λr1 a1 b1 r10 r11 hb1=>?_⟩
  have k1:∀ o c o',H c=some o'->c ≠ p->(upd H p o) c=some o':=λo c o' e hc=>by rw [au hc]; exact e
  refine ⟨_,rfl,_,_,rfl,rfl,_,rfl,aY (λh=>?_) (λh=>?_)⟩
  ·exact q 0 a1 b1 _ (.inl rfl) af (hb1.mono (by omega)) (k1 _)
  have h4:¬ r1<4:=λz=>h (decide_eq_true z)
  refine ⟨_,rfl,_,_,rfl,rfl,_,rfl,aY (λh=>?_) (λh=>?_)⟩
  ·have h7:r1<7:=of_decide_eq_true h
   refine ⟨(by show 3<=sizeLine; decide),λq1 n1=>?_⟩
   have pq:p ≠ q1:=aC (o:=.lst [.int a1,.int b1]) af n1
   obtain ⟨v,hat,hv⟩:∃ v:Int,atI [V.int 2,V.int 3,V.int 7] (r1-4)=some (.int v)/\ll v:=by
    have h:r1=4\/r1=5\/r1=6:=by omega
    rcases h with rfl | rfl | rfl
    ·exact ⟨2,rfl,.inr ⟨by decide,by decide,by decide +kernel⟩⟩
    ·exact ⟨3,rfl,.inr ⟨by decide,by decide,by decide +kernel⟩⟩
    ·exact ⟨7,rfl,.inr ⟨by decide,by decide,by decide +kernel⟩⟩
   refine ⟨_,rfl,_,_,rfl,rfl,q1,_,_,_,rfl,rfl,SqL.of af,hat,?_⟩
   exact q v a1 b1 _ hv (by rw [au pq,af]) (hb1.mono (by omega)) λc o e hc=>by rw [au (aC (k1 _ c o e hc) n1)]; exact k1 _ c o e hc
  ·refine ⟨_,rfl,p,a1,b1,9972,k+1,rfl,af,hb1,by omega,by decide,aP (by decide) (by decide),λr2 a2 b2 r20 r21 hb2=>?_⟩
   refine ⟨_,_,rfl,rfl,?_⟩
   rw [bX]
   refine el (λσ H'=>∃ n:Int,σ=[some (.ref p),some (.int r1),some (.int n)]/\2<=n/\n<=9973/\kW (upd H p (.lst [.int a2,.int b2])) H') (λσ _=>match σ with | [_,_,some (.int n)]=>n.toNat | _=>0) ⟨_,rfl,by omega,by omega,kW.refl _⟩ ?_ ?_
   ·rintro σ H2 ⟨n,rfl,n2,n9,sm⟩
    refine ⟨_,rfl,n,rfl,λH3 sm3=>⟨_,rfl,?_⟩⟩
    cases hn:fO n with
    | false=>
     refine bG ⟨_,rfl,_,_,rfl,rfl,⟨_,rfl,?_,by omega,sm.trans sm3⟩,?_⟩
     ·have:n ≠ 2:=λz=>by rw [z,isPb_2] at hn; cases hn
      omega
     ·show (n-1).toNat<n.toNat
      omega
    | true=>
     refine be ⟨_,rfl,?_⟩
     have s:=sm.trans sm3
     exact q n a2 b2 H3 (.inr ⟨n2,n9,hn⟩) (s _ _ af) hb2 λc o e hc=>s _ _ (k1 _ c o e hc)
   ·rintro σ H Q Q' hq ⟨x,hx,n,e,h⟩
    refine ⟨x,hx,n,e,λH' s=>?_⟩
    obtain ⟨b,hb,z⟩:=h H' s
    exact ⟨b,hb,hq _ _ z⟩
def j0:Sp:=λvs H Q _=>∃ n:Int,vs=[.int n]/\Q (.bl (decide (2<=n/\n<=9973) && fO n)) H
theorem sc_is_prime:kX ["whole", "divisor"] ["whole"] (aj fu):=.i
theorem ok_isprime {f:Addr} {fd:FuncData} {tk tk2:Tok} (F:Fun K "is_prime" "is_prime" fu f fd) (cLeast:mg "LEAST_PRIME"=some (.int 2 tk)) (cGreatest:mg "GREATEST_PRIME"=some (.int 9973 tk2)):kZ P w K mg base CX0 1 f fd ["whole"] j0:=by
 refine F.o sc_is_prime λ_ _ _ _ H _ Q _ hr h=>?_
 ·obtain ⟨n,rfl,q⟩:=h
  refine ⟨_,(ae (aG (PW.pt (dw (aq dY (pv 0) (cQ (v:=.int 2) rfl cLeast ⟨_,rfl⟩) (ao _)) (dW (aq cg (pv 0) (cQ (v:=.int 9973) rfl cGreatest ⟨_,rfl⟩) (ao _)))))
(ah (al cW))
aw)
(ae (ak (i:=1) sc_is_prime.nd rfl (Or.inl rfl) ac)
(ae (eU PassesOwn.never (aq op_le (am bf (pv 1) (pv 1)) (pv 0) (ao _))
(ae (aG (aq a9 (am bn (pv 0) (pv 1)) ac (ao _))
(ah (al cW))
aw)
(ah (ak (i:=1) sc_is_prime.nd rfl (Or.inl rfl) (am bi (pv 1) ac)))))
(ah (al cW))))),?_⟩
  have no:¬ (2<=n/\n<=9973)->Q (.bl false) H:=λh=>by
   rw [decide_eq_false h,Bool.false_and] at q
   exact q
  refine ⟨_,rfl,_,_,rfl,rfl,_,rfl,aY (λh=>?_) (λh=>?_)⟩
  ·have h1:n<2:=of_decide_eq_true h
   exact bG (no (by omega))
  have h1:¬ n<2:=λz=>h (decide_eq_true z)
  refine ⟨_,rfl,_,_,rfl,rfl,_,rfl,aY (λh=>?_) (λh=>?_)⟩
  ·have h2:9973<n:=of_decide_eq_true h
   exact no (by omega)
  have h2:¬ 9973<n:=λz=>h (decide_eq_true z)
  rw [decide_eq_true (show 2<=n/\n<=9973 by omega),Bool.true_and] at q
  refine el (λσ H'=>∃ d:Int,σ=[some (.int n),some (.int d)]/\H'=H/\2<=d/\d<=101/\∀ e,2<=e->e<d->0<n % e) (λσ _=>match σ with | [_,some (.int d)]=>(200-d).toNat | _=>0) ⟨2,rfl,rfl,by omega,by omega,λe h1 h2=>by omega⟩ ?_ ?_
  ·rintro σ H2 ⟨d,rfl,rfl,hd2,hd1,hall⟩
   refine ⟨_,rfl,_,rfl,_,_,rfl,rfl,.inl ⟨by omega,by omega⟩,_,rfl,_,_,rfl,rfl,_,rfl,aY (λh=>?_) (λh=>?_)⟩
   ·have hdd:d*d<=n:=of_decide_eq_true h
    have hd100:d<100:=Int.not_le.mp λz=>by
     have:=Int.mul_le_mul z z (by omega) (by omega)
     omega
    refine ⟨_,rfl,_,rfl,_,_,rfl,rfl,(by show (0:Int)<d; omega),rfl,_,rfl,aY (λh=>?_) (λh=>?_)⟩
    ·have h0:n % d=0:=by
      have:=of_decide_eq_true h
      injection this
     have e:fO n=false:=by
      cases hp:fO n with
      | false=>rfl
      | true=>
       have:=(isPb_iff.mp hp).2 d hd2 hd100 hdd
       omega
     rw [e] at q
     exact q
    ·have h0:n % d ≠ 0:=λz=>h (decide_eq_true (congrArg V.int z))
     have h00:=Int.emod_nonneg n (show d ≠ 0 by omega)
     refine ⟨_,rfl,_,_,rfl,rfl,⟨d+1,rfl,rfl,by omega,by omega,λe e1 e2=>?_⟩,?_⟩
     ·by_cases ee:e=d
      ·rw [ee]; omega
      ·exact hall e e1 (by omega)
     ·show (200-(d+1)).toNat<(200-d).toNat
      omega
   ·have hdd:¬ d*d<=n:=λz=>h (decide_eq_true z)
    have e:fO n=true:=isPb_iff.mpr ⟨by omega,λe e1 e2 e3=>hall e e1 (Int.not_le.mp λz=>by
     have:=Int.mul_le_mul z z (by omega) (by omega)
     omega)⟩
    rw [e] at q
    exact q
  ·rintro σ H Q Q' hq ⟨x,hx,x2,hx2,i,j,e1,e2,c,y,hy,i2,j2,e3,e4,b,hb,h⟩
   exact ⟨x,hx,x2,hx2,i,j,e1,e2,c,y,hy,i2,j2,e3,e4,b,hb,hq _ _ h⟩
def spGcd:Sp:=λvs H Q _=>∃ a b:Int,vs=[.int a,.int b]/\Q (.int (Int.gcd a b)) H
theorem lC:kX ["one", "other", "first", "second", "rest"] ["one", "other"] (aj bJ):=.i
theorem ok_gcd {f:Addr} {fd:FuncData} (F:Fun K "greatest_divisor" "greatest_divisor" bJ f fd) (T:Blt mg):kZ P w K mg base CX0 1 f fd ["one", "other"] spGcd:=by
 refine F.o lC λ_ _ _ _ H _ Q _ hr h=>?_
 ·obtain ⟨a,b,rfl,q⟩:=h
  refine ⟨_,(ae (ak (i:=2) lC.nd rfl (Or.inl rfl) (jb T (pv 0)))
(ae (ak (i:=3) lC.nd rfl (Or.inl rfl) (jb T (pv 1)))
(ae (eU PassesOwn.never (aq eM (pv 3) ac (ao _))
(ae (ak (i:=4) lC.nd rfl (Or.inl rfl) (am bn (pv 2) (pv 3)))
(ae (ak (i:=2) lC.nd rfl (Or.inl rfl) (pv 3))
(ah (ak (i:=3) lC.nd rfl (Or.inl rfl) (pv 4))))))
(ah (al (pv 2)))))),?_⟩
  refine ⟨_,rfl,_,rfl,_,rfl,_,rfl,?_⟩
  refine el (λσ H'=>∃ (x y:Nat) (u:Option V),σ=[some (.int a),some (.int b),some (.int x),some (.int y),u]/\H'=H/\Nat.gcd x y=Int.gcd a b) (λσ _=>match σ with | [_,_,_,some (.int y),_]=>y.toNat | _=>0) ⟨a.natAbs,b.natAbs,none,?_,rfl,rfl⟩ ?_ ?_
  ·have e1:(if a<0 then -a else a)=(a.natAbs:Int):=by split<;>omega
   have e2:(if b<0 then -b else b)=(b.natAbs:Int):=by split<;>omega
   rw [e1,e2]
   rfl
  ·rintro σ H2 ⟨x,y,u,rfl,rfl,hg⟩
   refine ⟨_,rfl,rfl,_,rfl,?_⟩
   by_cases hy:y=0
   ·subst hy
    refine iteNS rfl ?_
    rw [Nat.gcd_zero_right] at hg
    subst hg
    exact ⟨_,rfl,q⟩
   ·rw [decide_eq_false (show ¬ V.int (y:Int)=V.int 0 from λz=>by injection z; omega)]
    refine bG ⟨_,rfl,_,rfl,_,_,rfl,rfl,(by show (0:Int)<(y:Int); omega),_,rfl,_,rfl,⟨y,x % y,some (.int ((x:Int) % (y:Int))),?_,rfl,?_⟩,?_⟩
    ·rfl
    ·rw [<- hg,Nat.gcd_comm x y,Nat.gcd_rec y x,Nat.gcd_comm]
    ·show ((x:Int) % (y:Int)).toNat<(y:Int).toNat
     have h1:=Int.emod_lt_of_pos (x:Int) (show (0:Int)<y by omega)
     have h2:=Int.emod_nonneg (x:Int) (show (y:Int) ≠ 0 by omega)
     omega
  ·rintro σ H Q Q' hq ⟨x,hx,e1,b,hb,h⟩
   exact ⟨x,hx,e1,b,hb,hq _ _ h⟩
def lJ (CF CR:Addr) (H:Hp) (x:Addr) (p:Int):Prop:=(p=0/\∃ dx,H x=some (.ins CF dx []))\/(p ≠ 0/\∃ dx,H x=some (.ins CR dx [("modulus",.int p)]))
def kB (CR:Addr):Sp:=λvs H Q _=>∃ (x dx:Addr) (p:Int),vs=[.ref x,.int p]/\H x=some (.ins CR dx [])/\ll p/\p ≠ 0/\Q .non (upd H x (.ins CR dx [("modulus",.int p)]))
def spNums (CF CR:Addr):Sp:=λvs H Q _=>∃ p:Int,vs=[.int p]/\ll p/\∀ (x:Addr) (H':Hp),kW H H'->lJ CF CR H' x p->Q (.ref x) H'
theorem gi:kX ["self", "prime"] ["self", "prime"] (aj aX):=.i
theorem ok_rinit {f CR:Addr} {fd:FuncData} (F:Fun K "__init__" "Rests.__init__" aX f fd) (cl:Cls K CR) (nM:lO K CR "modulus") (rH:FnB P w K mg base 1 "is_prime" j0):kZ P w K mg base CX0 2 f fd ["self", "prime"] (kB CR):=by
 refine F.o gi λ_ _ _ _ H _ Q _ hr h=>?_
 ·obtain ⟨x,dx,p,rfl,hx,hp,p0,q⟩:=h
  refine ⟨_,(ae (aG (bK (bd (aB rH hr.m (aa (pv 1) ag))))
(ah cB)
aw)
(ah (ps_fld (pv 0) (pv 1) rfl))),?_⟩
  rcases hp with z | ⟨h1,h2,h3⟩
  ·exact absurd z p0
  refine ⟨_,rfl,p,rfl,_,rfl,?_⟩
  rw [decide_eq_true ⟨h1,h2⟩,h3]
  refine be ⟨_,rfl,_,rfl,x,CR,dx,[],rfl,hx,cl,nM,(by show 0<1000; decide),?_⟩
  exact q
theorem hZ:kX ["_law_prime_here"] ["_law_prime_here"] (aj cH):=.i
theorem ok_nums {f CF CR:Addr} {fd:FuncData} (F:Fun K "_law_numbers" "_law_numbers" cH f fd) (MFractions:Mk0 K CF) (AFractions:mg "Fractions"=some (.ref CF)) (vm:MkB P w K mg base 2 CR "Rests" (kB CR)):kZ P w K mg base CX0 4 f fd ["_law_prime_here"] (spNums CF CR):=by
 refine F.o hZ λ_ _ _ _ H _ Q _ hr h=>?_
 ·obtain ⟨p,rfl,hp,q⟩:=h
  refine ⟨_,(ae (aG (aq a9 (pv 0) ac (ao _))
(ah (al (pe_mk0 MFractions AFractions)))
aw)
(ah (al (pe_mkB vm hr.m (aa (pv 0) ag))))),?_⟩
  refine ⟨_,rfl,rfl,_,rfl,aY (λh=>?_) (λh=>?_)⟩
  ·have h0:p=0:=by
    have:=of_decide_eq_true h
    injection this
   intro x dx nx ndx ne
   exact q x _ ((kW.new ndx).put nx) (.inl ⟨h0,dx,af⟩)
  ·have h0:p ≠ 0:=λz=>h (decide_eq_true (congrArg V.int z))
   refine ⟨_,rfl,λx dx nx ndx ne=>?_⟩
   refine ⟨x,dx,p,rfl,af,hp,h0,rfl,?_⟩
   exact q x _ (((kW.new ndx).put nx).put nx) (.inr ⟨h0,dx,af⟩)
def isI:V->Bool
 | .int _=>true
 | _=>false
def Typed (K:Frag) (H:Hp) (x:V):Prop:=∃ (t:Value) (b c:Bool),lR K H x t/\kitOne K t (.type "int")=some b/\kitOne K t (.type "bool")=some c/\(b && !c)=isI x
theorem Typed.int {K:Frag} {H:Hp} (i:Int):Typed K H (.int i):=⟨_,true,false,.int i,rfl,rfl,rfl⟩
theorem Typed.tup {K:Frag} {H:Hp} {a:Addr} {xs:List V} (h:H a=some (.tup xs)):Typed K H (.ref a):=⟨_,false,false,.tup h,rfl,rfl,rfl⟩
theorem typed_ints {K:Frag} {H:Hp} (ns:List Int):∀ x ∈ ns.map V.int,Typed K H x:=λx hx=>by
 obtain ⟨z,_,rfl⟩:=List.mem_map.mp hx
 exact .int z
def NumIs (P:Int) (H:Hp) (v:V):Prop:=(P ≠ 0/\∃ r,v=.int r/\0<=r/\r<P)\/(P=0/\∃ (t:Addr) (n d:Int),v=.ref t/\H t=some (.tup [.int n,.int d])/\0<d/\Int.gcd n d=1/\n.natAbs<10 ^ 31/\d.natAbs<10 ^ 31)
theorem pow31:(10:Nat) ^ 31<2 ^ 5000:=by decide +kernel
theorem pow2000:(2:Nat) ^ 5000<2 ^ 8800:=Nat.pow_lt_pow_right (by decide) (by decide)
def Thing (K:Frag) (H:Hp) (v:V):Prop:=Typed K H v/\((∃ t,lR K H v t/\kitOne K t (.type "tuple")=some false/\∀ a,v=.ref a->∃ xs,H a=some (.lst xs)) \/
 ∃ a xs,v=.ref a/\H a=some (.tup xs)/\xs.length<=1000/\(∀ x ∈ xs,Typed K H x)/\∀ i,V.int i ∈ xs->i.natAbs<2 ^ 5000)
def jI:List V->Bool
 | [.int n,.int d]=>decide (1<=d) && decide (Int.gcd n d=1)
 | _=>false
def fracV (H:Hp):V->Bool
 | .ref a=>match H a with
  | some (.tup xs)=>jI xs
  | _=>false
 | _=>false
def restV (P:Int):V->Bool
 | .int i=>decide (0<=i) && decide (i<P)
 | _=>false
def numV (P:Int) (H:Hp) (v:V):Bool:=if P=0 then fracV H v else restV P v
theorem jJ {H:Hp} {a:Addr} {xs:List V} (h:H a=some (.tup xs)):fracV H (.ref a)=jI xs:=by
 show (match H a with | some (.tup xs)=>jI xs | _=>false)=_
 rw [h]
theorem fracV_not {H:Hp} {v:V} (h:∀ a,v=.ref a->∃ xs,H a=some (.lst xs)):fracV H v=false:=by
 cases v with
 | ref a=>
  obtain ⟨xs,e⟩:=h a rfl
  show (match H a with | some (.tup xs)=>jI xs | _=>false)=_
  rw [e]
 | _=>rfl
def spNumber:Sp:=λvs H Q _=>∃ (p:Addr) (P a b:Int) (g:Bool) (k:Nat),vs=[.int P,.ref p,.bl g]/\ll P/\H p=some (.lst [.int a,.int b])/\lI a b k/\k<=700000/\
 ∀ (v:V) (a' b':Int) (H':Hp),NumIs P H' v->H' p=some (.lst [.int a',.int b'])->lI a' b' (k+8)->(∀ c o,H c=some o->c ≠ p->H' c=some o)->Q v H'
def spLike (K:Frag):Sp:=λvs H Q _=>∃ (P:Int) (v:V),vs=[.int P,v]/\ll P/\Thing K H v/\∀ H',kW H H'->Q (.bl (numV P H v)) H'
theorem iV:kX ["_law_prime_here", "_law_bag_here", "_law_great_here"] ["_law_prime_here", "_law_bag_here", "_law_great_here"] (aj de):=.i
theorem ok_number {f:Addr} {fd:FuncData} (F:Fun K "_law_number" "_law_number" de f fd) (T:Blt mg) (mT:FnB P w K mg base 1 "_law_take" eP) (nY:FnB P w K mg base 2 "_law_great" j6) (ql:FnB P w K mg base 3 "_law_signed" spSigned) (nc:FnB P w K mg base 1 "_law_low" spLow) :
  kZ P w K mg base CX0 4 f fd ["_law_prime_here", "_law_bag_here", "_law_great_here"] spNumber:=by
 refine F.o iV λ_ _ _ _ H _ Q _ hr h=>?_
 ·obtain ⟨p,P,a,b,g,k,rfl,hP,hp,hb,hk,q⟩:=h
  refine ⟨_,(ae (aG (aq cg (pv 0) ac (ao _))
(ah (al (aB mT hr.m (aa (pv 1) (aa (pv 0) ag)))))
aw)
(ae (aG (bd (pv 2))
(ah (al (aB nc hr.m (aa (aB ql hr.m (aa (pv 1) ag)) (aa (pl_max T (aa ac (aa (aB nY hr.m (aa (pv 1) ag)) ag))) ag)))))
aw)
(ah (al (aB nc hr.m (aa (am df (aB mT hr.m (aa (pv 1) (aa ac ag))) ac) (aa (am bi ac (am cf (aB mT hr.m (aa (pv 1) (aa ac ag))) ac)) ag))))))),?_⟩
  have k1:∀ o c o',H c=some o'->c ≠ p->(upd H p o) c=some o':=λo c o' e hc=>by rw [au hc]; exact e
  refine ⟨_,rfl,_,_,rfl,rfl,_,rfl,aY (λh=>?_) (λh=>?_)⟩
  ·have h0:0<P:=of_decide_eq_true h
   have h9:P<=9973:=by rcases hP with z | ⟨_,z,_⟩<;>omega
   refine ⟨_,rfl,_,rfl,p,a,b,P,k,rfl,hp,hb,by omega,h0,aP (by omega) (by omega),λr a1 b1 r0 r1 hb1=>?_⟩
   exact q _ a1 b1 _ (.inl ⟨by omega,r,rfl,r0,r1⟩) af (hb1.mono (by omega)) (k1 _)
  have h0:P=0:=by
   have h1:¬ 0<P:=λz=>h (decide_eq_true z)
   rcases hP with z | ⟨z,_⟩<;>omega
  have low:∀ (n d a' b':Int) (t:Addr),0<d->n.natAbs<10 ^ 31->d.natAbs<10 ^ 31->lI a' b' (k+8)->(upd H p (.lst [.int a',.int b'])) t=none->
    Q (.ref t) (upd (upd H p (.lst [.int a',.int b'])) t (.tup [.int (nrm n d).1,.int (nrm n d).2])):=λn d a' b' t hd hn hd2 hb' ht=>by
   have pt:p ≠ t:=aC (o:=.lst [.int a',.int b']) af ht
   have hl:=nrm_le n d (by omega)
   refine q _ a' b' _ (.inr ⟨h0,t,_,_,rfl,af,kH n d (by omega),il n d (by omega),Nat.lt_of_le_of_lt hl.1 hn,Nat.lt_of_le_of_lt hl.2 hd2⟩) (by rw [au pt,af]) hb' λc o e hc=>?_
   rw [au (aC (k1 _ c o e hc) ht)]
   exact k1 _ c o e hc
  have big:∀ d:Int,d.natAbs<10 ^ 31->d.natAbs<2 ^ 8800:=λd h=>Nat.lt_trans h (Nat.lt_trans pow31 pow2000)
  refine ⟨_,rfl,_,rfl,?_⟩
  cases g with
  | true=>
   refine bG ⟨_,rfl,p,a,b,k,rfl,hp,hb,by omega,λr1 a1 b1 r10 r11 hb1=>?_⟩
   refine ⟨_,rfl,p,a1,b1,k+4,rfl,af,hb1,by omega,λr2 a2 b2 r20 r21 hb2=>?_⟩
   refine ⟨_,_,rfl,?_⟩
   rw [bX]
   have hm:(1:Int)<=(if r2 > 1 then r2 else 1)/\(if r2 > 1 then r2 else 1)<1000000000000000000000000000000:=by split<;>omega
   generalize (if r2 > 1 then r2 else 1)=m at hm
   refine ⟨r1,m,rfl,by omega,big _ (by omega),λt ht=>?_⟩
   exact low r1 m a2 b2 t (by omega) (by omega) (by omega) (hb2.mono (by omega)) ht
  | false=>
   refine be ⟨_,rfl,p,a,b,7,k,rfl,hp,hb,by omega,by decide,aP (by decide) (by decide),λr1 a1 b1 r10 r11 hb1=>?_⟩
   refine ⟨_,_,rfl,rfl,?_⟩
   refine ⟨_,rfl,p,a1,b1,8,k+1,rfl,af,hb1,by omega,by decide,aP (by decide) (by decide),λr2 a2 b2 r20 r21 hb2=>?_⟩
   refine ⟨_,_,rfl,rfl,fT (by decide) (by decide),_,_,rfl,rfl,?_⟩
   rw [bX]
   have hm:(1:Int)<=1+r2.fdiv 7/\1+r2.fdiv 7<100:=by
    rw [Int.fdiv_eq_ediv_of_nonneg _ (by decide)]
    omega
   refine ⟨r1-3,1+r2.fdiv 7,rfl,by omega,big _ (by omega),λt ht=>?_⟩
   exact low (r1-3) (1+r2.fdiv 7) a2 b2 t (by omega) (by omega) (by omega) (hb2.mono (by omega)) ht
theorem fm:kX ["_law_prime_here", "_law_found"] ["_law_prime_here", "_law_found"] (aj bL):=.i
theorem ok_like {f:Addr} {fd:FuncData} (F:Fun K "_law_number_like" "_law_number_like" bL f fd) (T:Blt mg) (nh:FnB P w K mg base 1 "_law_whole" (km K)) (nc:FnB P w K mg base 1 "_law_low" spLow) :
  kZ P w K mg base CX0 2 f fd ["_law_prime_here", "_law_found"] (spLike K):=by
 refine F.o fm λ_ _ _ _ H _ Q _ hr h=>?_
 ·obtain ⟨P,v,rfl,hP,⟨ty,hv⟩,q⟩:=h
  refine ⟨_,(ae (aG (aq cg (pv 0) ac (ao _))
(ah (al (fF (aB nh hr.m (aa (pv 1) ag)) (fI (pe_chain op_le dY ac (pv 1) (pv 0))))))
aw)
(ae (aG (PW.pt (dw (bK (bd (eK K T (pv 1) T.tuple cP))) (dw (aq eM (cx K T (pv 1)) ac (ao _)) (dw (bK (bd (aB nh hr.m (aa (aA (ar K rfl) (pv 1) ac (λ_ _=>rfl)) ag)))) (dW (bK (bd (aB nh hr.m (aa (aA (ar K rfl) (pv 1) ac (λ_ _=>rfl)) ag)))))))))
(ah (al cW))
aw)
(ah (al (fF (aU cg (aA (ar K rfl) (pv 1) ac (λ_ _=>rfl)) ac (ao _)) (fI (aU (keqD K rfl hr.units) (aB nc hr.m (aa (aA (ar K rfl) (pv 1) ac (λ_ _=>rfl)) (aa (aA (ar K rfl) (pv 1) ac (λ_ _=>rfl)) ag))) (pv 1) (ao _)))))))),?_⟩
  refine ⟨_,rfl,_,_,rfl,rfl,_,rfl,aY (λh=>?_) (λh=>?_)⟩
  ·have h0:0<P:=of_decide_eq_true h
   have z:=q H (kW.refl H)
   unfold numV at z
   rw [if_neg (by omega)] at z
   obtain ⟨t,b,c,ty,h1,h2,e⟩:=ty
   refine ⟨_,rfl,v,t,b,c,rfl,ty,h1,h2,_,rfl,?_⟩
   rw [e]
   cases v with
   | int i=>
    refine bG ⟨_,rfl,_,_,rfl,rfl,_,rfl,?_⟩
    by_cases hi:0<=i
    ·rw [decide_eq_true hi]
     refine bG ⟨_,rfl,_,_,rfl,rfl,?_⟩
     have z':Q (.bl (decide (0<=i) && decide (i<P))) H:=z
     rw [decide_eq_true hi,Bool.true_and] at z'
     exact z'
    ·rw [decide_eq_false hi]
     have z':Q (.bl (decide (0<=i) && decide (i<P))) H:=z
     rw [decide_eq_false hi,Bool.false_and] at z'
     exact be z'
   | _=>exact be z
  ·have h0:P=0:=by
    have h1:¬ 0<P:=λz=>h (decide_eq_true z)
    rcases hP with z | ⟨z,_⟩<;>omega
   unfold numV at q
   rw [if_pos h0] at q
   rcases hv with ⟨t,ty,e,hn⟩ | ⟨a,xs,rfl,ha,hl,hty,hbd⟩
   ·rw [fracV_not hn] at q
    exact ⟨_,rfl,t,false,ty,e,_,rfl,bG (bG (q H (kW.refl H)))⟩
   ·rw [jJ ha] at q
    refine ⟨_,rfl,_,true,.tup ha,rfl,_,rfl,be ?_⟩
    refine ⟨_,rfl,a,xs,rfl,.inr (SqT.of ha),rfl,_,rfl,?_⟩
    by_cases hL:(xs.length:Int)=2
    ·refine iteNS (congrArg V.int hL) ?_
     match xs,hL with
     | [x,y],_=>
     obtain ⟨t1,b1,c1,ty1,h11,h12,e1⟩:=hty x (by simp)
     obtain ⟨t2,b2,c2,ty2,h21,h22,e2⟩:=hty y (by simp)
     refine ⟨_,rfl,a,_,_,_,rfl,rfl,SqT.of ha,rfl,x,t1,b1,c1,rfl,ty1,h11,h12,_,rfl,?_⟩
     rw [e1]
     cases x with
     | int n=>
      refine be ?_
      refine ⟨_,rfl,a,_,_,_,rfl,rfl,SqT.of ha,rfl,y,t2,b2,c2,rfl,ty2,h21,h22,_,rfl,?_⟩
      rw [e2]
      cases y with
      | int d=>
       refine be ?_
       refine ⟨_,rfl,a,_,_,_,rfl,rfl,SqT.of ha,rfl,_,_,rfl,rfl,_,rfl,?_⟩
       have q':∀ H',kW H H'->Q (.bl (decide (1<=d) && decide (Int.gcd n d=1))) H':=q
       by_cases hd:0<d
       ·rw [decide_eq_true (show 1<=d by omega),Bool.true_and] at q'
        rw [decide_eq_true hd]
        refine bG ⟨_,rfl,a,_,_,_,rfl,rfl,SqT.of ha,rfl,_,rfl,a,_,_,_,rfl,rfl,SqT.of ha,rfl,n,d,rfl,by omega,Nat.lt_trans (hbd d (by simp)) pow2000,λt nt=>?_⟩
        have st:=kW.new (o:=.tup [.int (nrm n d).1,.int (nrm n d).2]) nt
        refine ⟨_,rfl,dv [(nrm n d).1,(nrm n d).2],dv [n,d],fg (SqT.of af),fg (SqT.of (st _ _ ha)),bP _,bP _,?_⟩
        rw [ip]
        have ed:decide ([(nrm n d).1,(nrm n d).2]=[n,d])=decide (Int.gcd n d=1):=by
         apply decide_eq_decide.mpr
         rw [<- dq n d hd]
         constructor
         ·intro z
          injection z with z1 z2
          injection z2 with z2
          exact Prod.ext z1 z2
         ·intro z
          rw [z]
        rw [ed]
        exact q' _ st
       ·rw [decide_eq_false (show ¬ 1<=d by omega),Bool.false_and] at q'
        rw [decide_eq_false hd]
        exact be (q' H (kW.refl H))
      | _=>exact bG (q H (kW.refl H))
     | _=>exact bG (bG (by cases y<;>exact q H (kW.refl H)))
    ·have e0:(!decide (V.int (xs.length:Int)=V.int 2))=true:=by
      rw [decide_eq_false (λz=>hL (by injection z))]; rfl
     rw [e0]
     have z:=q H (kW.refl H)
     have ep:jI xs=false:=by
      unfold jI
      split
      ·exact absurd rfl hL
      ·rfl
     rw [ep] at z
     exact bG (bG z)
def At (P:Int) (H:Hp) (v:V) (x:Int × Int):Prop:=(P=0/\∃ t,v=.ref t/\H t=some (.tup [.int x.1,.int x.2]))\/(P ≠ 0/\v=.int x.1/\x.2=1)
theorem At.mono {P:Int} {H H':Hp} {v:V} {x:Int × Int} (h:At P H v x) (k:∀ t xs,H t=some (.tup xs)->H' t=some (.tup xs)):At P H' v x:=by
 rcases h with ⟨h0,t,rfl,e⟩ | h
 ·exact .inl ⟨h0,t,rfl,k _ _ e⟩
 ·exact .inr h
theorem At.same {P:Int} {H H':Hp} {v:V} {x:Int × Int} (h:At P H v x) (s:kW H H'):At P H' v x:=h.mono λt xs e=>s _ _ e
theorem pow_1000:(2:Nat) ^ 4300<2 ^ 8800:=Nat.pow_lt_pow_right (by decide) (by decide)
theorem gS {a b:Int} (h1:a.natAbs<2 ^ 4300) (h2:b.natAbs<2 ^ 4300):IntMulOk a b:=mulOk (Nat.lt_trans h1 pow_1000) (Nat.lt_trans h2 pow_1000)
theorem mulSz2 {a b:Int} (h1:a.natAbs<2 ^ 4300) (h2:b.natAbs<2 ^ 4300):(a*b).natAbs<2 ^ 8800:=Nat.lt_of_lt_of_le (iT h1 h2) (cy (by decide))
def ci (CN:Addr):Sp:=λvs H Q E=>∃ (x:V) (a b:Int),vs=[x,.int a,.int b]/\(b=0->E (.ref CN) none H)/\(b ≠ 0->b.natAbs<2 ^ 8800/\∀ t,H t=none->Q (.ref t) (upd H t (.tup [.int (nrm a b).1,.int (nrm a b).2])))
theorem me:kX ["self", "top", "bottom", "common"] ["self", "top", "bottom"] (aj aH):=.i
theorem ok_fofx {f mS:Addr} {fd:FuncData} (F:FunD K "of" "Fractions.of" aH f fd) (nw:FnB P w K mg base 1 "greatest_divisor" spGcd) (ANoNumber:mg "NoNumber"=some (.ref mS)) (xc:XCl K mS) :
  kZ P w K mg base (CXE P w) 2 f fd ["self", "top", "bottom"] (ci mS):=by
 refine F.okX me (λvs H Q E h=>?_) (λcdv A outer s H vs Q E hr h=>?_)
 ·obtain ⟨x,a,b,rfl,_⟩:=h
  rfl
 ·obtain ⟨x,a,b,rfl,hz,hq⟩:=h
  refine ⟨_,(ae (aG (aq a9 (pv 2) ac (ao _))
(ah (iM xc.ek ANoNumber (aa aE ag)))
aw)
(ae (aG (aq a9 (pv 2) ac (ao _))
(ah (al (bE (aa (pv 1) (aa ac ag)))))
aw)
(ae (ak (i:=3) me.nd rfl (Or.inl rfl) (aB nw hr.m (aa (pv 1) (aa (pv 2) ag))))
(ae (aG (aq dY (pv 2) ac (ao _))
(ah (ak (i:=3) me.nd rfl (Or.inl rfl) (j3 gs (pv 3))))
aw)
(ah (al (bE (aa (am cf (pv 1) (pv 3)) (aa (am cf (pv 2) (pv 3)) ag))))))))),?_⟩
  refine ⟨_,rfl,rfl,_,rfl,?_⟩
  by_cases hb:b=0
  ·subst hb
   rw [decide_eq_true rfl]
   exact bG ⟨(by show 1<=sizeLine; decide),hz rfl⟩
  obtain ⟨hbs,q⟩:=hq hb
  rw [decide_eq_false (show ¬ V.int b=V.int 0 from λz=>hb (by injection z))]
  refine be ⟨_,rfl,rfl,_,rfl,aY (λh=>?_) (λh=>?_)⟩
  ·have h1:b=1:=by
    have:=of_decide_eq_true h
    injection this
   subst h1
   refine ⟨_,rfl,(by show 2<=sizeLine; decide),λt ht=>?_⟩
   have z:=q t ht
   rw [(dq a 1 (by decide)).mpr (Int.gcd_one_right ..)] at z
   exact z
  ·refine ⟨_,rfl,_,rfl,a,b,rfl,?_⟩
   have hgp:0<Int.gcd a b:=Int.gcd_pos_of_ne_zero_right a hb
   have hgl:Int.gcd a b<=b.natAbs:=Nat.le_of_dvd (by omega) (Nat.gcd_dvd_right a.natAbs b.natAbs)
   have sm:(Int.gcd a b)<2 ^ 8800:=Nat.lt_of_le_of_lt hgl hbs
   refine ⟨_,rfl,_,_,rfl,rfl,_,rfl,aY (λh=>?_) (λh=>?_)⟩
   ·have hb0:b<0:=of_decide_eq_true h
    refine ⟨_,rfl,_,rfl,?_⟩
    have sm2:CDivA a (-(Int.gcd a b:Int)):=⟨by omega,by rw [Int.natAbs_neg,Int.natAbs_natCast]; exact sm⟩
    refine ⟨_,rfl,_,rfl,_,_,rfl,rfl,sm2,_,rfl,_,rfl,_,_,rfl,rfl,sm2,(by show 2<=sizeLine; decide),λt ht=>?_⟩
    have z:=q t ht
    unfold nrm at z
    rw [if_pos hb0] at z
    exact z
   ·have hb0:¬ b<0:=λz=>h (decide_eq_true z)
    have sm2:CDivA a (Int.gcd a b:Int):=⟨by omega,by rw [Int.natAbs_natCast]; exact sm⟩
    refine ⟨_,rfl,_,rfl,_,_,rfl,rfl,sm2,_,rfl,_,rfl,_,_,rfl,rfl,sm2,(by show 2<=sizeLine; decide),λt ht=>?_⟩
    have z:=q t ht
    unfold nrm at z
    rw [if_neg hb0] at z
    exact z
def jh (CF:Addr) (g:Int × Int->Int × Int->Int × Int):Sp:=λvs H Q _=>∃ (x dx s t:Addr) (a b:Int × Int),vs=[.ref x,.ref s,.ref t]/\H x=some (.ins CF dx [])/\H s=some (.tup [.int a.1,.int a.2])/\H t=some (.tup [.int b.1,.int b.2])/\0<a.2/\0<b.2/\Sz 4300 a/\Sz 4300 b/\
 ∀ r,H r=none->Q (.ref r) (upd H r (.tup [.int (nrm (g a b).1 (g a b).2).1,.int (nrm (g a b).1 (g a b).2).2]))
def iQ (CR:Addr) (g:Int->Int->Int):Sp:=λvs H Q _=>∃ (x dx:Addr) (p a b:Int),vs=[.ref x,.int a,.int b]/\H x=some (.ins CR dx [("modulus",.int p)])/\0<p/\p<=9973/\0<=a/\a<p/\0<=b/\b<p/\Q (.int (g a b % p)) H
theorem gb:kX ["self", "one", "other"] ["self", "one", "other"] (aj aW):=.i
theorem ok_fplus {f CF mS:Addr} {fd:FuncData} (F:Fun K "plus" "Fractions.plus" aW f fd) (rh:dC P w K mg base 2 CF "of" [] (ci mS)):kZ P w K mg base CX0 3 f fd ["self", "one", "other"] (jh CF λa b=>(a.1*b.2+b.1*a.2,a.2*b.2)):=by
 refine F.o gb λ_ _ _ _ H _ Q _ hr h=>?_
 ·obtain ⟨x,dx,s,t,a,b,rfl,hx,hs,ht,ha,hb,sa,sb,q⟩:=h
  refine ⟨_,(ah (al (bT rh hr.m bN (pv 0) (aa (am bi (am cS (aA (ar K rfl) (pv 1) ac (λ_ _=>rfl)) (aA (ar K rfl) (pv 2) ac (λ_ _=>rfl))) (am cS (aA (ar K rfl) (pv 2) ac (λ_ _=>rfl)) (aA (ar K rfl) (pv 1) ac (λ_ _=>rfl)))) (aa (am cS (aA (ar K rfl) (pv 1) ac (λ_ _=>rfl)) (aA (ar K rfl) (pv 2) ac (λ_ _=>rfl))) ag))))),?_⟩
  refine ⟨_,rfl,x,dx,[],rfl,hx,rfl,_,rfl,s,_,_,_,rfl,rfl,SqT.of hs,rfl,_,rfl,t,_,_,_,rfl,rfl,SqT.of ht,rfl,_,_,rfl,rfl,gS sa.1 sb.2,_,rfl,t,_,_,_,rfl,rfl,SqT.of ht,rfl,_,rfl,s,_,_,_,rfl,rfl,SqT.of hs,rfl,_,_,rfl,rfl,gS sb.1 sa.2,_,_,rfl,rfl,?_⟩
  refine ⟨_,rfl,s,_,_,_,rfl,rfl,SqT.of hs,rfl,_,rfl,t,_,_,_,rfl,rfl,SqT.of ht,rfl,_,_,rfl,rfl,gS sa.2 sb.2,_,_,_,rfl,λz=>absurd z (gc ha hb),λ_=>⟨mulSz2 sa.2 sb.2,q⟩⟩
theorem jq:kX ["self", "one", "other"] ["self", "one", "other"] (aj bB):=.i
theorem ok_rplus {f CR:Addr} {fd:FuncData} (F:Fun K "plus" "Rests.plus" bB f fd) (cl:Cls K CR) (nM:lO K CR "modulus"):kZ P w K mg base CX0 1 f fd ["self", "one", "other"] (iQ CR (· + ·)):=by
 refine F.o jq λ_ _ _ _ H _ Q _ hr h=>?_
 ·obtain ⟨x,dx,p,a,b,rfl,hx,hp,hp9,a0,a1,b0,b1,q⟩:=h
  refine ⟨_,(ah (al (am bn (am bi (pv 1) (pv 2)) (eW (pv 0) rfl)))),?_⟩
  exact ⟨_,rfl,_,rfl,_,_,rfl,rfl,_,rfl,x,CR,dx,_,_,rfl,hx,cl,nM,rfl,_,_,rfl,rfl,hp,q⟩
theorem ll.b {P:Int} (h:ll P):0<=P/\P<=9973/\P ≠ 1:=by
 rcases h with h | ⟨h1,h2,_⟩<;>omega
def spLOp (g:Int->Int × Int->Int × Int->Int × Int):Sp:=λvs H Q _=>∃ (P:Int) (u v:V) (x y:Int × Int),vs=[.int P,u,v]/\ll P/\At P H u x/\At P H v y/\OkN P x/\OkN P y/\Sz 4300 x/\Sz 4300 y/\∀ r H',kW H H'->At P H' r (g P x y)->Q r H'
theorem j4:kX ["_law_prime_here", "_law_one", "_law_other"] ["_law_prime_here", "_law_one", "_law_other"] (aj eC):=.i
theorem ok_lplus {f:Addr} {fd:FuncData} (F:Fun K "_law_plus" "_law_plus" eC f fd) (nc:FnB P w K mg base 1 "_law_low" spLow):kZ P w K mg base CX0 2 f fd ["_law_prime_here", "_law_one", "_law_other"] (spLOp dH):=by
 refine F.o j4 λ_ _ _ _ H _ Q _ hr h=>?_
 ·obtain ⟨P,u,v,x,y,rfl,hP,hu,hv,ox,oy,sx,sy,q⟩:=h
  refine ⟨_,(ae (aG (aq a9 (pv 0) ac (ao _))
(ah (al (aB nc hr.m (aa (am bi (am cS (aA (ar K rfl) (pv 1) ac (λ_ _=>rfl)) (aA (ar K rfl) (pv 2) ac (λ_ _=>rfl))) (am cS (aA (ar K rfl) (pv 2) ac (λ_ _=>rfl)) (aA (ar K rfl) (pv 1) ac (λ_ _=>rfl)))) (aa (am cS (aA (ar K rfl) (pv 1) ac (λ_ _=>rfl)) (aA (ar K rfl) (pv 2) ac (λ_ _=>rfl))) ag)))))
aw)
(ah (al (am bn (am bi (pv 1) (pv 2)) (pv 0))))),?_⟩
  unfold dH at q
  refine ⟨_,rfl,rfl,_,rfl,aY (λh=>?_) (λh=>?_)⟩
  ·have h0:P=0:=by have:=of_decide_eq_true h; injection this
   rcases hu with ⟨_,s,rfl,hs⟩ | ⟨z,_⟩
   ·rcases hv with ⟨_,t,rfl,ht⟩ | ⟨z,_⟩
    ·rw [if_pos h0] at q
     refine ⟨_,rfl,s,_,_,_,rfl,rfl,SqT.of hs,rfl,_,rfl,t,_,_,_,rfl,rfl,SqT.of ht,rfl,_,_,rfl,rfl,gS sx.1 sy.2,_,rfl,t,_,_,_,rfl,rfl,SqT.of ht,rfl,_,rfl,s,_,_,_,rfl,rfl,SqT.of hs,rfl,_,_,rfl,rfl,gS sy.1 sx.2,_,_,rfl,rfl,?_⟩
     refine ⟨_,rfl,s,_,_,_,rfl,rfl,SqT.of hs,rfl,_,rfl,t,_,_,_,rfl,rfl,SqT.of ht,rfl,_,_,rfl,rfl,gS sx.2 sy.2,_,_,rfl,gc ox.den oy.den,mulSz2 sx.2 sy.2,λr nr=>?_⟩
     exact q _ _ (kW.new nr) (.inl ⟨h0,r,rfl,af⟩)
    ·exact absurd h0 z
   ·exact absurd h0 z
  ·have h0:P ≠ 0:=λz=>h (decide_eq_true (congrArg V.int z))
   have hPp:0<P:=by have:=hP.b; omega
   rcases hu with ⟨z,_⟩ | ⟨_,rfl,_⟩
   ·exact absurd z h0
   ·rcases hv with ⟨z,_⟩ | ⟨_,rfl,_⟩
    ·exact absurd z h0
    ·rw [if_neg h0] at q
     exact ⟨_,rfl,_,rfl,_,_,rfl,rfl,_,rfl,_,_,rfl,rfl,hPp,q _ H (kW.refl H) (.inr ⟨h0,rfl,rfl⟩)⟩
def spNought:Sp:=λvs H Q _=>∃ P:Int,vs=[.int P]/\ll P/\∀ r H',kW H H'->At P H' r (0,1)->Q r H'
theorem iZ:kX ["_law_prime_here"] ["_law_prime_here"] (aj db):=.i
theorem ok_nought {f:Addr} {fd:FuncData} (F:Fun K "_law_nought" "_law_nought" db f fd) (T:Blt mg):kZ P w K mg base CX0 1 f fd ["_law_prime_here"] spNought:=by
 refine F.o iZ λ_ _ _ _ H _ Q _ hr h=>?_
 ·obtain ⟨P,rfl,hP,q⟩:=h
  refine ⟨_,(ah (al (aA (aK K rfl) (aV (aa (bE (aa ac (aa ac ag))) (aa ac ag))) (aI bO (by rfl) T.int br (aa (aU cg (pv 0) ac (ao _)) ag)) (λ_ _=>rfl)))),?_⟩
  refine ⟨(by show 2<=sizeLine; decide),λt nt=>?_⟩
  refine ⟨(by show 2<=sizeLine; decide),λl nl=>?_⟩
  have s1:=kW.new (o:=.tup [.int 0,.int 1]) nt
  have s2:=kW.new (o:=.lst [.ref t,.int 0]) nl
  have hb:=hP.b
  by_cases h0:P=0
  ·refine ⟨_,rfl,_,_,rfl,rfl,.inr ⟨_,rfl,l,_,_,_,rfl,rfl,SqL.of af,(by rw [decide_eq_false (by omega)]; rfl),?_⟩⟩
   exact q _ _ (s1.trans s2) (.inl ⟨h0,t,rfl,s2 _ _ af⟩)
  ·refine ⟨_,rfl,_,_,rfl,rfl,.inr ⟨_,rfl,l,_,_,_,rfl,rfl,SqL.of af,(by rw [decide_eq_true (by omega)]; rfl),?_⟩⟩
   exact q _ _ (s1.trans s2) (.inr ⟨h0,rfl,rfl⟩)
def spUnit:Sp:=λvs H Q _=>∃ P:Int,vs=[.int P]/\ll P/\∀ r H',kW H H'->At P H' r (1,1)->Q r H'
theorem kR:kX ["_law_prime_here"] ["_law_prime_here"] (aj eI):=.i
theorem ok_unit {f:Addr} {fd:FuncData} (F:Fun K "_law_unit" "_law_unit" eI f fd) (T:Blt mg):kZ P w K mg base CX0 1 f fd ["_law_prime_here"] spUnit:=by
 refine F.o kR λ_ _ _ _ H _ Q _ hr h=>?_
 ·obtain ⟨P,rfl,hP,q⟩:=h
  refine ⟨_,(ah (al (aA (aK K rfl) (aV (aa (bE (aa ac (aa ac ag))) (aa ac ag))) (aI bO (by rfl) T.int br (aa (aU cg (pv 0) ac (ao _)) ag)) (λ_ _=>rfl)))),?_⟩
  refine ⟨(by show 2<=sizeLine; decide),λt nt=>?_⟩
  refine ⟨(by show 2<=sizeLine; decide),λl nl=>?_⟩
  have s1:=kW.new (o:=.tup [.int 1,.int 1]) nt
  have s2:=kW.new (o:=.lst [.ref t,.int 1]) nl
  have hb:=hP.b
  by_cases h0:P=0
  ·refine ⟨_,rfl,_,_,rfl,rfl,.inr ⟨_,rfl,l,_,_,_,rfl,rfl,SqL.of af,(by rw [decide_eq_false (by omega)]; rfl),?_⟩⟩
   exact q _ _ (s1.trans s2) (.inl ⟨h0,t,rfl,s2 _ _ af⟩)
  ·refine ⟨_,rfl,_,_,rfl,rfl,.inr ⟨_,rfl,l,_,_,_,rfl,rfl,SqL.of af,(by rw [decide_eq_true (by omega)]; rfl),?_⟩⟩
   exact q _ _ (s1.trans s2) (.inr ⟨h0,rfl,rfl⟩)
theorem pow103:(10:Nat) ^ 31<2 ^ 103:=by decide +kernel
theorem NumIs.at_ {P:Int} {H:Hp} {v:V} (hP:ll P) (h:NumIs P H v):∃ x,At P H v x/\OkN P x/\Sz 103 x:=by
 have hb:=hP.b
 rcases h with ⟨h0,r,rfl,r0,r1⟩ | ⟨h0,t,n,d,rfl,ht,hd,hg,hn,hd2⟩
 ·have h3:2 ^ 14<=2 ^ 103:=cy (by decide)
  exact ⟨(r,1),.inr ⟨h0,rfl,rfl⟩,.inr ⟨h0,r0,r1,rfl⟩,by show r.natAbs<2 ^ 103; omega,by show (1:Int).natAbs<2 ^ 103; omega⟩
 ·exact ⟨(n,d),.inl ⟨h0,t,rfl,ht⟩,.inl ⟨h0,hd,hg⟩,Nat.lt_trans hn pow103,Nat.lt_trans hd2 pow103⟩
def dN (P:Int) (x:Int × Int):PyData:=if P=0 then dv [x.1,x.2] else .int x.1
theorem gr {K:Frag} {P:Int} {H:Hp} {v:V} {x:Int × Int} (h:At P H v x):DR K H (dN P x) v:=by
 unfold dN
 rcases h with ⟨h0,t,rfl,e⟩ | ⟨h0,rfl,_⟩
 ·rw [if_pos h0]
  exact fg (ns:=[x.1,x.2]) (SqT.of e)
 ·rw [if_neg h0]
  exact .int _
theorem bD (P:Int) (x:Int × Int):SeqAt.shaped (dN P x)=true:=by
 unfold dN
 split
 ·exact bP _
 ·rfl
theorem At.thing {K:Frag} {P:Int} {H:Hp} {v:V} {x:Int × Int} (h:At P H v x) (o:OkN P x) (s:Sz 4300 x):Thing K H v/\numV P H v=true:=by
 have p2:(2:Nat) ^ 4300<2 ^ 5000:=Nat.pow_lt_pow_right (by decide) (by decide)
 rcases h with ⟨h0,t,rfl,e⟩ | ⟨h0,rfl,_⟩
 ·rcases o with ⟨_,hd,hg⟩ | ⟨z,_⟩
  ·refine ⟨⟨.tup e,.inr ⟨t,_,rfl,e,by show 2<=1000; decide,typed_ints [x.1,x.2],λi hi=>?_⟩⟩,?_⟩
   ·have h:i=x.1\/i=x.2:=by
     rcases List.mem_cons.mp hi with z | z
     ·injection z with z; exact .inl z
     ·rcases List.mem_cons.mp z with z | z
      ·injection z with z; exact .inr z
      ·cases z
    rcases h with rfl | rfl
    ·exact Nat.lt_trans s.1 p2
    ·exact Nat.lt_trans s.2 p2
   ·unfold numV
    rw [if_pos h0,jJ e]
    show (decide (1<=x.2) && decide (Int.gcd x.1 x.2=1))=true
    rw [decide_eq_true (show 1<=x.2 by omega),decide_eq_true hg]
    rfl
  ·exact absurd h0 z
 ·rcases o with ⟨z,_⟩ | ⟨_,r0,r1,_⟩
  ·exact absurd z h0
  ·refine ⟨⟨.int _,.inl ⟨_,.int _,rfl,λa z=>by cases z⟩⟩,?_⟩
   unfold numV
   rw [if_neg h0]
   show (decide (0<=x.1) && decide (x.1<P))=true
   rw [decide_eq_true r0,decide_eq_true r1]
   rfl
abbrev az:=List Int × (Int × Int)
def PartR (P:Int) (H:Hp) (v:V) (p:az):Prop:=∃ (t k:Addr) (u:V),v=.ref t/\H t=some (.tup [.ref k,u])/\H k=some (.tup (p.1.map V.int))/\At P H u p.2
abbrev lg (P:Int) (H:Hp):List V->List az->Prop:=Paired (PartR P H)
theorem PartR.mono {P:Int} {H H':Hp} {v:V} {p:az} (k:∀ t xs,H t=some (.tup xs)->H' t=some (.tup xs)) (h:PartR P H v p):PartR P H' v p:=by
 obtain ⟨t,c,u,rfl,h1,h2,h3⟩:=h
 exact ⟨t,c,u,rfl,k _ _ h1,k _ _ h2,h3.mono k⟩
theorem lg.mono {P:Int} {H H':Hp} (k:∀ t xs,H t=some (.tup xs)->H' t=some (.tup xs)):∀ {vs:List V} {ps:List az},lg P H vs ps->lg P H' vs ps
 | _,_,.nil=>.nil
 | _,_,.cons q r=>.cons (q.mono k) (lg.mono k r)
theorem lg.at_ {P:Int} {H:Hp}:∀ {vs:List V} {ps:List az} {i:Nat} {v:V},lg P H vs ps->vs[i]? = some v->∃ p,ps[i]? = some p/\PartR P H v p
 | _,_,0,v,.cons q r,e=>by cases e; exact ⟨_,rfl,q⟩
 | _::_,_::_,i+1,v,.cons q r,e=>lg.at_ (i:=i) r e
theorem gJ {α β:Type} {R:α->β->Prop}:∀ {xs:List α} {ys:List β} {i:Nat} {x:α} {y:β},Paired R xs ys->xs[i]? = some x->ys[i]? = some y->R x y
 | _,_,0,x,y,.cons q r,e1,e2=>by cases e1; cases e2; exact q
 | _::_,_::_,i+1,x,y,.cons q r,e1,e2=>gJ (i:=i) r e1 e2
def dX (P:Int) (m:List az) (p:az):List az:=jc m p.1 (dH P ((bW m p.1).getD (0,1)) p.2)
def acc (P:Int) (ps:List az):List az:=ps.foldl (dX P) []
theorem acc_snoc (P:Int) (ps:List az) (p:az):acc P (ps++[p])=dX P (acc P ps) p:=by
 unfold acc
 rw [List.foldl_append]
 rfl
theorem eh {P:Int} {ps:List az} {i:Nat} {p:az} (h:ps[i]? = some p):acc P (ps.take (i+1))=dX P (acc P (ps.take i)) p:=by
 rw [take_add_one,h]
 exact acc_snoc P _ p
def jS (P:Int) (ps:List az):Prop:=(∀ p ∈ ps,OkN P p.2/\Sz 4300 p.2)/\∀ i,∀ p ∈ acc P (ps.take i),Sz 4300 p.2
theorem jO (P:Int) (ps:List az):((acc P ps).map (·.1)).Nodup:=by
 unfold acc
 have go:∀ (ps m:List az),(m.map (·.1)).Nodup->((ps.foldl (dX P) m).map (·.1)).Nodup:=by
  intro ps
  induction ps with
  | nil=>intro m h; exact h
  | cons p ps ih=>intro m h; exact ih _ (aput_nodup h)
 exact go ps [] (by simp)
theorem gj (P:Int) (ps:List az):(acc P ps).length<=ps.length:=by
 unfold acc
 have go:∀ (ps m:List az),(ps.foldl (dX P) m).length<=m.length+ps.length:=by
  intro ps
  induction ps with
  | nil=>intro m; simp
  | cons p ps ih=>
   intro m
   have h1:=ih (dX P m p)
   have h2:(dX P m p).length<=m.length+1:=aput_len _ _ _
   show (ps.foldl (dX P) (dX P m p)).length<=_
   rw [length_cons]
   omega
 simpa using go ps []
theorem gv {P:Int} (hP:0<=P) (h1:P ≠ 1) {ps:List az} (h:∀ p ∈ ps,OkN P p.2):∀ p ∈ acc P ps,OkN P p.2:=by
 unfold acc
 have go:∀ (ps m:List az),(∀ p ∈ ps,OkN P p.2)->(∀ p ∈ m,OkN P p.2)->∀ p ∈ ps.foldl (dX P) m,OkN P p.2:=by
  intro ps
  induction ps with
  | nil=>intro m _ h; exact h
  | cons p ps ih=>
   intro m hp hm
   refine ih _ (λq hq=>hp q (by simp [hq])) λq hq=>?_
   rcases gk hq with z | z
   ·rw [z]
    refine okN_add hP ?_ (hp p (by simp))
    cases e:bW m p.1 with
    | none=>exact eS hP h1
    | some y=>exact hm _ (bV e)
   ·exact hm q z
 exact go ps [] h (λp hp=>nomatch hp)
def nz (p:az):Bool:=decide (p.2 ≠ (0,1))
def hk (p:az):Int × List Int:=(p.1.sum,p.1)
def lZ (P:Int) (ps out:List az):Prop:=out.Perm ((acc P ps).filter nz)/\out.Pairwise λa b=>klt (hk b) (hk a)=true
theorem f7 {P:Int} {ps a b:List az} (h1:lZ P ps a) (h2:lZ P ps b):a=b:=
 gX (lt:=λx y=>klt (hk x) (hk y)) (λ_=>klt_irr _) (λ_ _ _=>jH) (h1.1.trans h2.1.symm) h1.2 h2.2
theorem im {P:Int} {x y:Int × Int} (hx:OkN P x) (hy:OkN P y):PyData.eqv (dN P x) (dN P y)=decide (x=y):=by
 unfold dN
 by_cases h0:P=0
 ·rw [if_pos h0,if_pos h0,ip]
  apply decide_eq_decide.mpr
  constructor
  ·intro z
   injection z with z1 z2
   injection z2 with z2
   exact Prod.ext z1 z2
  ·intro z; rw [z]
 ·rw [if_neg h0,if_neg h0]
  rcases hx with ⟨z,_⟩ | ⟨_,_,_,x2⟩
  ·exact absurd z h0
  rcases hy with ⟨z,_⟩ | ⟨_,_,_,y2⟩
  ·exact absurd z h0
  have e:PyData.eqv (.int x.1) (.int y.1)=decide (x.1=y.1):=by simp only [PyData.eqv]; rfl
  rw [e]
  apply decide_eq_decide.mpr
  exact ⟨λz=>Prod.ext z (x2.trans y2.symm),λz=>by rw [z]⟩
theorem sz_01:Sz 4300 (0,1):=⟨Nat.pow_pos (by decide),Nat.one_lt_two_pow (by decide)⟩
def vI:V->Int
 | .int i=>i
 | _=>0
def tupI (H:Hp):V->List Int
 | .ref k=>match H k with
  | some (.tup xs)=>xs.map vI
  | _=>[]
 | _=>[]
def jr (H:Hp) (v:V):Int × List Int:=((tupI H v).sum,tupI H v)
def keyP (H:Hp):V->Int × List Int
 | .ref t=>match H t with
  | some (.tup (k::_))=>jr H k
  | _=>(0,[])
 | _=>(0,[])
theorem ib {H:Hp} {k:Addr} {ns:List Int} (h:H k=some (.tup (ns.map V.int))):tupI H (.ref k)=ns:=by
 show (match H k with | some (.tup xs)=>xs.map vI | _=>[])=ns
 rw [h]
 show (ns.map V.int).map vI=ns
 rw [map_map]
 exact List.map_id'' (λ_=>rfl) ns
theorem PartR.key {P:Int} {H:Hp} {v:V} {p:az} (h:PartR P H v p):keyP H v=hk p:=by
 obtain ⟨t,k,u,rfl,h1,h2,_⟩:=h
 show (match H t with | some (.tup (k::_))=>jr H k | _=>(0,[]))=hk p
 rw [h1]
 show jr H (.ref k)=hk p
 unfold jr hk
 rw [ib h2]
theorem lg.keys {P:Int} {H:Hp}:∀ {vs:List V} {ps:List az},lg P H vs ps->vs.map (keyP H)=ps.map hk
 | _,_,.nil=>rfl
 | _,_,.cons q r=>by rw [map_cons,map_cons,q.key,lg.keys r]
theorem hk_nodup {ps:List az} (h:(ps.map (·.1)).Nodup):(ps.map hk).Nodup:=by
 have e:ps.map hk=(ps.map (·.1)).map (λk:List Int=>(k.sum,k)):=by rw [map_map]; rfl
 rw [e]
 exact List.Pairwise.map _ (λa b hab z=>hab (congrArg Prod.snd z)) h
theorem lg.perm {P:Int} {H:Hp} {vs ws:List V} {ps:List az} (h:lg P H vs ps) (p:ws.Perm vs):∃ qs:List az,qs.Perm ps/\lg P H ws qs:=by
 have go:∀ {ws vs:List V},ws.Perm vs->∀ ps:List az,lg P H vs ps->∃ qs:List az,qs.Perm ps/\lg P H ws qs:=by
  intro ws vs p
  induction p with
  | nil=>intro ps h; exact ⟨ps,.refl _,h⟩
  | cons x p ih=>
   intro ps h
   cases h with
   | cons q r=>
    obtain ⟨qs,e,h'⟩:=ih _ r
    exact ⟨_::qs,e.cons _,.cons q h'⟩
  | swap x y l=>
   intro ps h
   cases h with
   | cons q r=>cases r with
    | cons q2 r=>exact ⟨_::_::_,.swap _ _ _,.cons q2 (.cons q r)⟩
  | trans p1 p2 ih1 ih2=>
   intro ps h
   obtain ⟨qs,e,h'⟩:=ih2 _ h
   obtain ⟨rs,e2,h2⟩:=ih1 _ h'
   exact ⟨rs,e2.trans e,h2⟩
 exact go p ps h
theorem lg.fall {P:Int} {H:Hp} {lt:Int × List Int->Int × List Int->Bool}:∀ {vs:List V} {ps:List az},lg P H vs ps->vs.Pairwise (λx y=>lt (keyP H y) (keyP H x)=true)->ps.Pairwise (λa b=>lt (hk b) (hk a)=true):=by
 intro vs ps h hp
 have z:(vs.map (keyP H)).Pairwise (λa b=>lt b a=true):=List.pairwise_map.mpr hp
 rw [h.keys] at z
 exact List.pairwise_map.mp z
theorem lg.snoc {P:Int} {H:Hp} {v:V} {p:az} (q:PartR P H v p):∀ {vs:List V} {ps:List az},lg P H vs ps->lg P H (vs++[v]) (ps++[p])
 | _,_,.nil=>.cons q .nil
 | _,_,.cons a r=>.cons a (lg.snoc q r)
theorem lg.mem {P:Int} {H:Hp}:∀ {vs:List V} {ps:List az} {v:V},lg P H vs ps->v ∈ vs->∃ p ∈ ps,PartR P H v p
 | _,_,v,.cons q r,hv=>by
  rcases List.mem_cons.mp hv with rfl | hv
  ·exact ⟨_,by simp,q⟩
  ·obtain ⟨p,hp,h⟩:=lg.mem r hv
   exact ⟨p,by simp [hp],h⟩
theorem cU {ps:List az} {i:Nat} {p:az} (h:ps[i]? = some p):(ps.take (i+1)).filter nz=(ps.take i).filter nz++(if nz p=true then [p] else []):=by
 rw [take_add_one,h,filter_append]
 congr 1
 show List.filter nz [p]=_
 by_cases e:nz p=true
 ·rw [if_pos e]; simp [e]
 ·rw [if_neg e]; simp [e]
theorem paired_perm {α β:Type} {R:α->β->Prop} {ws vs:List α} (p:ws.Perm vs):∀ ps:List β,Paired R vs ps->∃ qs:List β,qs.Perm ps/\Paired R ws qs:=by
 induction p with
 | nil=>intro ps h; exact ⟨ps,.refl _,h⟩
 | cons x p ih=>
  intro ps h
  cases h with
  | cons q r=>
   obtain ⟨qs,e,h'⟩:=ih _ r
   exact ⟨_::qs,e.cons _,.cons q h'⟩
 | swap x y l=>
  intro ps h
  cases h with
  | cons q r=>cases r with
   | cons q2 r=>exact ⟨_::_::_,.swap _ _ _,.cons q2 (.cons q r)⟩
 | trans p1 p2 ih1 ih2=>
  intro ps h
  obtain ⟨qs,e,h'⟩:=ih2 _ h
  obtain ⟨rs,e2,h2⟩:=ih1 _ h'
  exact ⟨rs,e2.trans e,h2⟩
def ProdR (H:Hp) (v:V) (p:az):Prop:=∃ a,v=.ref a/\H a=some (.tup (p.1.map V.int))
theorem prod_of {H:Hp}:∀ {as:List Addr} {m:List az},Paired (λ(a:Addr) (q:az)=>H a=some (.tup (q.1.map V.int))) as m->Paired (ProdR H) (as.map V.ref) m
 | _,_,.nil=>.nil
 | _,_,.cons q r=>.cons ⟨_,rfl,q⟩ (prod_of r)
theorem gy {H:Hp}:∀ {vs:List V} {m:List az},Paired (ProdR H) vs m->vs.map (jr H)=m.map hk
 | _,_,.nil=>rfl
 | _,_,.cons ⟨a,e,q⟩ r=>by
  rw [map_cons,map_cons,gy r,e]
  unfold jr hk
  rw [ib q]
theorem prod_mem {H:Hp}:∀ {vs:List V} {ps:List az} {v:V},Paired (ProdR H) vs ps->v ∈ vs->∃ p ∈ ps,ProdR H v p
 | _,_,v,.cons q r,hv=>by
  rcases List.mem_cons.mp hv with rfl | hv
  ·exact ⟨_,by simp,q⟩
  ·obtain ⟨p,hp,h⟩:=prod_mem r hv
   exact ⟨p,by simp [hp],h⟩
theorem zero_if (P:Int):(if P=0 then ((0:Int),(1:Int)) else (0 % P,1))=(0,1):=by
 split
 ·rfl
 ·rw [Int.zero_emod]
def spKey (K:Frag):Sp:=λvs H Q _=>∃ (t k:Addr) (u:V) (ns:List Int),vs=[.ref t]/\H t=some (.tup [.ref k,u])/\SqT K H k (ns.map V.int)/\∀ r,H r=none->Q (.ref r) (upd H r (.tup [.int ns.sum,.ref k]))
def spLSum:Sp:=λvs H Q _=>∃ (l:Addr) (P:Int) (ts:List V) (ps:List az),vs=[.int P,.ref l]/\ll P/\H l=some (.lst ts)/\lg P H ts ps/\ps.length<=60/\jS P ps/\
 ∀ (d:Addr) (rs:List V) (out:List az) (H':Hp),H d=none->kW H H'->H' d=some (.lst rs)->lg P H' rs out->lZ P ps out->Q (.ref d) H'
theorem sc__law_key:kX ["_law_part"] ["_law_part"] (aj fG):=.i
theorem ok_lkey {f:Addr} {fd:FuncData} (F:Fun K "_law_key" "_law_key" fG f fd) (T:Blt mg):kZ P w K mg base CX0 1 f fd ["_law_part"] (spKey K):=by
 refine F.o sc__law_key λ_ _ _ _ H _ Q _ hr h=>?_
 ·obtain ⟨t,k,u,ns,rfl,ht,hk,q⟩:=h
  refine ⟨_,(ah (al (bE (aa (kj K T (aA (ar K rfl) (pv 0) ac (λ_ _=>rfl)) true) (aa (aA (ar K rfl) (pv 0) ac (λ_ _=>rfl)) ag))))),?_⟩
  exact ⟨_,rfl,t,_,_,_,rfl,rfl,SqT.of ht,rfl,k,ns,rfl,sqvT hk,_,rfl,t,_,_,_,rfl,rfl,SqT.of ht,rfl,by show 2<=sizeLine; decide,q⟩
theorem mi:kX ["_law_prime_here", "_law_parts", "_law_come", "_law_product_here", "_law_number_here", "_law_found"] ["_law_prime_here", "_law_parts"] (aj fM):=.i
theorem ok_lsum {f:Addr} {fd:FuncData} (F:Fun K "_law_sum" "_law_sum" fM f fd) (T:Blt mg) (rj:FnB P w K mg base 2 "_law_plus" (spLOp dH)) (oX:FnB P w K mg base 1 "_law_nought" spNought) (rJ:FnB P w K mg base 1 "_law_key" (spKey K)) :
  kZ P w K mg base CX0 4 f fd ["_law_prime_here", "_law_parts"] spLSum:=by
 refine F.o mi λ_ _ _ _ H _ Q _ hr h=>?_
 ·obtain ⟨l,P,ts,ps,rfl,hP,hl,hps,hn,hok,q⟩:=h
  have hB:=hP.b
  refine ⟨_,(ae (ak (i:=2) mi.nd rfl (Or.inr rfl) pe_dnewT)
(ae (bI PassesOwn.never rfl (bH K rfl (pv 1)) (e8 K (i:=3) (j:=4) rfl rfl mi.nd rfl rfl rfl rfl)
(ah (ps_dput (hu1 hr) (pv 2) (pv 3) (aB rj hr.m (aa (pv 0) (aa (pe_dget2 (hu1 hr) (pv 2) (pv 3) (aB oX hr.m (aa (pv 0) ag)) ⟨rfl,rfl,rfl,rfl⟩) (aa (pv 4) ag)))) rfl)))
(ae (kc (i:=5) mi.nd rfl (Or.inl rfl) (N:=["_law_product_here", "_law_come", "_law_prime_here"]) (src:=[none,some 2,some 0]) rfl rfl rfl (by exact (kpi_dict K rfl (pv 2))) (λ_ _ _=>by exact ⟨by exact (cR (i:=0) nd_1 rfl rfl),(ii (aq (kneD K rfl hr.units) (e5 (hu1 hr) (pv 1) (pv 0) (λ_ _=>rfl)) (aB oX hr.m (aa (pv 2) ag)) (ao _))),by exact (bE (aa (pv 0) (aa (e5 (hu1 hr) (pv 1) (pv 0) (λ_ _=>rfl)) ag)))⟩))
(ah (al (pe_sortK T rJ hr.m (pv 5))))))),?_⟩
  have lt:ts.length=ps.length:=Paired.length hps
  intro d hd
  have dl:d ≠ l:=λz=>by rw [z,hl] at hd; cases hd
  refine ⟨_,rfl,l,rfl,⟨_,SqL.of (by rw [au dl.symm]; exact hl)⟩,f8 (xs:=ts) (λi σ H'=>∃ (x3 x4:Option V) (kvs:List (List Key × V)),σ=[some (.int P),some (.ref l),some (.ref d),x3,x4,none]/\kW H H'/\H' d=some (.dT kvs)/\lF (At P H') kvs (acc P (ps.take i))) ?_ ?_ ?_ ?_⟩
  ·exact ⟨none,none,[],rfl,kW.new hd,af,.nil⟩
  ·rintro i σ H' _ ⟨x3,x4,kvs,rfl,sm,_⟩
   exact SqL.of (sm _ _ hl)
  ·rintro i x σ H1 hx ⟨x3,x4,kvs,rfl,sm,hd1,dr⟩
   obtain ⟨p,ep,t,k,u,rfl,ht,hk,hu⟩:=hps.at_ hx
   have tk:∀ t xs,H t=some (.tup xs)->H1 t=some (.tup xs):=λt xs e=>sm _ _ e
   refine ⟨t,_,rfl,SqT.of (sm _ _ ht),rfl,_,_,rfl,_,_,rfl,rfl,?_⟩
   refine ⟨_,rfl,_,rfl,d,rfl,.inr ⟨kvs,.inl hd1⟩,_,rfl,_,rfl,P,rfl,hP,λr H2 s2 a0=>?_⟩
   have hk2:H2 k=some (.tup ((kI p.1).map kV)):=by rw [kI_kV]; exact s2 _ _ (sm _ _ hk)
   refine ⟨_,DGet.t (s2 _ _ hd1) hk2,?_⟩
   have mp:p ∈ ps:=mem_of_getElem? ep
   obtain ⟨op,zp⟩:=hok.1 p mp
   have okm:∀ q ∈ acc P (ps.take i),OkN P q.2:=gv hB.1 hB.2.2 λq hq=>(hok.1 q (mem_of_mem_take hq)).1
   have hw:At P H2 ((fi kvs (kI p.1)).getD r) ((bW (acc P (ps.take i)) p.1).getD (0,1))/\OkN P ((bW (acc P (ps.take i)) p.1).getD (0,1))/\Sz 4300 ((bW (acc P (ps.take i)) p.1).getD (0,1)):=by
    rcases dr.val p.1 with ⟨e1,e2⟩ | ⟨v,y,e1,e2,ra⟩
    ·rw [e1,e2]
     exact ⟨a0,eS hB.1 hB.2.2,sz_01⟩
    ·rw [e1,e2]
     exact ⟨ra.same s2,okm _ (bV e2),hok.2 i _ (bV e2)⟩
   refine ⟨_,rfl,P,_,u,_,p.2,rfl,hP,hw.1,(hu.same (sm.trans s2)),hw.2.1,op,hw.2.2,zp,λr3 H3 s3 a3=>?_⟩
   refine ⟨_,rfl,_,rfl,d,_,rfl,DPut.t (k:=kI p.1) (s3 _ _ (s2 _ _ hd1)) (s3 _ _ hk2) ?_,?_⟩
   ·have h1:kvs.length=(acc P (ps.take i)).length:=Paired.length dr
    have h2:=gj P (ps.take i)
    rw [length_take] at h2
    rw [h1,sizeLine_eq]
    omega
   ·have d3:H3 d=some (.dT kvs):=s3 _ _ (s2 _ _ hd1)
    have keep:∀ c o,H3 c=some o->c ≠ d->upd H3 d (.dT (da kvs (kI p.1) r3)) c=some o:=λc o e hc=>by rw [au hc]; exact e
    have tk3:∀ t xs,H3 t=some (.tup xs)->upd H3 d (.dT (da kvs (kI p.1) r3)) t=some (.tup xs):=λt xs e=>keep t _ e (bU e d3 (by intro z; cases z))
    refine ⟨_,_,_,rfl,λc o e=>keep c o (s3 _ _ (s2 _ _ (sm c o e))) (aC e hd),af,?_⟩
    rw [eh ep]
    exact lF.put (a3.mono tk3) (dr.mono λv x z=>((z.same s2).same s3).mono tk3)
  ·rintro σ H1 ⟨x3,x4,kvs,rfl,sm,hd1,dr⟩
   rw [lt,take_length] at dr
   have nd:=jO P ps
   have lm:=gj P ps
   have okm:∀ q ∈ acc P ps,OkN P q.2:=gv hB.1 hB.2.2 λq hq=>(hok.1 q hq).1
   unfold lZ at q
   generalize acc P ps=m at *
   refine ⟨_,rfl,d,kvs,rfl,hd1,λo as pk=>?_⟩
   have tp:=dr.tups pk
   have la:as.length=m.length:=Paired.length tp
   have keep:∀ c u,H1 c=some u->c ≠ d->upd H1 d (.frz o (.dT kvs)) c=some u:=λc u e hc=>by rw [au hc]; exact e
   have tk:∀ t xs,H1 t=some (.tup xs)->upd H1 d (.frz o (.dT kvs)) t=some (.tup xs):=λt xs e=>keep t _ e (bU e hd1 (by intro z; cases z))
   have smF:kW H (upd H1 d (.frz o (.dT kvs))):=λc u e=>keep c u (sm c u e) (aC e hd)
   have hfz:upd H1 d (.frz o (.dT kvs)) d=some (.frz o (.dT kvs)):=af
   have dr':lF (At P (upd H1 d (.frz o (.dT kvs)))) kvs m:=dr.mono λv x z=>z.mono tk
   have tpF:∀ (i:Nat) (a:Addr) (p:az),as[i]? = some a->m[i]? = some p->upd H1 d (.frz o (.dT kvs)) a=some (.tup (p.1.map V.int)):=λi a p h1 h2=>tk _ _ (show H1 a=some (.tup (p.1.map V.int)) from gJ (R:=λ(a:Addr) (q:az)=>H1 a=some (.tup (q.1.map V.int))) tp h1 h2)
   generalize upd H1 d (.frz o (.dT kvs))=HF at *
   refine eY (n:=m.length) (σ0:=[none,some (.ref d),some (.int P)]) rfl (λacc i zs σ H'=>∃ u:Option V,σ=[u,some (.ref d),some (.int P)]/\kW HF H'/\lg P H' zs ((m.take i).filter nz)) (by rw [sizeLine_eq]; omega) (λacc hacc=>⟨none,rfl,kW.new hacc,.nil⟩) ?_ ?_ ?_ ?_
   ·rintro acc i zs σ H' hacc hi hz ⟨u,rfl,sm',_⟩
    exact ⟨sm' _ _ hfz,by rw [length_map,la]; exact hi⟩
   ·rintro acc zs σ H' hacc hz ⟨u,rfl,sm',_⟩
    exact ⟨sm' _ _ hfz,by rw [length_map,la]; exact Nat.le_refl _⟩
   ·rintro acc i zs σ H9 x H' hacc hi hz hzl ⟨u,rfl,sm',pr⟩ ⟨rfl,hx⟩
    obtain ⟨a,ea,rfl⟩:∃ a,as[i]? = some a/\x=.ref a:=by
     rw [getElem?_map] at hx
     cases e:as[i]? with
     | none=>rw [e] at hx; cases hx
     | some a=>rw [e] at hx; exact ⟨a,rfl,(Option.some.inj hx).symm⟩
    obtain ⟨p,ep⟩:∃ p,m[i]? = some p:=⟨_,getElem?_eq_getElem hi⟩
    have mp:p ∈ m:=mem_of_getElem? ep
    have ha:=tpF i a p ea ep
    obtain ⟨v,e1,av⟩:∃ v,fi kvs (kI p.1)=some v/\At P HF v p.2:=by
     rcases dr'.val p.1 with ⟨_,e2⟩ | ⟨v,y,e1,e2,ra⟩
     ·rw [gm nd (show (p.1,p.2) ∈ m from mp)] at e2; cases e2
     ·rw [gm nd (show (p.1,p.2) ∈ m from mp)] at e2
      cases e2
      exact ⟨v,e1,ra⟩
    have dg:∀ H2,kW HF H2->DGet H2 d (.ref a) (some v):=λH2 s2=>.inr ⟨kvs,kI p.1,a,.inr ⟨o,s2 _ _ hfz⟩,rfl,by rw [kI_kV]; exact s2 _ _ ha,e1.symm⟩
    refine ⟨_,rfl,_,rfl,d,v,rfl,dg H' sm',_,rfl,P,rfl,hP,λr H3 s3 a3=>?_⟩
    have s3':=sm'.trans s3
    refine ⟨dN P p.2,dN P (0,1),gr (av.same s3'),gr a3,bD _ _,bD _ _,?_⟩
    rw [im (okm p mp) (eS hB.1 hB.2.2)]
    have en:(!decide (p.2=(0,1)))=nz p:=by unfold nz; rw [decide_not]
    rw [en]
    have pr3:=pr.mono λt xs e=>s3 _ _ e
    refine ⟨_,rfl,aY (λh=>?_) (λh=>?_)⟩
    ·refine ⟨_,rfl,_,rfl,_,rfl,d,v,rfl,dg H3 s3',by show 2<=sizeLine; decide,λt nt=>?_⟩
     have s4:=kW.new (o:=.tup [.ref a,v]) nt
     have s4':=s3'.trans s4
     have hz4:=s4 _ _ (s3 _ _ hz)
     have keep4:∀ c u,(upd H3 t (.tup [.ref a,v])) c=some u->c ≠ acc->upd (upd H3 t (.tup [.ref a,v])) acc (.lst (zs++[.ref t])) c=some u:=λc u e hc=>by rw [au hc]; exact e
     have tk4:∀ c xs,(upd H3 t (.tup [.ref a,v])) c=some (.tup xs)->upd (upd H3 t (.tup [.ref a,v])) acc (.lst (zs++[.ref t])) c=some (.tup xs):=λc xs e=>keep4 c _ e (bU e hz4 (by intro z; cases z))
     refine ⟨zs,hz4,by rw [sizeLine_eq]; omega,_,af,by rw [length_append,length_singleton]; omega,_,rfl,λc u e=>keep4 c u (s4' c u e) (aC e hacc),?_⟩
     rw [cU ep,if_pos h]
     exact (lg.snoc (p:=p) ⟨t,a,v,rfl,af,s4' _ _ ha,av.same s4'⟩ (pr3.mono λt xs e=>s4 _ _ e)).mono tk4
    ·refine ⟨zs,s3 _ _ hz,by omega,_,rfl,s3',?_⟩
     rw [cU ep,if_neg h,append_nil]
     exact pr3
   ·rintro acc zs σ H' hacc hz hzl ⟨u,rfl,sm',pr⟩
    rw [take_length] at pr
    have sub:((m.filter nz).map (·.1)).Nodup:=(List.Sublist.map _ List.filter_sublist).nodup nd
    refine ⟨_,rfl,.inl ⟨acc,zs,rfl,SqL.of hz,by omega,keyP H',?_,λy hy H2 s2=>?_,λD H2 ws nD s2 hD pm pw=>?_⟩⟩
    ·rw [pr.keys]
     exact hk_nodup sub
    ·obtain ⟨p,hp,h⟩:=pr.mem hy
     rw [h.key]
     obtain ⟨t,k,u,rfl,h1,h2,_⟩:=h
     exact ⟨t,k,u,p.1,rfl,s2 _ _ h1,SqT.of (s2 _ _ h2),λr nr=>⟨kW.new nr,r,k,rfl,af,SqT.of (kW.new nr _ _ (s2 _ _ h2))⟩⟩
    ·obtain ⟨qs,e,h'⟩:=pr.perm pm
     refine q D ws qs H2 ?_ ((smF.trans sm').trans s2) hD (h'.mono λt xs e=>s2 _ _ e) ⟨e,h'.fall pw⟩
     exact (smF.trans sm').free nD
theorem nd_2:(["product", "found", "nought"]:List Str).Nodup:=by decide +kernel
theorem cop_of {p f:Int} (h2:2<=p) (h9:p<=9973) (hp:fO p=true) (f0:0<f) (f1:f<p):Int.gcd p f=1:=by
 have hg0:0<Int.gcd p f:=Int.gcd_pos_of_ne_zero_left f (by omega)
 have hgp:((Int.gcd p f:Nat):Int) ∣ p:=Int.gcd_dvd_left ..
 have hgf:((Int.gcd p f:Nat):Int) ∣ f:=Int.gcd_dvd_right ..
 generalize Int.gcd p f=g at *
 have gle:(g:Int)<=f:=Int.le_of_dvd f0 hgf
 obtain ⟨h,e⟩:=hgp
 by_cases g1:g=1
 ·exact g1
 exfalso
 have g2:2<=(g:Int):=by omega
 have hh:2<=h:=by
  rcases Int.lt_or_le h 2 with z | z
  ·have:=Int.mul_le_mul_of_nonneg_left (show h<=1 by omega) (show 0<=(g:Int) by omega)
   omega
  ·exact z
 have key:∀ d k:Int,2<=d->d<=k->p=d*k->False:=λd k d2 dk ep=>by
  have hdd:d*d<=p:=by rw [ep]; exact Int.mul_le_mul_of_nonneg_left dk (by omega)
  have hd100:d<100:=Int.not_le.mp λz=>by
   have:=Int.mul_le_mul z z (by omega) (by omega)
   omega
  have h0:=(isPb_iff.mp hp).2 d d2 hd100 hdd
  have:p % d=0:=by rw [ep]; exact Int.mul_emod_right d k
  omega
 rcases Int.le_total (g:Int) h with z | z
 ·exact key g h g2 z e
 ·exact key h g hh z (by rw [e,Int.mul_comm])
theorem iN {a b p:Int} (h:p ∣ a-b):a % p=b % p:=Int.emod_eq_emod_iff_emod_sub_eq_zero.mpr (Int.emod_eq_zero_of_dvd h)
theorem ik (a p:Int):p ∣ a-a % p:=⟨a / p,by rw [Int.emod_def]; omega⟩
def spInv:Sp:=λvs H Q _=>∃ (w p:Int),vs=[.int w,.int p]/\2<=p/\p<=9973/\fO p=true/\w % p ≠ 0/\∀ r:Int,0<=r->r<p->(r*w) % p=1->Q (.int r) H
theorem lE:kX ["whole", "prime", "rest", "share", "following", "following_share", "often", "further", "further_share"] ["whole", "prime"] (aj gu):=.i
theorem ok_inverse {f:Addr} {fd:FuncData} (F:Fun K "inverse" "inverse" gu f fd):kZ P w K mg base CX0 1 f fd ["whole", "prime"] spInv:=by
 refine F.o lE λ_ _ _ _ H _ Q _ hr h=>?_
 ·obtain ⟨a,p,rfl,h2,h9,hp,ha,q⟩:=h
  refine ⟨_,(ae (ak (i:=2) lE.nd rfl (Or.inl rfl) (pv 1))
(ae (ak (i:=3) lE.nd rfl (Or.inl rfl) ac)
(ae (ak (i:=4) lE.nd rfl (Or.inl rfl) (am bn (pv 0) (pv 1)))
(ae (ak (i:=5) lE.nd rfl (Or.inl rfl) ac)
(ae (eU PassesOwn.never (aq eM (pv 4) ac (ao _))
(ae (ak (i:=6) lE.nd rfl (Or.inl rfl) (am cf (pv 2) (pv 4)))
(ae (ak (i:=7) lE.nd rfl (Or.inl rfl) (am df (pv 2) (am bf (pv 6) (pv 4))))
(ae (ak (i:=8) lE.nd rfl (Or.inl rfl) (am df (pv 3) (am bf (pv 6) (pv 5))))
(ae (ak (i:=2) lE.nd rfl (Or.inl rfl) (pv 4))
(ae (ak (i:=3) lE.nd rfl (Or.inl rfl) (pv 5))
(ae (ak (i:=4) lE.nd rfl (Or.inl rfl) (pv 7))
(ah (ak (i:=5) lE.nd rfl (Or.inl rfl) (pv 8))))))))))
(ah (al (am bn (pv 5) (pv 1))))))))),?_⟩
  refine ⟨_,rfl,_,rfl,_,rfl,_,_,rfl,rfl,(by show (0:Int)<p; omega),?_⟩
  have m0:=Int.emod_nonneg a (show p ≠ 0 by omega)
  have m1:=Int.emod_lt_of_pos a (show 0<p by omega)
  refine el (λσ H'=>∃ (R S F G:Int) (u6 u7 u8:Option V),σ=[some (.int a),some (.int p),some (.int R),some (.int S),some (.int F),some (.int G),u6,u7,u8]/\H'=H/\1<=F/\F<R/\R<=p/\Int.gcd R F=1/\p ∣ S*a-R/\p ∣ G*a-F)
   (λσ _=>match σ with | [_,_,_,_,some (.int F),_,_,_,_]=>F.toNat | _=>0) ⟨p,0,a % p,1,none,none,none,rfl,rfl,by omega,m1,Int.le_refl p,cop_of h2 h9 hp (by omega) m1,⟨-1,by omega⟩,by rw [Int.one_mul]; exact ik a p⟩ ?_ ?_
  ·rintro σ H2 ⟨R,S,F,G,u6,u7,u8,rfl,rfl,f1,fR,Rp,hg,d1,d2⟩
   refine ⟨_,rfl,rfl,_,rfl,?_⟩
   by_cases hF:F=1
   ·subst hF
    refine iteNS rfl ?_
    refine ⟨_,rfl,_,rfl,_,_,rfl,rfl,(by show (0:Int)<p; omega),?_⟩
    refine q _ (Int.emod_nonneg _ (by omega)) (Int.emod_lt_of_pos _ (by omega)) ?_
    have e1:(G % p*a) % p=1 % p:=by
     apply iN
     obtain ⟨k1,e1⟩:=d2
     obtain ⟨k2,e2⟩:=ik G p
     refine ⟨k1-k2*a,?_⟩
     have e3:G % p=G-p*k2:=by omega
     rw [e3,Int.sub_mul,Int.mul_sub,Int.mul_assoc]
     omega
    rw [e1]
    exact Int.emod_eq_of_lt (by decide) (by omega)
   ·rw [decide_eq_false (show ¬ V.int F=V.int 1 from λz=>hF (by injection z))]
    have eq:R.fdiv F=R / F:=Int.fdiv_eq_ediv_of_nonneg _ (by omega)
    have q0:0<=R / F:=Int.ediv_nonneg (by omega) (by omega)
    have q1:R / F<=R:=Int.ediv_le_self F (by omega)
    refine bG ⟨_,rfl,_,rfl,_,_,rfl,rfl,fT (by omega) (by omega),?_⟩
    refine ⟨_,rfl,_,rfl,_,rfl,_,_,rfl,rfl,.inr ⟨by omega,by omega⟩,_,_,rfl,rfl,?_⟩
    refine ⟨_,rfl,_,rfl,_,rfl,_,_,rfl,rfl,.inl ⟨by omega,by omega⟩,_,_,rfl,rfl,?_⟩
    rw [eq]
    have eF:R-R / F*F=R % F:=by rw [Int.emod_def,Int.mul_comm]
    have r0:=Int.emod_nonneg R (show F ≠ 0 by omega)
    have r1:=Int.emod_lt_of_pos R (show 0<F by omega)
    have rn:R % F ≠ 0:=λz=>by
     have hd:F ∣ R:=Int.dvd_of_emod_eq_zero z
     have:Nat.gcd R.natAbs F.natAbs=F.natAbs:=Nat.gcd_eq_right (Int.natAbs_dvd_natAbs.mpr hd)
     have hg':Nat.gcd R.natAbs F.natAbs=1:=hg
     omega
    refine ⟨_,rfl,_,rfl,_,rfl,_,rfl,⟨F,G,R-R / F*F,S-R / F*G,_,_,_,rfl,rfl,by omega,by omega,by omega,?_,d2,?_⟩,?_⟩
    ·rw [eF,Int.emod_def,Int.gcd_comm]
     rw [Int.gcd_sub_mul_left_left]
     exact hg
    ·obtain ⟨k1,e1⟩:=d1
     obtain ⟨k2,e2⟩:=d2
     refine ⟨k1-R / F*k2,?_⟩
     have e3:(S-R / F*G)*a-(R-R / F*F)=(S*a-R)-R / F*(G*a-F):=by
      rw [Int.sub_mul,Int.mul_sub,Int.mul_assoc]
      omega
     rw [e3,e1,e2,Int.mul_sub,Int.mul_left_comm]
    ·show (R-R / F*F).toNat<F.toNat
     omega
  ·rintro σ H Q Q' hq ⟨x,hx,e1,b,hb,h⟩
   exact ⟨x,hx,e1,b,hb,hq _ _ h⟩
def cY (CR CN:Addr):Sp:=λvs H Q E=>∃ (x dx:Addr) (p a b:Int),vs=[.ref x,.int a,.int b]/\H x=some (.ins CR dx [("modulus",.int p)])/\2<=p/\p<=9973/\fO p=true/\
 (b % p=0->E (.ref CN) none H)/\(b % p ≠ 0->∀ r:Int,0<=r->r<p->(r*b) % p=a % p->Q (.int r) H)
theorem sc_Rests_of:kX ["self", "top", "bottom"] ["self", "top", "bottom"] (aj aT):=.i
theorem ok_rofx {f CR mS:Addr} {fd:FuncData} (F:FunD K "of" "Rests.of" aT f fd) (cl:Cls K CR) (nM:lO K CR "modulus") (rm:FnB P w K mg base 1 "inverse" spInv) (ANoNumber:mg "NoNumber"=some (.ref mS)) (xc:XCl K mS) :
  kZ P w K mg base (CXE P w) 2 f fd ["self", "top", "bottom"] (cY CR mS):=by
 refine F.okX sc_Rests_of (λvs H Q E h=>?_) (λcdv A outer s H vs Q E hr h=>?_)
 ·obtain ⟨x,dx,p,a,b,rfl,_⟩:=h
  rfl
 ·obtain ⟨x,dx,p,a,b,rfl,hx,h2,h9,hp,qn,qy⟩:=h
  refine ⟨_,(ae (aG (aq a9 (am bn (pv 2) (eW (pv 0) rfl)) ac (ao _))
(ah (iM xc.ek ANoNumber (aa aE ag)))
aw)
(ah (al (am bn (am bf (pv 1) (aB rm hr.m (aa (pv 2) (aa (eW (pv 0) rfl) ag)))) (eW (pv 0) rfl))))),?_⟩
  have p0:(0:Int)<p:=by omega
  refine ⟨_,rfl,_,rfl,x,CR,dx,_,_,rfl,hx,cl,nM,rfl,_,_,rfl,rfl,p0,rfl,_,rfl,?_⟩
  by_cases hb:b % p=0
  ·rw [decide_eq_true (congrArg V.int hb)]
   exact bG ⟨(by show 1<=sizeLine; decide),qn hb⟩
  ·rw [decide_eq_false (show ¬ V.int (b % p)=V.int 0 from λz=>hb (by injection z))]
   refine be ⟨_,rfl,_,rfl,_,rfl,x,CR,dx,_,_,rfl,hx,cl,nM,rfl,b,p,rfl,h2,h9,hp,hb,λr r0 r1 hr'=>?_⟩
   refine ⟨_,_,rfl,rfl,.inr ⟨by omega,by omega⟩,_,rfl,x,CR,dx,_,_,rfl,hx,cl,nM,rfl,_,_,rfl,rfl,p0,?_⟩
   refine qy hb _ (Int.emod_nonneg _ (by omega)) (Int.emod_lt_of_pos _ p0) ?_
   apply iN
   obtain ⟨k1,e1⟩:=ik (a*r) p
   obtain ⟨k2,e2⟩:=ik (r*b) p
   rw [hr'] at e2
   refine ⟨a*k2-k1*b,?_⟩
   have e3:a*r % p=a*r-p*k1:=by omega
   have e4:r*b=1+p*k2:=by omega
   rw [e3,Int.sub_mul,Int.mul_assoc,e4,Int.mul_add,Int.mul_sub,Int.mul_one,Int.mul_left_comm,Int.mul_assoc]
   omega
theorem lJ.mono {CF CR x:Addr} {p:Int} {H H':Hp} (h:lJ CF CR H x p) (k:∀ o,H x=some o->H' x=some o):lJ CF CR H' x p:=by
 rcases h with ⟨h0,dx,e⟩ | ⟨h0,dx,e⟩
 ·exact .inl ⟨h0,dx,k _ e⟩
 ·exact .inr ⟨h0,dx,k _ e⟩
theorem kF {m:Str} (e:(m == ("modulus" : Str))=false) (v:V):List.lookup m [(("modulus" : Str),v)]=none:=by
 simp only [List.lookup,e]
theorem op_go {CF CR x:Addr} {P:Int} {u v:V} {a b:Int × Int} {H:Hp} {σ:L2.St} {R:VK} {ta:TE} {t:TA} {m:Str} (gF:Int × Int->Int × Int->Int × Int) (gR:Int->Int->Int) (res:Int × Int) (hres:res=if P=0 then nrm (gF a b).1 (gF a b).2 else (gR a.1 b.1 % P,1)) (hm:(m == ("modulus" : Str))=false)
  (hP:ll P) (hN:lJ CF CR H x P) (h1:At P H u a) (h2:At P H v b) (o1:OkN P a) (o2:OkN P b) (s1:Sz 4300 a) (s2:Sz 4300 b) (ha:∀ Z:VK,Z (.ref x) H->ta σ H Z) (ht:∀ Z:List V->Hp->Prop,Z [u,v] H->t σ H Z) (hR:∀ r H',kW H H'->At P H' r res->R r H') :
  tOrE (fQ CF m (jh CF gF) [] E0 ta t) (fQ CR m (iQ CR gR) [] E0 ta t) σ H R:=by
 subst hres
 rcases hN with ⟨h0,dx,e⟩ | ⟨h0,dx,e⟩
 ·rcases h1 with ⟨_,s,rfl,hs⟩ | ⟨z,_⟩
  ·rcases h2 with ⟨_,t',rfl,ht'⟩ | ⟨z,_⟩
   ·rw [if_pos h0] at hR
    exact .inl (ha _ ⟨x,dx,[],rfl,e,rfl,ht _ ⟨x,dx,s,t',a,b,rfl,e,hs,ht',o1.den,o2.den,s1,s2,λr nr=>hR _ _ (kW.new nr) (.inl ⟨h0,r,rfl,af⟩)⟩⟩)
   ·exact absurd h0 z
  ·exact absurd h0 z
 ·rcases h1 with ⟨z,_⟩ | ⟨_,rfl,_⟩
  ·exact absurd z h0
  ·rcases h2 with ⟨z,_⟩ | ⟨_,rfl,_⟩
   ·exact absurd z h0
   ·rw [if_neg h0] at hR
    have hb:=hP.b
    rcases o1 with ⟨z,_⟩ | ⟨_,x0,x1,_⟩
    ·exact absurd z h0
    rcases o2 with ⟨z,_⟩ | ⟨_,y0,y1,_⟩
    ·exact absurd z h0
    exact .inr (ha _ ⟨x,dx,_,rfl,e,kF hm _,ht _ ⟨x,dx,P,_,_,rfl,e,by omega,hb.2.1,x0,x1,y0,y1,hR _ _ (kW.refl H) (.inr ⟨h0,rfl,rfl⟩)⟩⟩)
theorem of_go {CF CR mS x:Addr} {P a:Int} {vs dvs:List V} {H:Hp} {σ:L2.St} {R:VK} {ta:TE} {t:TA} (hP:ll P) (hN:lJ CF CR H x P) (hv:vs++dvs=[.int a,.int 1]) (ha:∀ Z:VK,Z (.ref x) H->ta σ H Z) (ht:∀ Z:List V->Hp->Prop,Z vs H->t σ H Z)
  (hR:∀ r H',kW H H'->At P H' r (if P=0 then (a,1) else (a % P,1))->R r H') :
  tOrE (fQ CF "of" (ci mS) dvs E0 ta t) (fQ CR "of" (cY CR mS) dvs E0 ta t) σ H R:=by
 rcases hN with ⟨h0,dx,e⟩ | ⟨h0,dx,e⟩
 ·rw [if_pos h0] at hR
  refine .inl (ha _ ⟨x,dx,[],rfl,e,rfl,ht _ ⟨.ref x,a,1,by rw [hv],λz=>absurd z (by decide),λ_=>⟨by decide +kernel,λr nr=>?_⟩⟩⟩)
  rw [(dq a 1 (by decide)).mpr (Int.gcd_one_right ..)]
  exact hR _ _ (kW.new nr) (.inl ⟨h0,r,rfl,af⟩)
 ·rw [if_neg h0] at hR
  rcases hP with z | ⟨h2,h9,hp⟩
  ·exact absurd z h0
  have e1:(1:Int) % P=1:=Int.emod_eq_of_lt (by decide) (by omega)
  refine .inr (ha _ ⟨x,dx,_,rfl,e,kF (by decide +kernel) _,ht _ ⟨x,dx,P,a,1,by rw [hv],e,h2,h9,hp,(λz=>absurd (e1.symm.trans z) (by decide)),λ_ r r0 r1 hr=>?_⟩⟩)
  rw [Int.mul_one,Int.emod_eq_of_lt r0 r1] at hr
  rw [hr]
  exact hR _ _ (kW.refl H) (.inr ⟨h0,rfl,rfl⟩)
def spDeg (K:Frag):Sp:=λvs H Q _=>∃ (a:Addr) (ns:List Int),vs=[.ref a]/\SqT K H a (ns.map V.int)/\Q (.int ns.sum) H
theorem sc_degree:kX ["one"] ["one"] (aj iX):=.i
theorem ok_degree {f:Addr} {fd:FuncData} (F:Fun K "degree" "degree" iX f fd) (T:Blt mg):kZ P w K mg base CX0 1 f fd ["one"] (spDeg K):=by
 refine F.o sc_degree λ_ _ _ _ H _ Q _ hr h=>?_
 ·obtain ⟨a,ns,rfl,ha,q⟩:=h
  refine ⟨_,(ah (al (kj K T (pv 0) true))),?_⟩
  exact ⟨_,rfl,a,ns,rfl,sqvT ha,q⟩
def spHeight (K:Frag):Sp:=λvs H Q _=>∃ (a:Addr) (ns:List Int),vs=[.ref a]/\SqT K H a (ns.map V.int)/\∀ t,H t=none->Q (.ref t) (upd H t (.tup [.int ns.sum,.ref a]))
theorem sc_height:kX ["one"] ["one"] (aj iC):=.i
theorem ok_height {f:Addr} {fd:FuncData} (F:Fun K "height" "height" iC f fd) (qk:FnB P w K mg base 1 "degree" (spDeg K)):kZ P w K mg base CX0 2 f fd ["one"] (spHeight K):=by
 refine F.o sc_height λ_ _ _ _ H _ Q _ hr h=>?_
 ·obtain ⟨a,ns,rfl,ha,q⟩:=h
  refine ⟨_,(ah (al (bE (aa (aB qk hr.m (aa (pv 0) ag)) (aa (pv 0) ag))))),?_⟩
  exact ⟨_,rfl,a,ns,rfl,ha,_,rfl,by show 2<=sizeLine; decide,q⟩
def dU (CG:Addr) (H:Hp) (g x:Addr) (L:Int):Prop:=∃ dx,H g=some (.ins CG dx [("kind",.ref x),("width",.int L)])
def gL (CG:Addr):Sp:=λvs H Q _=>∃ (g x:Addr) (L:Int),vs=[.ref g]/\dU CG H g x L/\Q (.ref x) H
def kE (CG:Addr):Sp:=λvs H Q _=>∃ (g x:Addr) (L:Int),vs=[.ref g]/\dU CG H g x L/\Q (.int L) H
theorem g9:kX ["self"] ["self"] (aj bj):=.i
theorem ok_rnum {f CG:Addr} {fd:FuncData} (F:Fun K "numbers" "Ring.numbers" bj f fd) (cl:Cls K CG) (nA:lO K CG "kind"):kZ P w K mg base CX0 1 f fd ["self"] (gL CG):=by
 refine F.o g9 λ_ _ _ _ H _ Q _ hr h=>?_
 ·obtain ⟨g,x,L,rfl,⟨dx,hg⟩,q⟩:=h
  refine ⟨_,(ah (al (eW (pv 0) rfl))),?_⟩
  exact ⟨_,rfl,g,CG,dx,_,_,rfl,hg,cl,nA,rfl,q⟩
theorem hU:kX ["self"] ["self"] (aj bo):=.i
theorem ok_rlet {f CG:Addr} {fd:FuncData} (F:Fun K "letters" "Ring.letters" bo f fd) (cl:Cls K CG) (nA:lO K CG "width"):kZ P w K mg base CX0 1 f fd ["self"] (kE CG):=by
 refine F.o hU λ_ _ _ _ H _ Q _ hr h=>?_
 ·obtain ⟨g,x,L,rfl,⟨dx,hg⟩,q⟩:=h
  refine ⟨_,(ah (al (eW (pv 0) rfl))),?_⟩
  exact ⟨_,rfl,g,CG,dx,_,_,rfl,hg,cl,nA,rfl,q⟩
def spSum (CF CR CG:Addr):Sp:=λvs H Q _=>∃ (g x l:Addr) (P L:Int) (ts:List V) (ps:List az),vs=[.ref g,.ref l]/\ll P/\dU CG H g x L/\lJ CF CR H x P/\H l=some (.lst ts)/\lg P H ts ps/\ps.length<=60/\jS P ps/\
 ∀ (d:Addr) (rs:List V) (out:List az) (H':Hp),H d=none->kW H H'->H' d=some (.lst rs)->lg P H' rs out->lZ P ps out->Q (.ref d) H'
theorem fD {P:Int} {x:Int × Int} (h:OkN P x):dH P (0,1) x=x:=by
 unfold dH
 rcases h with ⟨h0,hd,hg⟩ | ⟨h0,a,b,c⟩
 ·rw [if_pos h0]
  show nrm (0*x.2+x.1*1) (1*x.2)=x
  rw [Int.zero_mul,Int.zero_add,Int.mul_one,Int.one_mul]
  exact (dq x.1 x.2 hd).mpr hg
 ·rw [if_neg h0]
  show ((0+x.1) % P,1)=x
  rw [Int.zero_add,Int.emod_eq_of_lt a b]
  exact Prod.ext rfl c.symm
theorem l7:kX ["ring", "parts", "numbers", "found", "product", "number", "nought", "falling"] ["ring", "parts"] (aj iq):=.i
theorem ok_sumof {f CF CR CG mS:Addr} {fd:FuncData} (F:Fun K "sum_of" "sum_of" iq f fd) (T:Blt mg) (ur:FnB P w K mg base 2 "height" (spHeight K)) (oj:MtB P w K mg base 1 CG "numbers" (gL CG))
  (vC:MtB P w K mg base 3 CF "plus" (jh CF λa b=>(a.1*b.2+b.1*a.2,a.2*b.2))) (vD:MtB P w K mg base 3 CR "plus" (iQ CR (· + ·)))
  (nJ:dC P w K mg base 2 CF "of" [.int 1] (ci mS)) (nN:dC P w K mg base 2 CR "of" [.int 1] (cY CR mS)) :
  kZ P w K mg base CX0 5 f fd ["ring", "parts"] (spSum CF CR CG):=by
 refine F.o l7 λ_ _ _ _ H _ Q _ hr h=>?_
 ·obtain ⟨g,x,l,P,L,ts,ps,rfl,hP,hg,hN,hl,hps,hn,hok,q⟩:=h
  have hB:=hP.b
  refine ⟨_,(ae (ak (i:=2) l7.nd rfl (Or.inl rfl) (bu oj hr.m (pv 0)))
(ae (ak (i:=3) l7.nd rfl (Or.inr rfl) pe_dnewT)
(ae (bI PassesOwn.never rfl (bH K rfl (pv 1)) (e8 K (i:=4) (j:=5) rfl rfl l7.nd rfl rfl rfl rfl)
(ah (ps_dput (hu1 hr) (pv 3) (pv 4) (bw (pt_cmp (pc_din (hu1 hr) (pv 4) (pv 3))) (cK (pe_mt vC hr.m (pv 2) (aa (e5 (hu1 hr) (pv 3) (pv 4) (λ_ _=>rfl)) (aa (pv 5) ag))) (pe_mt vD hr.m (pv 2) (aa (e5 (hu1 hr) (pv 3) (pv 4) (λ_ _=>rfl)) (aa (pv 5) ag)))) (pv 5)) rfl)))
(ae (ak (i:=6) l7.nd rfl (Or.inr rfl) (cK (bT nJ hr.m bN (pv 2) (aa ac ag)) (bT nN hr.m bN (pv 2) (aa ac ag))))
(ae (ak (i:=7) l7.nd rfl (Or.inl rfl) (pe_sortK T ur hr.m (pv 3)))
(ah (al (by exact cv (N:=["product", "found", "nought"]) (src:=[none,some 3,some 6]) rfl rfl rfl (by exact (bH K rfl (pv 7))) (λ_ _ _=>by exact ⟨by exact (cR (i:=0) nd_2 rfl rfl),(ii (aq (kneD K rfl hr.units) (e5 (hu1 hr) (pv 1) (pv 0) (λ_ _=>rfl)) (pv 2) (ao _))),by exact (bE (aa (pv 0) (aa (e5 (hu1 hr) (pv 1) (pv 0) (λ_ _=>rfl)) ag)))⟩))))))))),?_⟩
  have lt:ts.length=ps.length:=Paired.length hps
  obtain ⟨dxg,hg'⟩:=id hg
  refine ⟨_,rfl,g,dxg,_,rfl,hg',rfl,g,x,L,rfl,hg,?_⟩
  intro d hd
  have dl:d ≠ l:=λz=>by rw [z,hl] at hd; cases hd
  refine ⟨_,rfl,l,rfl,⟨_,SqL.of (by rw [au dl.symm]; exact hl)⟩,f8 (xs:=ts) (λi σ H'=>∃ (x4 x5:Option V) (kvs:List (List Key × V)),σ=[some (.ref g),some (.ref l),some (.ref x),some (.ref d),x4,x5,none,none]/\kW H H'/\H' d=some (.dT kvs)/\lF (At P H') kvs (acc P (ps.take i))) ?_ ?_ ?_ ?_⟩
  ·exact ⟨none,none,[],rfl,kW.new hd,af,.nil⟩
  ·rintro i σ H' _ ⟨x3,x4,kvs,rfl,sm,_⟩
   exact SqL.of (sm _ _ hl)
  ·rintro i v σ H1 hx ⟨x3,x4,kvs,rfl,sm,hd1,dr⟩
   obtain ⟨p,ep,t,k,u,rfl,ht,hk,hu⟩:=hps.at_ hx
   refine ⟨t,_,rfl,SqT.of (sm _ _ ht),rfl,_,_,rfl,_,_,rfl,rfl,?_⟩
   have hk1:H1 k=some (.tup ((kI p.1).map kV)):=by rw [kI_kV]; exact sm _ _ hk
   have mp:p ∈ ps:=mem_of_getElem? ep
   obtain ⟨op,zp⟩:=hok.1 p mp
   have okm:∀ q ∈ acc P (ps.take i),OkN P q.2:=gv hB.1 hB.2.2 λq hq=>(hok.1 q (mem_of_mem_take hq)).1
   have hlen:kvs.length<sizeLine:=by
    have h1:kvs.length=(acc P (ps.take i)).length:=Paired.length dr
    have h2:=gj P (ps.take i)
    rw [length_take] at h2
    rw [h1,sizeLine_eq]
    omega
   have fin:∀ r3 H3,kW H1 H3->At P H3 r3 (dH P ((bW (acc P (ps.take i)) p.1).getD (0,1)) p.2)->∃ (x4 x5:Option V) (kvs':List (List Key × V)),[some (V.ref g),some (.ref l),some (.ref x),some (.ref d),some (.ref k),some u,none,none]=[some (.ref g),some (.ref l),some (.ref x),some (.ref d),x4,x5,none,none]/\kW H (upd H3 d (.dT (da kvs (kI p.1) r3)))/\(upd H3 d (.dT (da kvs (kI p.1) r3))) d=some (.dT kvs')/\lF (At P (upd H3 d (.dT (da kvs (kI p.1) r3)))) kvs' (acc P (ps.take (i+1))):=λr3 H3 s3 a3=>by
    have d3:H3 d=some (.dT kvs):=s3 _ _ hd1
    have keep:∀ c o,H3 c=some o->c ≠ d->upd H3 d (.dT (da kvs (kI p.1) r3)) c=some o:=λc o e hc=>by rw [au hc]; exact e
    have tk3:∀ t xs,H3 t=some (.tup xs)->upd H3 d (.dT (da kvs (kI p.1) r3)) t=some (.tup xs):=λt xs e=>keep t _ e (bU e d3 (by intro z; cases z))
    refine ⟨_,_,_,rfl,λc o e=>keep c o (s3 _ _ (sm c o e)) (aC e hd),af,?_⟩
    rw [eh ep]
    exact lF.put (a3.mono tk3) (dr.mono λv x z=>(z.same s3).mono tk3)
   have put:∀ r3 H3,kW H1 H3->DPut H3 d (.ref k) r3 (upd H3 d (.dT (da kvs (kI p.1) r3))):=λr3 H3 s3=>DPut.t (k:=kI p.1) (s3 _ _ hd1) (s3 _ _ hk1) hlen
   refine ⟨_,rfl,_,rfl,d,_,rfl,DGet.t hd1 hk1,_,rfl,?_⟩
   rcases dr.val p.1 with ⟨e1,e2⟩ | ⟨v,y,e1,e2,ra⟩
   ·rw [e1]
    rw [e2] at fin
    refine be ⟨_,rfl,_,rfl,_,rfl,d,_,rfl,put _ H1 (kW.refl _),fin _ H1 (kW.refl _) ?_⟩
    show At P H1 u (dH P (0,1) p.2)
    rw [fD op]
    exact hu.same sm
   ·rw [e1]
    rw [e2] at fin
    refine bG (op_go _ _ (dH P y p.2) (by unfold dH; rfl) (by decide +kernel) hP (hN.mono λo e=>sm _ _ e) ra (hu.same sm) (okm _ (bV e2)) op (hok.2 i _ (bV e2)) zp (λZ z=>⟨_,rfl,z⟩) (λZ z=>⟨_,rfl,_,rfl,d,v,rfl,(by rw [<- e1]; exact DGet.t hd1 hk1),_,rfl,z⟩) λr3 H3 s3 a3=>?_)
    exact ⟨_,rfl,_,rfl,d,_,rfl,put _ H3 s3,fin _ H3 s3 a3⟩
  ·rintro σ H1 ⟨x3,x4,kvs,rfl,sm,hd1,dr⟩
   rw [lt,take_length] at dr
   have nd:=jO P ps
   have lm:=gj P ps
   have okm:∀ q ∈ acc P ps,OkN P q.2:=gv hB.1 hB.2.2 λq hq=>(hok.1 q hq).1
   unfold lZ at q
   generalize acc P ps=m at *
   refine of_go (a:=0) hP (hN.mono λo e=>sm _ _ e) rfl (λZ z=>⟨_,rfl,z⟩) (λZ z=>z) λr H2 s2 A2=>?_
   rw [zero_if] at A2
   have hd2:=s2 _ _ hd1
   have dr2:lF (At P H2) kvs m:=dr.mono λv x z=>z.same s2
   have sm2:=sm.trans s2
   refine ⟨_,rfl,.inr ⟨d,kvs,rfl,hd2,λas pk=>?_⟩⟩
   have tp:=prod_of (dr2.tups pk)
   have la:(as.map V.ref).length=m.length:=Paired.length tp
   generalize as.map V.ref=vs at *
   refine ⟨by omega,jr H2,by rw [gy tp]; exact hk_nodup nd,λy hy H3 s3=>?_,λD H3 zs nD s3 hD pm pw=>?_⟩
   ·obtain ⟨p,hp,a,rfl,ha⟩:=prod_mem tp hy
    refine ⟨a,p.1,rfl,SqT.of (s3 _ _ ha),λt nt=>⟨kW.new nt,t,a,rfl,?_,?_⟩⟩
    ·rw [af]
     unfold jr
     rw [ib ha]
    ·unfold jr
     rw [ib ha]
     exact SqT.of (kW.new nt _ _ (s3 _ _ ha))
   ·obtain ⟨qs,pe,pq⟩:=paired_perm pm m tp
    have lq:zs.length=qs.length:=Paired.length pq
    have lz:qs.length=m.length:=pe.length_eq
    have fall:qs.Pairwise λa b=>klt (hk b) (hk a)=true:=by
     have z:(zs.map (jr H2)).Pairwise (λa b=>klt b a=true):=List.pairwise_map.mpr pw
     rw [gy pq] at z
     exact List.pairwise_map.mp z
    refine ⟨_,rfl,D,rfl,⟨_,SqL.of hD⟩,eY (n:=zs.length) (σ0:=[none,some (.ref d),some r]) rfl (λacc i ws σ H'=>∃ u:Option V,σ=[u,some (.ref d),some r]/\kW H3 H'/\lg P H' ws ((qs.take i).filter nz)) (by rw [sizeLine_eq]; omega) (λacc hacc=>⟨none,rfl,kW.new hacc,.nil⟩) ?_ ?_ ?_ ?_⟩
    ·rintro acc i ws σ H' hacc hi hz ⟨u,rfl,sm',_⟩
     exact ⟨zs,_,SqL.of (sm' _ _ hD),getElem?_eq_getElem hi⟩
    ·rintro acc ws σ H' hacc hz ⟨u,rfl,sm',_⟩
     exact ⟨zs,SqL.of (sm' _ _ hD),Nat.le_refl _⟩
    ·rintro acc i ws σ H9 x' H' hacc hi hz hzl ⟨u,rfl,sm',pr⟩ ⟨rfl,hx⟩
     have hx:=hx zs (SqL.of (sm' _ _ hD))
     obtain ⟨p,ep⟩:∃ p,qs[i]? = some p:=⟨_,getElem?_eq_getElem (by omega)⟩
     obtain ⟨a,rfl,ha⟩:=(gJ (R:=ProdR H2) pq hx ep)
     have mp:p ∈ m:=pe.mem_iff.mp (mem_of_getElem? ep)
     have s3':=s3.trans sm'
     obtain ⟨v,e1,av⟩:∃ v,fi kvs (kI p.1)=some v/\At P H2 v p.2:=by
      rcases dr2.val p.1 with ⟨_,e2⟩ | ⟨v,y,e1,e2,ra⟩
      ·rw [gm nd (show (p.1,p.2) ∈ m from mp)] at e2; cases e2
      ·rw [gm nd (show (p.1,p.2) ∈ m from mp)] at e2
       cases e2
       exact ⟨v,e1,ra⟩
     have dg:DGet H' d (.ref a) (some v):=.inr ⟨kvs,kI p.1,a,.inl (s3' _ _ hd2),rfl,by rw [kI_kV]; exact s3' _ _ ha,e1.symm⟩
     refine ⟨_,rfl,_,rfl,d,v,rfl,dg,_,rfl,dN P p.2,dN P (0,1),gr (av.same s3'),gr (A2.same s3'),bD _ _,bD _ _,?_⟩
     rw [im (okm p mp) (eS hB.1 hB.2.2)]
     have en:(!decide (p.2=(0,1)))=nz p:=by unfold nz; rw [decide_not]
     rw [en]
     refine ⟨_,rfl,aY (λh=>?_) (λh=>?_)⟩
     ·refine ⟨_,rfl,_,rfl,_,rfl,d,v,rfl,dg,by show 2<=sizeLine; decide,λt nt=>?_⟩
      have s4:=kW.new (o:=.tup [.ref a,v]) nt
      have hz4:=s4 _ _ hz
      have keep4:∀ c u,(upd H' t (.tup [.ref a,v])) c=some u->c ≠ acc->upd (upd H' t (.tup [.ref a,v])) acc (.lst (ws++[.ref t])) c=some u:=λc u e hc=>by rw [au hc]; exact e
      have tk4:∀ c xs,(upd H' t (.tup [.ref a,v])) c=some (.tup xs)->upd (upd H' t (.tup [.ref a,v])) acc (.lst (ws++[.ref t])) c=some (.tup xs):=λc xs e=>keep4 c _ e (bU e hz4 (by intro z; cases z))
      refine ⟨ws,hz4,by rw [sizeLine_eq]; omega,_,af,by rw [length_append,length_singleton]; omega,_,rfl,λc u e=>keep4 c u (s4 _ _ (sm' c u e)) (aC e hacc),?_⟩
      rw [cU ep,if_pos h]
      exact (lg.snoc (p:=p) ⟨t,a,v,rfl,af,s4 _ _ (s3' _ _ ha),(av.same s3').same s4⟩ (pr.mono λt xs e=>s4 _ _ e)).mono tk4
     ·refine ⟨ws,hz,by omega,_,rfl,sm',?_⟩
      rw [cU ep,if_neg h,append_nil]
      exact pr
    ·rintro acc ws σ H' hacc hz hzl ⟨u,rfl,sm',pr⟩
     rw [lq,take_length] at pr
     refine q acc ws _ H' ?_ ((sm2.trans s3).trans sm') hz pr ⟨pe.filter _,fall.filter _⟩
     exact (sm2.trans s3).free hacc
theorem nd_3:(["_law_number_here"]:List Str).Nodup:=by decide +kernel
def PsOk (P L:Int) (ps:List az):Prop:=∀ q ∈ ps,OkN P q.2/\Sz 103 q.2/\(q.1.length:Int)=L/\∀ e ∈ q.1,0<=e
def dP (P:Int) (p:az):PyData:=.tuple [dv p.1,dN P p.2]
def dS (P:Int) (out:List az):PyData:=.list (out.map (dP P))
theorem dP_ok (P:Int) (p:az):(dP P p).canLay0=true/\(dP P p).depth<=2:=by
 have h1:=bP p.1
 have h2:=bD P p.2
 have d1:(dv p.1).depth<=1:=by simp [dv,PyData.depth,PySem.W.ke_depthAll]
 have d2:(dN P p.2).depth<=1:=by
  unfold dN
  split
  ·simp [dv,PyData.depth,PyData.depthAll]
  ·simp [PyData.depth]
 refine ⟨?_,?_⟩
 ·simp only [dP,PyData.canLay0,PyData.canLayAll0,SeqAt.canLay_of_shaped h1,SeqAt.canLay_of_shaped h2,Bool.and_true]
 ·simp only [dP,PyData.depth,PyData.depthAll]
  omega
theorem dS_all (P:Int):∀ out:List az,PyData.canLayAll0 (out.map (dP P))=true/\PyData.depthAll (out.map (dP P))<=2
 | []=>⟨rfl,by simp [PyData.depthAll]⟩
 | p::r=>by
  obtain ⟨a,b⟩:=dP_ok P p
  obtain ⟨c,d⟩:=dS_all P r
  refine ⟨by simp only [map_cons,PyData.canLayAll0,a,c,Bool.and_true],?_⟩
  simp only [map_cons,PyData.depthAll]
  omega
theorem bC (P:Int) (out:List az):SeqAt.shaped (dS P out)=true:=by
 obtain ⟨c,d⟩:=dS_all P out
 unfold SeqAt.shaped dS
 rw [Bool.and_eq_true]
 refine ⟨by simp only [PyData.canLay0,c],decide_eq_true ?_⟩
 simp only [PyData.depth]
 omega
theorem eqv_dS (P:Int) (out:List az):PyData.eqv (dS P out) (dS P out)=true:=SeqAt.eqv_refl _ (SeqAt.canLay_of_shaped (bC P out))
theorem jN {K:Frag} {P:Int} {H:Hp}:∀ {ts:List V} {ps:List az},lg P H ts ps->DRs K H (ps.map (dP P)) ts
 | _,_,.nil=>.nil
 | _,_,.cons ⟨t,k,u,e,h1,h2,h3⟩ r=>by
  rw [e]
  exact .cons (.tup (SqT.of h1) (.cons (fg (SqT.of h2)) (.cons (gr h3) .nil))) (jN r)
theorem g6 {K:Frag} {P:Int} {H:Hp} {l:Addr} {ts:List V} {ps:List az} (hl:H l=some (.lst ts)) (h:lg P H ts ps):DR K H (dS P ps) (.ref l):=.lst (SqL.of hl) (jN h)
def spSLike (K:Frag):Sp:=λvs H Q _=>∃ (l:Addr) (P L:Int) (ts:List V) (ps:List az),vs=[.int P,.int L,.ref l]/\ll P/\H l=some (.lst ts)/\lg P H ts ps/\ps.length<=60/\jS P ps/\lZ P ps ps/\(∀ q ∈ ps,(q.1.length:Int)=L/\q.1.length<=10/\∀ e ∈ q.1,0<=e)/\
 ∀ H',kW H H'->Q (.bl true) H'
theorem mn:kX ["_law_prime_here", "_law_letters", "_law_found", "_law_part"] ["_law_prime_here", "_law_letters", "_law_found"] (aj cp):=.i
theorem ok_slike {f:Addr} {fd:FuncData} (F:Fun K "_law_sum_like" "_law_sum_like" cp f fd) (T:Blt mg) (nh:FnB P w K mg base 1 "_law_whole" (km K)) (oE:FnB P w K mg base 2 "_law_number_like" (spLike K)) (oV:FnB P w K mg base 4 "_law_sum" spLSum) :
  kZ P w K mg base CX0 5 f fd ["_law_prime_here", "_law_letters", "_law_found"] (spSLike K):=by
 refine F.o mn λ_ _ _ _ H _ Q _ hr h=>?_
 ·obtain ⟨l,P,L,ts,ps,rfl,hP,hl,hps,hn,hok,hsum,hL,q⟩:=h
  refine ⟨_,(ae (aG (bK (bd (eK K T (pv 2) T.list ir)))
(ah (al cW))
aw)
(ae (bI PassesOwn.never rfl (bH K rfl (pv 2)) (bY (i:=3) mn.nd rfl (Or.inl rfl))
(ae (aG (PW.pt (dw (bK (bd (eK K T (pv 3) T.tuple cP))) (dw (aq eM (cx K T (pv 3)) ac (ao _)) (dW (bK (bd (eK K T (aA (ar K rfl) (pv 3) ac (λ_ _=>rfl)) T.tuple cP)))))))
(ah (al cW))
aw)
(ae (aG (PW.pt (dw (aq eM (cx K T (aA (ar K rfl) (pv 3) ac (λ_ _=>rfl))) (pv 1) (ao _)) (dW (bK (bd (aB oE hr.m (aa (pv 0) (aa (aA (ar K rfl) (pv 3) ac (λ_ _=>rfl)) ag))))))))
(ah (al cW))
aw)
(ah (aG (bK (bd (ia K T (by exact cv (N:=["_law_number_here"]) (src:=[none]) rfl rfl rfl (by exact (kpi_tup K rfl (aA (ar K rfl) (pv 3) ac (λ_ _=>rfl)))) (λ_ _ _=>by exact ⟨by exact (cR (i:=0) nd_3 rfl rfl),cN,by exact (fF (aB nh hr.m (aa (pv 0) ag)) (fI (aU op_ge (pv 0) ac (ao _))))⟩)) false)))
(ah (al cW))
aw)))))
(ah (al (aU (keqD K rfl hr.units) (aB oV hr.m (aa (pv 0) (aa (pv 2) ag))) (pv 2) (ao _)))))),?_⟩
  have lt:ts.length=ps.length:=Paired.length hps
  refine ⟨_,rfl,_,true,.lst hl,rfl,_,rfl,be ?_⟩
  refine ⟨_,rfl,l,rfl,⟨_,SqL.of hl⟩,f8 (xs:=ts) (λi σ H'=>∃ x3:Option V,σ=[some (.int P),some (.int L),some (.ref l),x3]/\kW H H') ?_ ?_ ?_ ?_⟩
  ·exact ⟨none,rfl,kW.refl _⟩
  ·rintro i σ H' _ ⟨x3,rfl,sm⟩
   exact SqL.of (sm _ _ hl)
  ·rintro i v σ H1 hx ⟨x3,rfl,sm⟩
   obtain ⟨p,ep,t,k,u,rfl,h1,h2,h3⟩:=hps.at_ hx
   have mp:p ∈ ps:=mem_of_getElem? ep
   obtain ⟨op,zp⟩:=hok.1 p mp
   obtain ⟨pl,pl10,pn⟩:=hL p mp
   have h1:=sm _ _ h1
   have h2:=sm _ _ h2
   have h3:=h3.same sm
   obtain ⟨th,nv⟩:=h3.thing (K:=K) op zp
   refine ⟨_,rfl,_,true,.tup h1,rfl,_,rfl,be ?_⟩
   refine ⟨_,rfl,t,_,rfl,.inr (SqT.of h1),rfl,_,rfl,iteNS rfl ?_⟩
   refine ⟨_,rfl,t,_,_,_,rfl,rfl,SqT.of h1,rfl,_,true,.tup h2,rfl,_,rfl,be ?_⟩
   refine ⟨_,rfl,t,_,_,_,rfl,rfl,SqT.of h1,rfl,k,_,rfl,.inr (SqT.of h2),_,rfl,rfl,_,rfl,iteNS (by rw [length_map,pl]) ?_⟩
   refine ⟨_,rfl,_,rfl,t,_,_,_,rfl,rfl,SqT.of h1,rfl,P,u,rfl,hP,th,λH3 s3=>?_⟩
   rw [nv]
   refine ⟨_,rfl,be ?_⟩
   have h1:=s3 _ _ h1
   have h2:=s3 _ _ h2
   refine ⟨_,rfl,t,_,_,_,rfl,rfl,SqT.of h1,rfl,k,rfl,⟨_,SqT.of h2⟩,comp_tup (v1 λ_=>.bl true) rfl (SqT.of h2) (by rw [length_map,sizeLine_eq]; omega) (λi x H4 R hx4 sm4 hR=>?_) (λacc4 H4 hacc4 sm4 hl4=>?_)⟩
   ·obtain ⟨z,hz,rfl⟩:=j9 hx4
    have z0:0<=z:=pn z (mem_of_getElem? hz)
    refine ⟨_,rfl,.int z,_,true,false,rfl,.int z,rfl,rfl,_,rfl,bG ⟨_,rfl,_,_,rfl,rfl,?_⟩⟩
    show R (.bl (decide (0<=z))) H4
    rw [decide_eq_true z0]
    exact hR
   ·rw [map_v1] at hl4
    have hb4:(p.1.map λ_=>V.bl true)=(p.1.map λ_=>true).map V.bl:=by rw [map_map]; rfl
    rw [hb4] at hl4
    refine ⟨acc4,_,rfl,sqvL (SqL.of hl4),_,rfl,?_⟩
    rw [all_tt]
    exact be ⟨_,rfl,(sm.trans s3).trans sm4⟩
  ·rintro σ H1 ⟨x3,rfl,sm⟩
   refine ⟨_,rfl,_,rfl,l,P,ts,ps,rfl,hP,sm _ _ hl,hps.mono (λt xs e=>sm _ _ e),hn,hok,λd rs out H2 nd s2 hd po is=>?_⟩
   rw [f7 is hsum] at po
   refine ⟨_,rfl,dS P ps,dS P ps,g6 hd po,g6 (s2 _ _ (sm _ _ hl)) (hps.mono (λt xs e=>s2 _ _ (sm _ _ e))),bC _ _,bC _ _,?_⟩
   rw [eqv_dS]
   exact q H2 (sm.trans s2)
theorem acc_sz {P:Int} (hP:ll P) {ps:List az} (h:∀ p ∈ ps,OkN P p.2/\Sz 103 p.2):∀ i,i<=ps.length->∀ p ∈ acc P (ps.take i),Sz (104*i+103) p.2
 | 0,_,p,hp=>by simp [acc] at hp
 | i+1,hi,p,hp=>by
  have hB:=hP.b
  obtain ⟨q,eq⟩:∃ q,ps[i]? = some q:=⟨_,getElem?_eq_getElem (by omega)⟩
  have ih:=acc_sz hP h i (by omega)
  have okm:∀ q ∈ acc P (ps.take i),OkN P q.2:=gv hB.1 hB.2.2 λq hq=>(h q (mem_of_mem_take hq)).1
  obtain ⟨oq,zq⟩:=h q (mem_of_getElem? eq)
  rw [eh eq] at hp
  rcases gk hp with z | z
  ·rw [z]
   have hw:OkN P ((bW (acc P (ps.take i)) q.1).getD (0,1))/\Sz (104*i+103) ((bW (acc P (ps.take i)) q.1).getD (0,1)):=by
    cases e:bW (acc P (ps.take i)) q.1 with
    | none=>exact ⟨eS hB.1 hB.2.2,⟨Nat.pow_pos (by decide),Nat.one_lt_two_pow (by omega)⟩⟩
    | some y=>exact ⟨okm _ (bV e),ih _ (bV e)⟩
   exact (sz_addN hB.1 hB.2.1 hw.1 oq hw.2 zq (by omega)).1.mono (by omega)
  ·exact (ih p z).mono (by omega)
theorem acc_self {P:Int} {ps:List az} (hn:(ps.map (·.1)).Nodup) (h:∀ p ∈ ps,OkN P p.2):∀ i,i<=ps.length->acc P (ps.take i)=ps.take i
 | 0,_=>by simp [acc]
 | i+1,hi=>by
  obtain ⟨q,eq⟩:∃ q,ps[i]? = some q:=⟨_,getElem?_eq_getElem (by omega)⟩
  rw [eh eq,acc_self hn h i (by omega)]
  have hv:bW (ps.take i) q.1=none:=by
   apply aval_none.mpr
   intro hm
   have e1:ps.take (i+1)=ps.take i++[q]:=by rw [take_add_one,eq]; rfl
   have hs:((ps.take (i+1)).map (·.1)).Nodup:=(List.Sublist.map _ (take_sublist _ _)).nodup hn
   rw [e1,map_append,List.nodup_append] at hs
   exact hs.2.2 q.1 hm q.1 (by simp) rfl
  unfold dX jc
  rw [hv]
  show ps.take i++[(q.1,dH P (0,1) q.2)]=ps.take (i+1)
  rw [fD (h q (mem_of_getElem? eq)),take_add_one,eq]
  rfl
theorem jG {P:Int} {ps:List az} (hn:(ps.map (·.1)).Nodup) (h:∀ p ∈ ps,OkN P p.2):acc P ps=ps:=by
 have z:=acc_self hn h ps.length (Nat.le_refl _)
 rw [take_length] at z
 exact z
theorem acc_from {P:Int} {ps:List az}:∀ p ∈ acc P ps,∃ q ∈ ps,q.1=p.1:=by
 unfold acc
 have go:∀ (rs m:List az),(∀ r ∈ rs,r ∈ ps)->(∀ p ∈ m,∃ q ∈ ps,q.1=p.1)->∀ p ∈ rs.foldl (dX P) m,∃ q ∈ ps,q.1=p.1:=by
  intro rs
  induction rs with
  | nil=>intro m _ h; exact h
  | cons r rs ih=>
   intro m hr hm
   refine ih _ (λq hq=>hr q (by simp [hq])) λp hp=>?_
   rcases gk hp with z | z
   ·exact ⟨r,hr r (by simp),by rw [z]⟩
   ·exact hm p z
 exact go ps [] (λr hr=>hr) (λp hp=>nomatch hp)
def fallK (a b:az):Prop:=klt (hk b) (hk a)=true
theorem fall_nodup {a:List az} (h:a.Pairwise fallK):(a.map (·.1)).Nodup:=by
 rw [List.Nodup,List.pairwise_map]
 refine h.imp λ{x y} z e=>?_
 unfold fallK at z
 have e2:hk x=hk y:=by unfold hk; rw [e]
 rw [e2,klt_irr] at z
 cases z
theorem lZ.nz {P:Int} {ps out:List az} (h:lZ P ps out):∀ p ∈ out,_root_.K.nz p=true:=λp hp=>(List.mem_filter.mp (h.1.mem_iff.mp hp)).2
theorem lZ.mem {P:Int} {ps out:List az} (h:lZ P ps out):∀ p ∈ out,p ∈ acc P ps:=λp hp=>(List.mem_filter.mp (h.1.mem_iff.mp hp)).1
def Canon (P L:Int) (z:Nat) (ps:List az):Prop:=ps.Pairwise fallK/\∀ p ∈ ps,OkN P p.2/\Sz z p.2/\nz p=true/\(p.1.length:Int)=L/\∀ e ∈ p.1,0<=e
theorem Canon.nodup {P L:Int} {z:Nat} {ps:List az} (h:Canon P L z ps):(ps.map (·.1)).Nodup:=fall_nodup h.1
theorem Canon.ok {P L:Int} {z:Nat} {ps:List az} (h:Canon P L z ps):∀ p ∈ ps,OkN P p.2:=λp hp=>(h.2 p hp).1
theorem Canon.self {P L:Int} {z:Nat} {ps:List az} (h:Canon P L z ps):lZ P ps ps:=by
 refine ⟨?_,h.1⟩
 rw [jG h.nodup h.ok,List.filter_eq_self.mpr λq hq=>(h.2 q hq).2.2.1]
theorem sumOk_nodup {P:Int} {ps:List az} (hn:(ps.map (·.1)).Nodup) (h:∀ p ∈ ps,OkN P p.2/\Sz 4300 p.2):jS P ps:=by
 refine ⟨h,λi q hq=>?_⟩
 have sub:((ps.take i).map (·.1)).Nodup:=(List.Sublist.map _ (take_sublist _ _)).nodup hn
 rw [jG sub λq hq=>(h q (mem_of_mem_take hq)).1] at hq
 exact (h q (mem_of_mem_take hq)).2
theorem Canon.sumOk {P L:Int} {z:Nat} {ps:List az} (h:Canon P L z ps) (hz:z<=4300):jS P ps:=sumOk_nodup h.nodup λp hp=>⟨(h.2 p hp).1,(h.2 p hp).2.1.mono hz⟩
theorem okN_1 {P:Int} (hP:ll P):OkN P (1,1):=by
 have hB:=hP.b
 by_cases h0:P=0
 ·exact .inl ⟨h0,by decide,rfl⟩
 ·exact .inr ⟨h0,by decide,by show (1:Int)<P; omega,rfl⟩
def Rw (B M:Nat) (x:Int × Int):Prop:=0<x.2/\x.2.natAbs ∣ B/\x.1.natAbs<=M*x.2.natAbs
theorem Rw.mono {B C M N:Nat} {x:Int × Int} (h:Rw B M x) (h1:B ∣ C) (h2:M<=N):Rw C N x:=
 ⟨h.1,Nat.dvd_trans h.2.1 h1,Nat.le_trans h.2.2 (Nat.mul_le_mul_right _ h2)⟩
theorem Rw.sz {B M z:Nat} {x:Int × Int} (h:Rw B M x) (hB:0<B) (hM:1<=M) (hz:M*B<2 ^ z):Sz z x:=by
 have h1:x.2.natAbs<=B:=Nat.le_of_dvd hB h.2.1
 have h2:M*x.2.natAbs<=M*B:=Nat.mul_le_mul_left _ h1
 have h3:B<=M*B:=Nat.le_mul_of_pos_left _ hM
 exact ⟨Nat.lt_of_le_of_lt (Nat.le_trans h.2.2 h2) hz,by omega⟩
theorem dvd_cop {n d b a:Int} (hg:Int.gcd n d=1) (e:n*b=a*d):d.natAbs ∣ b.natAbs:=by
 have h1:d.natAbs ∣ n.natAbs*b.natAbs:=by
  rw [<- Int.natAbs_mul,e,Int.natAbs_mul]
  exact Nat.dvd_mul_left _ _
 exact Nat.Coprime.dvd_of_dvd_mul_left (Nat.Coprime.symm (show Nat.gcd n.natAbs d.natAbs=1 from hg)) h1
theorem rw_low {B M:Nat} {a b:Int} {u:Int × Int} (hb:0<b) (hd:0<u.2) (hg:Int.gcd u.1 u.2=1) (e:u.1*b=a*u.2) (hB:∃ c:Int,u.1*B=c*u.2) (ha:a.natAbs<=M*b.natAbs):Rw B M u:=by
 obtain ⟨c,hc⟩:=hB
 refine ⟨hd,by simpa using dvd_cop hg hc,?_⟩
 have e1:u.1.natAbs*b.natAbs=a.natAbs*u.2.natAbs:=by rw [<- Int.natAbs_mul,e,Int.natAbs_mul]
 have hb':0<b.natAbs:=by omega
 refine Nat.le_of_mul_le_mul_right (c:=b.natAbs) ?_ hb'
 rw [e1]
 calc a.natAbs*u.2.natAbs<=M*b.natAbs*u.2.natAbs:=Nat.mul_le_mul_right _ ha
  _=M*u.2.natAbs*b.natAbs:=by ac_rfl
theorem rw_key {u v a b c d k l B:Int} (e:u*(b*d)=(a*d+c*b)*v) (h1:B=b*k) (h2:B=d*l):u*B*(b*d)=(a*k+c*l)*v*(b*d):=by
 have f1:u*B*(b*d)=(u*(b*d))*B:=by ac_rfl
 have f2:(a*d+c*b)*v*B=a*d*v*B+c*b*v*B:=by rw [Int.add_mul,Int.add_mul]
 have f3:a*d*v*B=a*k*(v*(b*d)):=by rw [h1]; ac_rfl
 have f4:c*b*v*B=c*l*(v*(b*d)):=by rw [h2]; ac_rfl
 rw [f1,e,f2,f3,f4,<- Int.add_mul,Int.mul_assoc]
theorem rw_mod {B M:Nat} {P a:Int} (hP:0<=P) (h0:P ≠ 0) (h9:P<=9973) (hM:2 ^ 14<=M):Rw B M (a % P,1):=by
 refine ⟨Int.one_pos,Nat.one_dvd _,?_⟩
 have h1:=Int.emod_nonneg a h0
 have h2:=Int.emod_lt_of_pos a (show 0<P by omega)
 show (a % P).natAbs<=M*1
 have:(2:Nat) ^ 14=16384:=rfl
 omega
theorem rw_addN {P:Int} {B M N:Nat} {x y:Int × Int} (hP:ll P) (hM:2 ^ 14<=M) (hx:Rw B M x) (hy:Rw B N y):Rw B (M+N) (dH P x y):=by
 have hB:=hP.b
 unfold dH
 split
 ·have px:=hx.1
  have py:=hy.1
  have pd:=Int.mul_pos px py
  have hb:x.2*y.2 ≠ 0:=by omega
  have e:=nrm_eq (x.1*y.2+y.1*x.2) (x.2*y.2) hb
  obtain ⟨k,hk⟩:=hx.2.1
  obtain ⟨l,hl⟩:=hy.2.1
  have h1:(B:Int)=x.2*k:=by rw [hk]; rw [Int.natCast_mul,Int.natAbs_of_nonneg (by omega)]
  have h2:(B:Int)=y.2*l:=by rw [hl]; rw [Int.natCast_mul,Int.natAbs_of_nonneg (by omega)]
  refine rw_low pd (kH _ _ hb) (il _ _ hb) e ⟨x.1*k+y.1*l,?_⟩ ?_
  ·generalize nrm (x.1*y.2+y.1*x.2) (x.2*y.2)=u at *
   exact Int.eq_of_mul_eq_mul_right hb (rw_key e h1 h2)
  ·rw [Int.natAbs_mul]
   calc (x.1*y.2+y.1*x.2).natAbs<=(x.1*y.2).natAbs+(y.1*x.2).natAbs:=Int.natAbs_add_le _ _
    _=x.1.natAbs*y.2.natAbs+y.1.natAbs*x.2.natAbs:=by rw [Int.natAbs_mul,Int.natAbs_mul]
    _<=M*x.2.natAbs*y.2.natAbs+N*y.2.natAbs*x.2.natAbs:=Nat.add_le_add (Nat.mul_le_mul_right _ hx.2.2) (Nat.mul_le_mul_right _ hy.2.2)
    _=(M+N)*(x.2.natAbs*y.2.natAbs):=by rw [Nat.add_mul]; congr 1<;>ac_rfl
 ·exact rw_mod hB.1 ‹_› hB.2.1 (by omega)
theorem acc_rw {P:Int} {B M:Nat} (hP:ll P) (hM:2 ^ 14<=M) {ps:List az} (h:∀ p ∈ ps,OkN P p.2/\Rw B M p.2):∀ i,i<=ps.length->∀ p ∈ acc P (ps.take i),Rw B (i*M) p.2
 | 0,_,p,hp=>by simp [acc] at hp
 | i+1,hi,p,hp=>by
  obtain ⟨q,eq⟩:∃ q,ps[i]? = some q:=⟨_,getElem?_eq_getElem (by omega)⟩
  obtain ⟨oq,rq⟩:=h q (mem_of_getElem? eq)
  have ih:=acc_rw hP hM h i (by omega)
  have e1:(i+1)*M=i*M+M:=by rw [Nat.add_mul,Nat.one_mul]
  rw [e1]
  rw [eh eq] at hp
  rcases gk hp with w | w
  ·rw [w]
   cases e:bW (acc P (ps.take i)) q.1 with
   | none=>
    show Rw B (i*M+M) (dH P (0,1) q.2)
    rw [fD oq]
    exact rq.mono (Nat.dvd_refl _) (by omega)
   | some y=>
    show Rw B (i*M+M) (dH P y q.2)
    have hy:=ih _ (bV e)
    have hi0:1<=i:=by
     rcases Nat.eq_zero_or_pos i with z | z
     ·subst z; simp [acc,bW] at e
     ·exact z
    exact rw_addN hP (Nat.le_trans hM (Nat.le_mul_of_pos_left _ hi0)) hy rq
  ·exact (ih p w).mono (Nat.dvd_refl _) (by omega)
theorem rw_list {P:Int} {z:Nat}:∀ {ps:List az},(∀ p ∈ ps,OkN P p.2/\Sz z p.2)->∃ B,0<B/\B<=2 ^ (z*ps.length)/\∀ p ∈ ps,Rw B (2 ^ z) p.2
 | [],_=>⟨1,by decide,by simp,λp hp=>nomatch hp⟩
 | p::ps,h=>by
  obtain ⟨B,h1,h2,h3⟩:=rw_list (ps:=ps) λq hq=>h q (by simp [hq])
  obtain ⟨op,sp⟩:=h p (by simp)
  have dp:=op.den
  refine ⟨p.2.2.natAbs*B,Nat.mul_pos (by omega) h1,?_,λq hq=>?_⟩
  ·rw [length_cons,Nat.mul_add,Nat.mul_one,Nat.add_comm,Nat.pow_add]
   exact Nat.mul_le_mul (Nat.le_of_lt sp.2) h2
  ·rcases List.mem_cons.mp hq with rfl | hq
   ·refine ⟨dp,Nat.dvd_mul_right _ _,Nat.le_trans (Nat.le_of_lt sp.1) (Nat.le_mul_of_pos_right _ (by omega))⟩
   ·exact (h3 q hq).mono (Nat.dvd_mul_left _ _) (Nat.le_refl _)
section
open PySem.StrLaws PySem.Builtin.Str
def one (c:Nat):Str:=⟨#[c]⟩
theorem kG (x:Str) (c limit:Nat):∀ (n lo:Nat) (st:Array Nat × Nat),st.snd<=lo->st.fst.size+n<=limit->
  (forIn (List.range' lo n) st (occBody x (one c) x.length limit)).run.fst.toList=st.fst.toList++(List.range' lo n).filter λi=>decide (x.cps.toList[i]? = some c)
 | 0,lo,st,_,_=>by simp
 | n+1,lo,st,h1,h2=>by
  rw [List.range'_succ,forIn_cons,filter_cons]
  unfold occBody
  have key:=subAt_one x c lo
  by_cases hx:x.cps.toList[lo]? = some c
  ·have k:=key.mpr hx
   rw [if_pos ⟨⟨⟨by omega,h1⟩,k.1⟩,k.2⟩,if_pos (decide_eq_true hx)]
   have ih:=kG x c limit n (lo+1) (st.fst.push lo,lo+(one c).length) (by show lo+1<=lo+1; omega) (by rw [Array.size_push]; omega)
   show (forIn (List.range' (lo+1) n) (st.fst.push lo,lo+(one c).length) (occBody x (one c) x.length limit)).run.fst.toList=_
   rw [ih,Array.toList_push,append_assoc]
   rfl
  ·rw [if_neg λh=>hx (key.mp ⟨h.1.2,h.2⟩),if_neg (by rw [decide_eq_false hx]; decide)]
   have ih:=kG x c limit n (lo+1) (st.fst,st.snd) (by show st.snd<=lo+1; omega) (by show st.fst.size+n<=limit; omega)
   exact ih
theorem occ_all (x:Str) (c:Nat):occurrences x (one c) 0 x.length (x.length+1)=(List.range' 0 (x.length+1)).filter λi=>decide (x.cps.toList[i]? = some c):=by
 rw [occ_eq,Nat.sub_zero,kG x c (x.length+1) (x.length+1) 0 _ (Nat.le_refl _) (by simp)]
 simp
def spl (c:Nat):List Nat->List (List Nat)
 | []=>[[]]
 | a::l=>if a=c then []::spl c l else match spl c l with
  | []=>[[a]]
  | w::ws=>(a::w)::ws
theorem gp (c a:Nat) (l:List Nat):spl c (a::l)=if a=c then []::spl c l else match spl c l with
  | []=>[[a]]
  | w::ws=>(a::w)::ws:=rfl
theorem spl_ne (c:Nat):∀ l,spl c l ≠ []
 | []=>by simp [spl]
 | a::l=>by
  unfold spl
  split
  ·simp
  ·split<;>simp
def aL (c:Nat):List (List Nat)->List Nat
 | []=>[]
 | [w]=>w
 | w::v::ws=>w++c::aL c (v::ws)
theorem spl_word (c:Nat):∀ (w r:List Nat),c ∉ w->spl c (w++c::r)=w::spl c r
 | [],r,_=>by simp [spl]
 | a::w,r,h=>by
  have ha:a ≠ c:=λz=>h (by simp [z])
  have ih:=spl_word c w r λz=>h (by simp [z])
  show spl c (a::(w++c::r))=_
  rw [gp,if_neg ha,ih]
theorem i8 (c:Nat):∀ w:List Nat,c ∉ w->spl c w=[w]
 | [],_=>rfl
 | a::w,h=>by
  have ha:a ≠ c:=λz=>h (by simp [z])
  have ih:=i8 c w λz=>h (by simp [z])
  rw [gp,if_neg ha,ih]
theorem iz (c:Nat):∀ ws:List (List Nat),ws ≠ []->(∀ w ∈ ws,c ∉ w)->spl c (aL c ws)=ws
 | [],h,_=>absurd rfl h
 | [w],_,h=>i8 c w (h w (by simp))
 | w::v::ws,_,h=>by
  show spl c (w++c::aL c (v::ws))=_
  rw [spl_word c w _ (h w (by simp)),iz c (v::ws) (by simp) λu hu=>h u (by simp only [mem_cons] at hu ⊢; exact .inr hu)]
theorem gw (x:Str) (c:Nat):∀ (k a b:Nat),a<=b->b+k=x.length->(∀ i,a<=i->i<b->x.cps.toList[i]? ≠ some c)->
  (partsFrom x 1 a ((List.range' b (k+1)).filter λi=>decide (x.cps.toList[i]? = some c))).map (·.cps.toList)=match spl c (x.cps.toList.drop b) with
   | []=>[]
   | w::ws=>(((x.cps.toList.drop a).take (b-a))++w)::ws
 | 0,a,b,hab,hk,_=>by
  have hl:x.cps.toList.length=x.length:=by simp [Str.length]
  have e:x.cps.toList[b]? = none:=List.getElem?_eq_none (by omega)
  have e2:x.cps.toList.drop b=[]:=List.drop_of_length_le (by omega)
  rw [List.range'_one,filter_cons,if_neg (by rw [e]; simp),List.filter_nil,e2]
  show [(strSub x a x.length).cps.toList]=[((x.cps.toList.drop a).take (b-a))++[]]
  rw [strSub_toList,append_nil]
  congr 2
  omega
 | k+1,a,b,hab,hk,hn=>by
  have hl:x.cps.toList.length=x.length:=by simp [Str.length]
  have hb:b<x.cps.toList.length:=by omega
  have ed:x.cps.toList.drop b=x.cps.toList[b]::x.cps.toList.drop (b+1):=List.drop_eq_getElem_cons hb
  have eg:x.cps.toList[b]? = some x.cps.toList[b]:=getElem?_eq_getElem hb
  rw [List.range'_succ,filter_cons,ed,eg]
  by_cases hc:x.cps.toList[b]=c
  ·rw [if_pos (by rw [hc]; simp)]
   have ih:=gw x c k (b+1) (b+1) (Nat.le_refl _) (by omega) (λi h1 h2=>by omega)
   rw [gp,if_pos hc]
   show (strSub x a b).cps.toList::(partsFrom x 1 (b+1) _).map _=_
   rw [ih,strSub_toList]
   cases hs:spl c (x.cps.toList.drop (b+1)) with
   | nil=>exact absurd hs (spl_ne _ _)
   | cons w ws=>simp
  ·rw [if_neg (by rw [decide_eq_false λz=>hc (by injection z)]; decide)]
   have ih:=gw x c k a (b+1) (by omega) (by omega) (λi h1 h2=>by
    by_cases e:i=b
    ·rw [e,eg]
     intro z
     injection z with z
     exact hc z
    ·exact hn i h1 (by omega))
   rw [ih,gp,if_neg hc]
   cases hs:spl c (x.cps.toList.drop (b+1)) with
   | nil=>exact absurd hs (spl_ne _ _)
   | cons w ws=>
    dsimp only
    congr 1
    rw [show b+1-a=(b-a)+1 by omega,take_succ]
    have e3:(x.cps.toList.drop a)[b-a]? = some x.cps.toList[b]:=by
     rw [List.getElem?_drop,show a+(b-a)=b by omega,eg]
    rw [e3,append_assoc]
    rfl
theorem jy (x:Str) (c:Nat) (hx:x.cps.all (· < 128)=true) (hc:c<128):(Txt.split x (one c)).map (·.cps.toList)=spl c x.cps.toList:=by
 have hl:x.cps.toList.length=x.length:=by simp [Str.length]
 have full:=gw x c x.length 0 0 (Nat.le_refl _) (by omega) (λi _ h=>absurd h (Nat.not_lt_zero _))
 have fin:((strSub x 0 x.length::[]).map (·.cps.toList))=[x.cps.toList]:=by rw [sub_whole]; rfl
 have nf:(∀ i,x.cps.toList[i]? ≠ some c)->spl c x.cps.toList=[x.cps.toList]:=λh=>i8 c _ λz=>by
  obtain ⟨i,hi,e⟩:=List.mem_iff_getElem.mp z
  exact h i (by rw [getElem?_eq_getElem hi,e])
 unfold Txt.split
 split
 ·rename_i h
  have k1:Builtin.Str.strKind x=1:=by
   unfold Builtin.Str.strKind
   rw [if_pos]
   rw [Array.all_eq_true'] at hx ⊢
   intro y hy
   have:=of_decide_eq_true (hx y hy)
   exact decide_eq_true (by omega)
  have k2:Builtin.Str.strKind (one c)=1:=by
   unfold Builtin.Str.strKind one
   rw [if_pos]
   simp
   omega
  rw [k1,k2,Bool.or_eq_true] at h
  rcases h with h | h
  ·have h:=of_decide_eq_true h
   have:x.length=0:=by have:(one c).length=1:=rfl; omega
   rw [nf λi z=>by
    have:=(List.getElem?_eq_some_iff.mp z).1
    omega]
   rfl
  ·exact absurd (of_decide_eq_true h) (by decide)
 ·split
  ·rename_i h
   rw [occ_all,List.isEmpty_iff] at h
   rw [nf λi z=>by
    have hi:=(List.getElem?_eq_some_iff.mp z).1
    have:i ∈ (List.range' 0 (x.length+1)).filter λi=>decide (x.cps.toList[i]? = some c):=List.mem_filter.mpr ⟨by rw [List.mem_range'_1]; omega,decide_eq_true z⟩
    rw [h] at this
    cases this]
   rfl
  ·rw [partsBetween_eq,occ_all]
   show (partsFrom x 1 0 _).map _=_
   rw [full,drop_zero]
   cases hs:spl c x.cps.toList with
   | nil=>exact absurd hs (spl_ne _ _)
   | cons w ws=>simp
end
section
open PySem.StrLaws PySem.Builtin.Str
theorem jR {x:Str} {c:Nat} (h:c ∉ x.cps.toList):Txt.partition x (one c)=(x,Str.empty,Str.empty):=by
 unfold Txt.partition
 rcases occ_head x (one c) 1 (Nat.le_refl _) with ⟨e,_⟩ | ⟨i,r,e,a,_⟩
 ·rw [e]
 ·exact absurd (mem_of_getElem? ((subAt_one x c i).mp a)) h
theorem jF {x:Str} {c:Nat} {w r:List Nat} (hx:x.cps.toList=w++c::r) (h:c ∉ w):Txt.partition x (one c)=(⟨w.toArray⟩,one c,⟨r.toArray⟩):=by
 have hl:x.cps.toList.length=x.length:=by simp [Str.length]
 have hat:x.cps.toList[w.length]? = some c:=by rw [hx]; simp
 unfold Txt.partition
 rcases occ_head x (one c) 1 (Nat.le_refl _) with ⟨e,n⟩ | ⟨i,t,e,a,n⟩
 ·exact absurd ((subAt_one x c w.length).mpr hat) (n w.length)
 ·rw [e]
  have ai:=(subAt_one x c i).mp a
  have ei:i=w.length:=by
   rcases Nat.lt_trichotomy i w.length with z | z | z
   ·rw [hx,List.getElem?_append_left z] at ai
    exact absurd (mem_of_getElem? ai) h
   ·exact z
   ·exact absurd ((subAt_one x c w.length).mpr hat) (n _ z)
  subst ei
  have hlen:x.length=w.length+(r.length+1):=by rw [<- hl,hx,length_append,length_cons]
  refine Prod.ext ?_ (Prod.ext rfl ?_)
  ·refine mk_of_toList ?_
   show (strSub x 0 w.length).cps.toList=w
   rw [strSub_toList,hx,drop_zero,Nat.sub_zero,List.take_left]
  ·refine mk_of_toList ?_
   show (strSub x (w.length+1) x.length).cps.toList=r
   have ed:(w++c::r).drop (w.length+1)=r:=by
    rw [<- List.drop_drop,List.drop_left]
    rfl
   rw [strSub_toList,hx,ed,hlen]
   exact take_of_length_le (by omega)
end
section
open PySem.StrLaws PySem.Builtin.Str PySem.NumText PySem.W
def tx (l:List Nat):Str:=⟨l.toArray⟩
theorem cO (l:List Nat):(tx l).cps.toList=l:=rfl
theorem aF (l:List Nat):(tx l).length=l.length:=by simp [tx,Str.length]
theorem bp (a b:List Nat):tx a++tx b=tx (a++b):=Str.ext' (by simp [Str.cps_append,tx])
theorem mf {a b:List Nat}:tx a=tx b↔a=b:=⟨λh=>by have:=congrArg (λx:Str=>x.cps.toList) h; exact this,λh=>by rw [h]⟩
def aD (n:Nat):List Nat:=(Nat.toDigits 10 n).map Char.toNat
theorem str_figs (n:Nat):(Str.ofString (toString ((n:Nat):Int)))=tx (aD n):=by
 have:=KIN.signs_num n
 exact mk_of_toList this
theorem bS {n c:Nat} (h:c ∈ aD n):48<=c/\c<=57:=by
 obtain ⟨ch,hch,e⟩:=List.mem_map.mp h
 have r:=digit_range (Nat.isDigit_of_mem_toDigits (by decide) (by decide) hch)
 rw [<- e]
 exact r
theorem kA (n:Nat):aD n ≠ []:=by
 intro e
 have h:=toDigits_len_ge 10 n
 rw [List.map_eq_nil_iff.mp e] at h
 exact absurd h (by decide)
theorem bg {k n:Nat} (hk:1<=k) (h:n<10 ^ k):(aD n).length<=k:=by
 unfold aD
 rw [length_map]
 exact PyProof.Rows.digits10_le hk h
theorem gK {n:Nat} (h:(aD n).length<=640):PySem.intText? (tx (aD n))=some (n:Int):=by
 have hd:AllDigits (tx (aD n)).cps.toList:=λc hc=>bS hc
 have e:=intText_digits hd (kA n) (by rw [aF]; omega)
 rw [cO] at e
 have v:=KIN.val_back n
 unfold aD at e
 rw [v] at e
 exact e
end
def bA (P:Int) (x:Int × Int):Int × Int:=if P=0/\x.1<0 then (-x.1,x.2) else x
def shN (P:Int) (x:Int × Int):List Nat:=if P=0/\x.2 ≠ 1 then aD x.1.natAbs++47::aD x.2.natAbs else aD x.1.natAbs
def spFPr:Sp:=λvs H Q _=>∃ x:V,vs=[x]/\Q (.int 0) H
def spRPr (CR:Addr):Sp:=λvs H Q _=>∃ (x dx:Addr) (p:Int),vs=[.ref x]/\H x=some (.ins CR dx [("modulus",.int p)])/\Q (.int p) H
def kL (CF CR:Addr):Sp:=λvs H Q _=>∃ (x:Addr) (P:Int) (u:V) (a:Int × Int),vs=[.ref x,u]/\lJ CF CR H x P/\At P H u a/\Q (.bl (decide (P=0/\a.1<0))) H
def io (CF CR:Addr):Sp:=λvs H Q _=>∃ (x:Addr) (P:Int) (u:V) (a:Int × Int),vs=[.ref x,u]/\lJ CF CR H x P/\At P H u a/\∀ r H',kW H H'->At P H' r (bA P a)->Q r H'
def spShF:Sp:=λvs H Q _=>∃ (u:V) (a:Int × Int),vs=[u]/\At 0 H u a/\0<=a.1/\0<a.2/\Sz 110 a/\Q (.str (tx (shN 0 a))) H
def spShN (CF CR:Addr):Sp:=λvs H Q _=>∃ (x:Addr) (P:Int) (u:V) (a:Int × Int),vs=[.ref x,u]/\lJ CF CR H x P/\At P H u a/\OkN P a/\0<=a.1/\Sz 110 a/\Q (.str (tx (shN P a))) H
theorem di {i:Int} (h:i.natAbs<2 ^ 110):i.natAbs.log2<1920:=by
 by_cases z:i.natAbs=0
 ·rw [z]
  decide
 ·exact Nat.lt_of_lt_of_le ((Nat.log2_lt z).mpr h) (by decide)
theorem b9 {i:Int} (h:0<=i):(Str.ofString (toString i))=tx (aD i.natAbs):=by
 have:=str_figs i.natAbs
 rwa [Int.natAbs_of_nonneg h] at this
theorem fB:kX ["numbers", "number"] ["numbers", "number"] (aj bQ):=.i
theorem ok_below {f CF CR:Addr} {fd:FuncData} (F:Fun K "is_below_nought" "is_below_nought" bQ f fd) (rp:MtB P w K mg base 1 CF "prime" spFPr) (rA:MtB P w K mg base 1 CR "prime" (spRPr CR)):kZ P w K mg base CX0 2 f fd ["numbers", "number"] (kL CF CR):=by
 refine F.o fB λ_ _ _ _ H _ Q _ hr h=>?_
 ·obtain ⟨x,P,u,a,rfl,hN,hu,q⟩:=h
  refine ⟨_,(ah (al (fF (aU a9 (cK (bu rp hr.m (pv 0)) (bu rA hr.m (pv 0))) ac (ao _)) (fI (aU dY (aA (ar K rfl) (pv 1) ac (λ_ _=>rfl)) ac (ao _)))))),?_⟩
  rcases hN with ⟨h0,dx,e⟩ | ⟨h0,dx,e⟩
  ·rcases hu with ⟨_,t,rfl,ht⟩ | ⟨z,_⟩
   ·refine .inl ⟨_,rfl,x,dx,_,rfl,e,rfl,.ref x,rfl,rfl,_,rfl,bG ⟨_,rfl,t,_,_,_,rfl,rfl,SqT.of ht,ay (j:=0) rfl,_,_,rfl,rfl,?_⟩⟩
    rw [show decide (P=0/\a.1<0)=decide (a.1<0) from decide_eq_decide.mpr ⟨λz=>z.2,λz=>⟨h0,z⟩⟩] at q
    exact q
   ·exact absurd h0 z
  ·refine .inr ⟨_,rfl,x,dx,_,rfl,e,kF (by decide +kernel) _,x,dx,P,rfl,e,rfl,_,rfl,?_⟩
   rw [decide_eq_false (show ¬ V.int P=V.int 0 from λz=>h0 (by injection z))]
   refine be ?_
   rw [decide_eq_false (λz=>h0 z.1)] at q
   exact q
theorem hX:kX ["numbers", "number"] ["numbers", "number"] (aj cD):=.i
theorem ok_signless {f CF CR:Addr} {fd:FuncData} (F:Fun K "without_sign" "without_sign" cD f fd) (m5:FnB P w K mg base 2 "is_below_nought" (kL CF CR)):kZ P w K mg base CX0 3 f fd ["numbers", "number"] (io CF CR):=by
 refine F.o hX λ_ _ _ _ H _ Q _ hr h=>?_
 ·obtain ⟨x,P,u,a,rfl,hN,hu,q⟩:=h
  refine ⟨_,(ah (al (bw (bd (aB m5 hr.m (aa (pv 0) (aa (pv 1) ag)))) (bE (aa (j3 gs (aA (ar K rfl) (pv 1) ac (λ_ _=>rfl))) (aa (aA (ar K rfl) (pv 1) ac (λ_ _=>rfl)) ag))) (pv 1)))),?_⟩
  unfold bA at q
  refine ⟨_,rfl,_,rfl,x,P,u,a,rfl,hN,hu,_,rfl,aY (λh=>?_) (λh=>?_)⟩
  ·have h:=of_decide_eq_true h
   rw [if_pos h] at q
   rcases hu with ⟨_,t,rfl,ht⟩ | ⟨z,_⟩
   ·refine ⟨_,rfl,t,_,_,_,rfl,rfl,SqT.of ht,ay (j:=0) rfl,_,rfl,_,rfl,t,_,_,_,rfl,rfl,SqT.of ht,ay (j:=1) rfl,(by show 2<=sizeLine; decide),λr nr=>?_⟩
    exact q _ _ (kW.new nr) (.inl ⟨h.1,r,rfl,af⟩)
   ·exact absurd h.1 z
  ·rw [if_neg λz=>h (decide_eq_true z)] at q
   exact ⟨_,rfl,q _ H (kW.refl H) hu⟩
theorem gO:kX ["fraction"] ["fraction"] (aj cu):=.i
theorem ok_showf {f:Addr} {fd:FuncData} (F:Fun K "show_fraction" "show_fraction" cu f fd) (T:Blt mg) (nstr:mg "str" = none):kZ P w K mg base CX0 1 f fd ["fraction"] spShF:=by
 refine F.o gO λ_ _ _ _ H _ Q _ hr h=>?_
 ·obtain ⟨u,a,rfl,hu,a0,b0,sz,q⟩:=h
  refine ⟨_,(ah (al (bw (aq a9 (aA (ar K rfl) (pv 0) ac (λ_ _=>rfl)) ac (ao _)) (aI aQ (by rfl) nstr ba (aa (aA (ar K rfl) (pv 0) ac (λ_ _=>rfl)) ag)) (am aN (am aN (aI aQ (by rfl) nstr ba (aa (aA (ar K rfl) (pv 0) ac (λ_ _=>rfl)) ag)) aE) (aI aQ (by rfl) nstr ba (aa (aA (ar K rfl) (pv 0) ac (λ_ _=>rfl)) ag)))))),?_⟩
  rcases hu with ⟨_,t,rfl,ht⟩ | ⟨z,_⟩
  ·have l1:(aD a.1.natAbs).length<=40:=bg (by decide) (Nat.lt_trans sz.1 (by decide +kernel))
   have l2:(aD a.2.natAbs).length<=40:=bg (by decide) (Nat.lt_trans sz.2 (by decide +kernel))
   unfold shN at q
   refine ⟨_,rfl,t,_,_,_,rfl,rfl,SqT.of ht,ay (j:=1) rfl,rfl,_,rfl,aY (λh=>?_) (λh=>?_)⟩
   ·have h1:a.2=1:=by have:=of_decide_eq_true h; injection this
    rw [if_neg λz=>z.2 h1] at q
    refine ⟨_,rfl,t,_,_,_,rfl,rfl,SqT.of ht,ay (j:=0) rfl,_,rfl,di sz.1,?_⟩
    rw [b9 a0]
    exact q
   ·have h1:a.2 ≠ 1:=λz=>h (decide_eq_true (congrArg V.int z))
    rw [if_pos ⟨rfl,h1⟩] at q
    refine ⟨_,rfl,t,_,_,_,rfl,rfl,SqT.of ht,ay (j:=0) rfl,_,rfl,di sz.1,?_⟩
    rw [b9 a0]
    refine ⟨_,_,rfl,rfl,?_,?_⟩
    ·rw [aF,sizeLine_eq]
     show (aD a.1.natAbs).length+1<=_
     omega
    refine ⟨_,rfl,t,_,_,_,rfl,rfl,SqT.of ht,ay (j:=1) rfl,_,rfl,di sz.2,?_⟩
    rw [b9 (by omega)]
    have e1:tx (aD a.1.natAbs)++Str.ofString "/" = tx (aD a.1.natAbs++[47]):=bp _ [47]
    rw [e1]
    refine ⟨_,_,rfl,rfl,?_,?_⟩
    ·rw [aF,aF,sizeLine_eq,length_append]
     show (aD a.1.natAbs).length+1+_<=_
     omega
    rw [bp,append_assoc]
    exact q
  ·exact absurd rfl z
theorem iU:kX ["numbers", "number"] ["numbers", "number"] (aj dc):=.i
theorem ok_shown {f CF CR:Addr} {fd:FuncData} (F:Fun K "show_number" "show_number" dc f fd) (nstr:mg "str" = none) (rp:MtB P w K mg base 1 CF "prime" spFPr) (rA:MtB P w K mg base 1 CR "prime" (spRPr CR)) (pC:FnB P w K mg base 1 "show_fraction" spShF):kZ P w K mg base CX0 2 f fd ["numbers", "number"] (spShN CF CR):=by
 refine F.o iU λ_ _ _ _ H _ Q _ hr h=>?_
 ·obtain ⟨x,P,u,a,rfl,hN,hu,oa,a0,sz,q⟩:=h
  refine ⟨_,(ae (aG (aq eM (cK (bu rp hr.m (pv 0)) (bu rA hr.m (pv 0))) ac (ao _))
(ah (al (aI aQ (by rfl) nstr ba (aa (pv 1) ag))))
aw)
(ah (al (aB pC hr.m (aa (pv 1) ag))))),?_⟩
  rcases hN with ⟨h0,dx,e⟩ | ⟨h0,dx,e⟩
  ·subst h0
   refine .inl ⟨_,rfl,x,dx,_,rfl,e,rfl,.ref x,rfl,rfl,_,rfl,be ?_⟩
   exact ⟨_,rfl,u,a,rfl,hu,a0,oa.den,sz,q⟩
  ·refine .inr ⟨_,rfl,x,dx,_,rfl,e,kF (by decide +kernel) _,x,dx,P,rfl,e,rfl,_,rfl,?_⟩
   rw [decide_eq_false (show ¬ V.int P=V.int 0 from λz=>h0 (by injection z))]
   refine bG ?_
   rcases hu with ⟨z,_⟩ | ⟨_,rfl,_⟩
   ·exact absurd z h0
   ·refine ⟨_,rfl,_,rfl,di sz.1,?_⟩
    unfold shN at q
    rw [if_neg λz=>h0 z.1] at q
    rw [b9 a0]
    exact q
def shW (k:Nat) (e:Int):List Nat:=[120,121,122,119].getD k 0::if e=1 then [] else 94::aD e.natAbs
def wds:Nat->List Int->List (List Nat)
 | _,[]=>[]
 | k,e::r=>if 0<e then shW k e::wds (k+1) r else wds (k+1) r
theorem iJ:∀ (k:Nat) (r:List Int) (e:Int),wds k (r++[e])=wds k r++if 0<e then [shW (k+r.length) e] else []
 | k,[],e=>by
  show wds k [e]=_
  unfold wds
  split<;>simp [wds]
 | k,a::r,e=>by
  have ih:=iJ (k+1) r e
  show wds k (a::(r++[e]))=_
  unfold wds
  rw [ih,length_cons,show k+1+r.length=k+(r.length+1) by omega]
  split<;>simp
theorem gM (c:Nat):∀ ws:List (List Nat),Txt.join (one c) (ws.map tx)=tx (aL c ws):=λws=>by
 unfold Txt.join
 rw [StrLaws.glued_eq_join]
 induction ws with
 | nil=>rfl
 | cons w r ih=>
  cases r with
  | nil=>rfl
  | cons v r=>
   show tx w++one c++Str.join (one c) (tx v::r.map tx)=tx (w++c::aL c (v::r))
   have ih:Str.join (one c) (tx v::r.map tx)=tx (aL c (v::r)):=ih
   rw [ih,show one c=tx [c] from rfl,bp,bp,append_assoc]
   rfl
theorem cw:∀ (k:Nat) (r:List Int),(wds k r).length<=r.length
 | _,[]=>Nat.le_refl _
 | k,e::r=>by
  have:=cw (k+1) r
  unfold wds
  split<;>simp<;>omega
theorem ce {B:Nat}:∀ {k:Nat} {r:List Int} {w:List Nat},w ∈ wds k r->∃ (j:Nat) (e:Int),k<=j/\j<k+r.length/\e ∈ r/\0<e/\w=shW j e
 | k,e::r,w,h=>by
  unfold wds at h
  split at h
  ·rcases List.mem_cons.mp h with z | z
   ·exact ⟨k,e,Nat.le_refl _,by simp,by simp,‹_›,z⟩
   ·obtain ⟨j,e',h1,h2,h3,h4⟩:=ce (B:=B) z
    exact ⟨j,e',by omega,by simp only [length_cons]; omega,by simp [h3],h4⟩
  ·obtain ⟨j,e',h1,h2,h3,h4⟩:=ce (B:=B) h
   exact ⟨j,e',by omega,by simp only [length_cons]; omega,by simp [h3],h4⟩
theorem ki {i:Nat} (h:i<4):atI (Str.ofString "xyzw").cps.toList (i:Int)=some ([120,121,122,119].getD i 0):=by
 refine ay ?_
 match i,h with
 | 0,_=>decide +kernel
 | 1,_=>decide +kernel
 | 2,_=>decide +kernel
 | 3,_=>decide +kernel
def spShP:Sp:=λvs H Q _=>∃ (t:Addr) (k:List Int),vs=[.ref t]/\H t=some (.tup (k.map V.int))/\k.length<=4/\(∀ e ∈ k,0<=e/\e<=1000)/\∀ H',kW H H'->Q (.str (tx (aL 42 (wds 0 k)))) H'
theorem l9:kX ["product", "found", "letter", "often"] ["product"] (aj cF):=.i
theorem ok_showp {f:Addr} {fd:FuncData} {tk:Tok} (F:Fun K "show_product" "show_product" cF f fd) (T:Blt mg) (nstr:mg "str" = none) (gLETTERS:mg "LETTERS"=some (.str "xyzw" tk)):kZ P w K mg base CX0 1 f fd ["product"] spShP:=by
 refine F.o l9 λ_ _ _ _ H _ Q _ hr h=>?_
 ·obtain ⟨t,k,rfl,ht,k4,k0,q⟩:=h
  refine ⟨_,(ae (ak (i:=1) l9.nd rfl (Or.inl rfl) (aV ag))
(ae (bI PassesOwn.never rfl (kpi_enumT K rfl rfl T.enum (aa (pv 0) ag)) (e8 K (i:=2) (j:=3) rfl rfl l9.nd rfl rfl rfl rfl)
(ah (aG (aq cg (pv 3) ac (ao _))
(ah (bR (bmA K rfl (pv 1) (aa (bw (aq a9 (pv 3) ac (ao _)) (aA kP (cQ (v:=.str "xyzw") rfl gLETTERS ⟨_,rfl⟩) (pv 2) (λ_ _=>rfl)) (am aN (am aN (aA kP (cQ (v:=.str "xyzw") rfl gLETTERS ⟨_,rfl⟩) (pv 2) (λ_ _=>rfl)) aE) (aI aQ (by rfl) nstr ba (aa (pv 3) ag)))) ag))))
aw)))
(ah (al (fY PySem.F.plainAttrs_str PySem.F.slot_str_join PySem.F.type_str_join kq aE (aa (pv 1) ag)))))),?_⟩
  refine ⟨Nat.zero_le _,λd nd=>?_⟩
  have s0:=kW.new (o:=.lst []) nd
  have hd0:(upd H d (.lst [])) d=some (.lst []):=af
  generalize upd H d (.lst [])=H0 at *
  refine ⟨_,rfl,t,rfl,⟨_,SqT.of (s0 _ _ ht)⟩,for_enumT (xs:=k.map V.int) (λi σ H'=>∃ x2 x3:Option V,σ=[some (.ref t),some (.ref d),x2,x3]/\kW H H'/\H' d=some (.lst (((wds 0 (k.take i)).map tx).map V.str))) ⟨none,none,rfl,s0,hd0⟩ ?_ ?_ ?_⟩
  ·rintro i σ H' _ ⟨x2,x3,rfl,sm,_⟩
   exact SqT.of (sm _ _ ht)
  ·rintro i v σ H1 pp hv ⟨x2,x3,rfl,s1,hd1⟩ npp
   obtain ⟨e,ee,rfl⟩:=j9 hv
   have hi:i<k.length:=(List.getElem?_eq_some_iff.mp ee).1
   obtain ⟨e0,e1⟩:=k0 e (mem_of_getElem? ee)
   have s2:=kW.new (o:=.tup [.int (i:Int),.int e]) npp
   have h2:(upd H1 pp (.tup [.int (i:Int),.int e])) pp=some (.tup [.int (i:Int),.int e]):=af
   generalize upd H1 pp (.tup [.int (i:Int),.int e])=H2 at *
   have hd2:=s2 _ _ hd1
   have ws:=iJ 0 (k.take i) e
   rw [length_take,Nat.min_eq_left (by omega),Nat.zero_add,<- show k.take (i+1)=k.take i++[e] by rw [take_add_one,ee]; rfl] at ws
   have sz:(((wds 0 (k.take i)).map tx).map V.str).length<sizeLine:=by
    have:=cw 0 (k.take i)
    rw [length_take] at this
    rw [length_map,length_map,sizeLine_eq]
    omega
   refine ⟨pp,_,rfl,SqT.of h2,rfl,_,_,rfl,_,_,rfl,rfl,?_⟩
   refine ⟨_,rfl,_,_,rfl,rfl,_,rfl,aY (λh=>?_) (λh=>?_)⟩
   ·have ep:0<e:=of_decide_eq_true h
    rw [if_pos ep] at ws
    have fin:∀ x:Str,x=tx (shW i e)->∃ x2 x3:Option V,[some (V.ref t),some (V.ref d),some (V.int (i:Int)),some (V.int e)]=[some (.ref t),some (.ref d),x2,x3]/\kW H (upd H2 d (.lst (((wds 0 (k.take i)).map tx).map V.str++[V.str x])))/\(upd H2 d (.lst (((wds 0 (k.take i)).map tx).map V.str++[V.str x]))) d=some (.lst (((wds 0 (k.take (i+1))).map tx).map V.str)):=λx ex=>by
     refine ⟨_,_,rfl,(s1.trans s2).put nd,?_⟩
     rw [af,ws,ex,map_append,map_append]
     rfl
    refine ⟨_,rfl,(.inl ⟨rfl,_,SqL.of hd2⟩),_,rfl,rfl,_,rfl,aY (λh1=>?_) (λh1=>?_)⟩
    ·have e1':e=1:=by have:=of_decide_eq_true h1; injection this
     refine ⟨_,rfl,_,_,_,rfl,rfl,(by show 4<=sizeLine; decide),ki (by omega),?_⟩
     refine ⟨d,_,_,rfl,rfl,hd2,sz,fin _ ?_⟩
     unfold shW
     rw [if_pos e1']
     rfl
    ·have e1':e ≠ 1:=λz=>h1 (decide_eq_true (congrArg V.int z))
     have l1:(aD e.natAbs).length<=40:=bg (by decide) (Nat.lt_of_le_of_lt (show e.natAbs<=1000 by omega) (by decide +kernel))
     refine ⟨_,rfl,_,_,_,rfl,rfl,(by show 4<=sizeLine; decide),ki (by omega),?_⟩
     refine ⟨_,_,rfl,rfl,(by show 1+1<=sizeLine; decide),?_⟩
     refine ⟨_,rfl,_,rfl,di (Nat.lt_of_le_of_lt (show e.natAbs<=1000 by omega) (by decide +kernel)),?_⟩
     rw [b9 e0]
     refine ⟨_,_,rfl,rfl,?_,?_⟩
     ·rw [aF,sizeLine_eq]
      show 2+(aD e.natAbs).length<=_
      omega
     refine ⟨d,_,_,rfl,rfl,hd2,sz,fin _ ?_⟩
     unfold shW
     rw [if_neg e1']
     show tx [_]++tx [94]++tx (aD e.natAbs)=_
     rw [bp,bp]
     rfl
   ·have en:¬ 0<e:=λz=>h (decide_eq_true z)
    rw [if_neg en,append_nil] at ws
    exact ⟨_,_,rfl,s1.trans s2,by rw [hd2,ws]⟩
  ·rintro σ H1 ⟨x2,x3,rfl,s1,hd1⟩
   rw [length_map,take_length] at hd1
   have lw:=cw 0 k
   refine ⟨rfl,_,rfl,_,d,_,rfl,rfl,hd1,?_,?_⟩
   ·unfold JoinOk
    rw [Bool.not_eq_true']
    refine StrLaws.joinFits (B:=50) (λy hy=>?_) ?_
    ·obtain ⟨w,hw,rfl⟩:=List.mem_map.mp hy
     obtain ⟨j,e,_,_,he,_,rfl⟩:=ce (B:=0) hw
     have l1:(aD e.natAbs).length<=40:=bg (by decide) (Nat.lt_of_le_of_lt (show e.natAbs<=1000 by have:=k0 e he; omega) (by decide +kernel))
     rw [aF]
     unfold shW
     split<;>simp<;>omega
    ·rw [length_map]
     show (wds 0 k).length*50+(wds 0 k).length*1<=16777216
     omega
   ·have e:=gM 42 (wds 0 k)
    show Q (.str (Txt.join (one 42) ((wds 0 k).map tx))) H1
    rw [e]
    exact q H1 s1
theorem iW {P:Int} (hP:ll P):OkN P (1,1):=by
 have hB:=hP.b
 by_cases h:P=0
 ·exact .inl ⟨h,by decide,by decide⟩
 ·exact .inr ⟨h,by decide,by show (1:Int)<P; omega,rfl⟩
def fac (P:Int) (k:List Int) (a:Int × Int):List (List Nat):=if k.sum=0 then [shN P a] else if a=(1,1) then wds 0 k else shN P a::wds 0 k
theorem cA (c:Nat) {B:Nat}:∀ ws:List (List Nat),(∀ w ∈ ws,w.length<=B)->(aL c ws).length<=ws.length*(B+1)
 | [],_=>Nat.zero_le _
 | [w],h=>by
  have:=h w (by simp)
  show w.length<=1*(B+1)
  omega
 | w::v::ws,h=>by
  have h1:=h w (by simp)
  have ih:=cA c (v::ws) λu hu=>h u (by simp only [mem_cons] at hu ⊢; exact .inr hu)
  show (w++c::aL c (v::ws)).length<=_
  rw [length_append,length_cons,length_cons,Nat.succ_mul]
  omega
theorem gz (c:Nat) (w:List Nat) {ws:List (List Nat)} (h:ws ≠ []):aL c (w::ws)=w++c::aL c ws:=by
 cases ws with
 | nil=>exact absurd rfl h
 | cons v r=>rfl
theorem fK:∀ {j:Nat} {k:List Int},(∀ e ∈ k,0<=e)->k.sum ≠ 0->wds j k ≠ []
 | _,[],_,h=>absurd rfl h
 | j,e::r,h0,h=>by
  unfold wds
  split
  ·simp
  ·have e0:e=0:=by have:=h0 e (by simp); omega
   refine fK (λx hx=>h0 x (by simp [hx])) ?_
   intro z
   rw [sum_cons,e0,z] at h
   exact h rfl
theorem iK {k:List Int} (h:∀ e ∈ k,0<=e/\e<=1000):∀ w ∈ wds 0 k,w.length<=50:=λw hw=>by
 obtain ⟨j,e,_,_,he,_,rfl⟩:=ce (B:=0) hw
 have l1:(aD e.natAbs).length<=40:=bg (by decide) (Nat.lt_of_le_of_lt (show e.natAbs<=1000 by have:=h e he; omega) (by decide +kernel))
 unfold shW
 split<;>simp<;>omega
theorem gZ {P:Int} {a:Int × Int} (h:Sz 110 a):(shN P a).length<=90:=by
 have l1:(aD a.1.natAbs).length<=40:=bg (by decide) (Nat.lt_trans h.1 (by decide +kernel))
 have l2:(aD a.2.natAbs).length<=40:=bg (by decide) (Nat.lt_trans h.2 (by decide +kernel))
 unfold shN
 split<;>simp<;>omega
def spShPart (CF CR:Addr):Sp:=λvs H Q _=>∃ (x t:Addr) (P:Int) (k:List Int) (u:V) (a:Int × Int),vs=[.ref x,.ref t,u]/\ll P/\lJ CF CR H x P/\H t=some (.tup (k.map V.int))/\k.length<=4/\(∀ e ∈ k,0<=e/\e<=1000)/\At P H u a/\OkN P a/\0<=a.1/\Sz 110 a/\∀ H',kW H H'->Q (.str (tx (aL 42 (fac P k a)))) H'
theorem kh:kX ["numbers", "product", "number"] ["numbers", "product", "number"] (aj eO):=.i
theorem ok_showpart {f CF CR mS:Addr} {fd:FuncData} (F:Fun K "show_part" "show_part" eO f fd) (qk:FnB P w K mg base 1 "degree" (spDeg K)) (oY:FnB P w K mg base 2 "show_number" (spShN CF CR)) (oN:FnB P w K mg base 1 "show_product" spShP) (nJ:dC P w K mg base 2 CF "of" [.int 1] (ci mS)) (nN:dC P w K mg base 2 CR "of" [.int 1] (cY CR mS)):kZ P w K mg base CX0 3 f fd ["numbers", "product", "number"] (spShPart CF CR):=by
 refine F.o kh λ_ _ _ _ H _ Q _ hr h=>?_
 ·obtain ⟨x,t,P,k,u,a,rfl,hP,hN,ht,k4,k0,hu,oa,a0,sz,q⟩:=h
  have hB:=hP.b
  refine ⟨_,(ae (aG (aq a9 (aB qk hr.m (aa (pv 1) ag)) ac (ao _))
(ah (al (aB oY hr.m (aa (pv 0) (aa (pv 2) ag)))))
aw)
(ae (aG (aq (keqD K rfl hr.units) (pv 2) (cK (bT nJ hr.m bN (pv 0) (aa ac ag)) (bT nN hr.m bN (pv 0) (aa ac ag))) (ao _))
(ah (al (aB oN hr.m (aa (pv 1) ag))))
aw)
(ah (al (am aN (am aN (aB oY hr.m (aa (pv 0) (aa (pv 2) ag))) aE) (aB oN hr.m (aa (pv 1) ag))))))),?_⟩
  unfold fac at q
  refine ⟨_,rfl,t,k,rfl,SqT.of ht,rfl,_,rfl,aY (λh=>?_) (λh=>?_)⟩
  ·have h1:k.sum=0:=by have:=of_decide_eq_true h; injection this
   rw [if_pos h1] at q
   exact ⟨_,rfl,_,rfl,x,P,u,a,rfl,hN,hu,oa,a0,sz,q H (kW.refl H)⟩
  ·have h1:k.sum ≠ 0:=λz=>h (decide_eq_true (congrArg V.int z))
   rw [if_neg h1] at q
   refine ⟨_,rfl,of_go (a:=1) hP hN rfl (λZ z=>⟨_,rfl,z⟩) (λZ z=>z) λr H2 s2 A2=>?_⟩
   have e1:(if P=0 then ((1:Int),(1:Int)) else (1 % P,1))=(1,1):=by
    split
    ·rfl
    ·rw [Int.emod_eq_of_lt (by decide) (by omega)]
   rw [e1] at A2
   refine ⟨dN P a,dN P (1,1),gr (hu.same s2),gr A2,bD _ _,bD _ _,_,rfl,?_⟩
   rw [im oa (iW hP)]
   refine aY (λh2=>?_) (λh2=>?_)
   ·rw [if_pos (of_decide_eq_true h2)] at q
    exact ⟨_,rfl,t,k,rfl,s2 _ _ ht,k4,k0,λH' s'=>q H' (s2.trans s')⟩
   ·rw [if_neg λz=>h2 (decide_eq_true z)] at q
    have ln:=gZ (P:=P) sz
    have lw:=cA 42 (wds 0 k) (iK k0)
    have lk:=cw 0 k
    have e42:tx (shN P a)++Str.ofString "*" = tx (shN P a++[42]):=bp _ [42]
    refine ⟨_,rfl,_,rfl,x,P,u,a,rfl,hN.mono λo e=>s2 _ _ e,hu.same s2,oa,a0,sz,?_⟩
    refine ⟨_,_,rfl,rfl,?_,?_⟩
    ·rw [aF,sizeLine_eq]
     show (shN P a).length+1<=_
     omega
    rw [e42]
    refine ⟨_,rfl,t,k,rfl,s2 _ _ ht,k4,k0,λH' s'=>⟨_,_,rfl,rfl,?_,?_⟩⟩
    ·rw [aF,aF,length_append,sizeLine_eq]
     have:(wds 0 k).length*(50+1)<=4*51:=Nat.mul_le_mul (by omega) (Nat.le_refl _)
     show (shN P a).length+1+_<=_
     omega
    ·have g:=gz 42 (shN P a) (fK (λe he=>(k0 e he).1) h1 (j:=0))
     rw [bp,append_assoc]
     show Q (.str (tx (shN P a++42::aL 42 (wds 0 k)))) H'
     rw [<- g]
     exact q H' (s2.trans s')
def sgn (P:Int) (a:Int × Int):List Nat:=if P=0/\a.1<0 then [45] else [43]
def prt (P:Int) (p:az):List Nat:=aL 42 (fac P p.1 (bA P p.2))
def fnd (P:Int) (ps:List az):List (List Nat):=ps.flatMap λp=>[sgn P p.2,prt P p]
def shS (P:Int):List az->List Nat
 | []=>[48]
 | p::r=>(if P=0/\p.2.1<0 then [45] else [])++aL 32 (prt P p::fnd P r)
def jg (P:Int) (p:az):Prop:=OkN P p.2/\Sz 110 p.2/\p.1.length<=4/\∀ e ∈ p.1,0<=e/\e<=1000
def spShS (CF CR CG:Addr):Sp:=λvs H Q _=>∃ (g x l:Addr) (P L:Int) (ts:List V) (ps:List az),vs=[.ref g,.ref l]/\ll P/\dU CG H g x L/\lJ CF CR H x P/\H l=some (.lst ts)/\lg P H ts ps/\ps.length<=60/\(∀ p ∈ ps,jg P p)/\∀ H',kW H H'->Q (.str (tx (shS P ps))) H'
theorem ig {P:Int} {a:Int × Int} (h:OkN P a) (z:Sz 110 a):OkN P (bA P a)/\0<=(bA P a).1/\Sz 110 (bA P a):=by
 unfold bA
 split
 ·rename_i c
  rcases h with ⟨h0,h1,h2⟩ | ⟨h0,_⟩
  ·exact ⟨.inl ⟨h0,h1,by show Int.gcd (-a.1) a.2=1; unfold Int.gcd at h2 ⊢; rw [Int.natAbs_neg]; exact h2⟩,by have:=c.2; show 0 <= -a.1; omega,by show (-a.1).natAbs<_; rw [Int.natAbs_neg]; exact z.1,z.2⟩
  ·exact absurd c.1 h0
 ·rename_i c
  refine ⟨h,?_,z⟩
  rcases h with ⟨h0,_⟩ | ⟨_,h1,_⟩
  ·exact Int.not_lt.mp λw=>c ⟨h0,w⟩
  ·exact h1
theorem prt_B {P:Int} {p:az} (h:jg P p):(prt P p).length<=460:=by
 obtain ⟨op,zp,k4,k0⟩:=h
 obtain ⟨_,_,o3⟩:=ig op zp
 have lk:=cw 0 p.1
 have g:(fac P p.1 (bA P p.2)).length<=5/\∀ w ∈ fac P p.1 (bA P p.2),w.length<=90:=by
  have w90:∀ w ∈ wds 0 p.1,w.length<=90:=λw hw=>Nat.le_trans (iK k0 w hw) (by decide)
  unfold fac
  split
  ·exact ⟨by simp,λw hw=>by rw [List.mem_singleton.mp hw]; exact gZ o3⟩
  ·split
   ·exact ⟨by omega,w90⟩
   ·refine ⟨by rw [length_cons]; omega,λw hw=>?_⟩
    rcases List.mem_cons.mp hw with z | z
    ·rw [z]
     exact gZ o3
    ·exact w90 w z
 have:=cA 42 _ g.2
 have h2:(fac P p.1 (bA P p.2)).length*(90+1)<=5*91:=Nat.mul_le_mul g.1 (Nat.le_refl _)
 unfold prt
 omega
theorem fnd_B {P:Int}:∀ {ps:List az},(∀ p ∈ ps,jg P p)->(fnd P ps).length=2*ps.length/\∀ w ∈ fnd P ps,w.length<=460
 | [],_=>⟨rfl,λw hw=>by simp [fnd] at hw⟩
 | p::r,h=>by
  obtain ⟨i1,i2⟩:=fnd_B (ps:=r) λq hq=>h q (by simp [hq])
  have e:fnd P (p::r)=sgn P p.2::prt P p::fnd P r:=rfl
  rw [e]
  refine ⟨by rw [length_cons,length_cons,i1,length_cons]; omega,λw hw=>?_⟩
  rcases List.mem_cons.mp hw with z | z
  ·rw [z]
   unfold sgn
   split<;>decide
  ·rcases List.mem_cons.mp z with z | z
   ·rw [z]
    exact prt_B (h p (by simp))
   ·exact i2 w z
theorem cut_tail (a:V) (r:List V):cutV (a::r) (some 1) none=r:=by
 unfold cutV
 simp [HT.sIx]
 try omega
theorem lU:kX ["ring", "one", "numbers", "found", "product", "number", "below", "text"] ["ring", "one"] (aj fx):=.i
set_option maxHeartbeats 1000000 in
theorem ok_shows {f CF CR CG:Addr} {fd:FuncData} (F:Fun K "show_sum" "show_sum" fx f fd) (T:Blt mg) (oj:MtB P w K mg base 1 CG "numbers" (gL CG)) (m5:FnB P w K mg base 2 "is_below_nought" (kL CF CR)) (pW:FnB P w K mg base 3 "without_sign" (io CF CR)) (rB:FnB P w K mg base 3 "show_part" (spShPart CF CR)):kZ P w K mg base CX0 4 f fd ["ring", "one"] (spShS CF CR CG):=by
 refine F.o lU λ_ _ _ _ H _ Q _ hr h=>?_
 ·obtain ⟨g,x,l,P,L,ts,ps,rfl,hP,hg,hN,hl,hps,hn,hok,q⟩:=h
  have hB:=hP.b
  refine ⟨_,(ae (aG (aq (keqD K rfl hr.units) (pv 1) (aV ag) (ao _))
(ah (al aE))
aw)
(ae (ak (i:=2) lU.nd rfl (Or.inl rfl) (bu oj hr.m (pv 0)))
(ae (ak (i:=3) lU.nd rfl (Or.inl rfl) (aV ag))
(ae (bI PassesOwn.never rfl (bH K rfl (pv 1)) (e8 K (i:=4) (j:=5) rfl rfl lU.nd rfl rfl rfl rfl)
(ae (ak (i:=6) lU.nd rfl (Or.inl rfl) (aB m5 hr.m (aa (pv 2) (aa (pv 5) ag))))
(ae (bR (bmA K rfl (pv 3) (aa (bw (bd (pv 6)) aE aE) ag)))
(ah (bR (bmA K rfl (pv 3) (aa (by exact (aB rB hr.m (aa (pv 2) (aa (pv 4) (aa (by exact (aB pW hr.m (aa (pv 2) (aa (pv 5) ag)))) ag))))) ag)))))))
(ae (ak (i:=7) lU.nd rfl (Or.inl rfl) (fY PySem.F.plainAttrs_str PySem.F.slot_str_join PySem.F.type_str_join kq aE (aa (dn (ksl_list K rfl) (pv 3) (bZ ac) e9) ag)))
(ah (al (bw (aq a9 (aA (aK K rfl) (pv 3) ac (λ_ _=>rfl)) aE (ao _)) (am aN aE (pv 7)) (pv 7))))))))),?_⟩
  have lt:ts.length=ps.length:=Paired.length hps
  obtain ⟨dxg,hg'⟩:=id hg
  refine ⟨_,rfl,Nat.zero_le _,λem hem=>?_⟩
  have s0:=kW.new (o:=.lst []) hem
  have hem':(upd H em (.lst [])) em=some (.lst []):=af
  generalize upd H em (.lst [])=H0 at *
  refine ⟨dS P ps,dS P [],g6 (s0 _ _ hl) (hps.mono λt xs e=>s0 _ _ e),g6 hem' .nil,bC _ _,bC _ _,_,rfl,?_⟩
  cases ps with
  | nil=>
   refine bG ?_
   exact q H0 s0
  | cons p0 pr=>
   refine be ?_
   refine ⟨_,rfl,g,dxg,_,rfl,s0 _ _ hg',rfl,g,x,L,rfl,⟨dxg,s0 _ _ hg'⟩,?_⟩
   refine ⟨Nat.zero_le _,λd nd=>?_⟩
   have s1:=kW.new (o:=.lst []) nd
   have hd1:(upd H0 d (.lst [])) d=some (.lst []):=af
   generalize upd H0 d (.lst [])=H1 at *
   have s01:=s0.trans s1
   have nd0:H d=none:=s0.free nd
   refine ⟨_,rfl,l,rfl,⟨_,SqL.of (s01 _ _ hl)⟩,gQ (xs:=ts) (λi σ H'=>∃ x4 x5 x6:Option V,σ=[some (.ref g),some (.ref l),some (.ref x),some (.ref d),x4,x5,x6,none]/\kW H H'/\H' d=some (.lst (((fnd P ((p0::pr).take i)).map tx).map V.str))) ⟨none,none,none,rfl,s01,hd1⟩ ?_ ?_ ?_⟩
   ·rintro i σ H' _ ⟨x4,x5,x6,rfl,sm,_⟩
    exact SqL.of (sm _ _ hl)
   ·rintro i v σ H2 hv ⟨x4,x5,x6,rfl,sm,hd2⟩ N0 C0 hN0
    obtain ⟨p,ep,t,k,u,rfl,ht,hk,hu⟩:=hps.at_ hv
    obtain ⟨op,zp,k4,k0⟩:=hok p (mem_of_getElem? ep)
    have hi:i<(p0::pr).length:=(List.getElem?_eq_some_iff.mp ep).1
    have lf:(fnd P ((p0::pr).take i)).length=2*i:=by
     have:∀ l:List az,(fnd P l).length=2*l.length:=λl=>by
      induction l with
      | nil=>rfl
      | cons a r ih=>
       show (sgn P a.2::prt P a::fnd P r).length=_
       rw [length_cons,length_cons,ih,length_cons]
       omega
     rw [this,length_take,Nat.min_eq_left (by omega)]
    refine ⟨t,_,rfl,SqT.of (sm _ _ ht),rfl,_,_,rfl,_,_,rfl,rfl,?_⟩
    refine ⟨_,rfl,_,rfl,x,P,u,p.2,rfl,hN.mono λo e=>sm _ _ e,hu.same sm,?_⟩
    dsimp only
    refine eZ (t:=tDrop _) (λσ' H'=>σ'=[some (.ref g),some (.ref l),some (.ref x),some (.ref d),some (.ref k),some u,some (.bl (decide (P=0/\p.2.1<0))),none]/\kW H H'/\H' d=some (.lst (((fnd P ((p0::pr).take i)++[sgn P p.2]).map tx).map V.str))) (λR hR=>?_) ?_
    ·have ap:∀ z:Str,z=tx (sgn P p.2)->(upd H2 d (.lst (((fnd P ((p0::pr).take i)).map tx).map V.str++[V.str z]))) d=some (.lst (((fnd P ((p0::pr).take i)++[sgn P p.2]).map tx).map V.str)):=λz ez=>by
      rw [af,ez,map_append,map_append]
      rfl
     have sl:(((fnd P ((p0::pr).take i)).map tx).map V.str).length<sizeLine:=by rw [length_map,length_map,lf,sizeLine_eq]; omega
     refine ⟨_,rfl,(.inl ⟨rfl,_,SqL.of hd2⟩),_,rfl,_,rfl,aY (λh=>?_) (λh=>?_)⟩
     ·have h:=of_decide_eq_true h
      exact ⟨d,_,_,rfl,rfl,hd2,sl,hR _ _ ⟨rfl,sm.put nd0,ap _ (by unfold sgn; rw [if_pos h]; rfl)⟩⟩
     ·have h:¬ (P=0/\p.2.1<0):=λz=>h (decide_eq_true z)
      exact ⟨d,_,_,rfl,rfl,hd2,sl,hR _ _ ⟨rfl,sm.put nd0,ap _ (by unfold sgn; rw [if_neg h]; rfl)⟩⟩
    rintro σ' H3 ⟨rfl,s3,hd3⟩
    obtain ⟨o1,o2,o3⟩:=ig op zp
    refine ⟨_,rfl,(.inl ⟨rfl,_,SqL.of hd3⟩),_,rfl,_,rfl,_,rfl,_,rfl,x,P,u,p.2,rfl,hN.mono λo e=>s3 _ _ e,hu.same s3,λr4 H4 s4 a4=>?_⟩
    refine ⟨x,k,P,p.1,r4,bA P p.2,rfl,hP,hN.mono λo e=>s4 _ _ (s3 _ _ e),s4 _ _ (s3 _ _ hk),k4,k0,a4,o1,o2,o3,λH5 s5=>?_⟩
    refine ⟨d,_,_,rfl,rfl,s5 _ _ (s4 _ _ hd3),by rw [length_map,length_map,length_append,lf,sizeLine_eq,length_singleton]; omega,hN0 _ _ ⟨_,_,_,rfl,(s3.trans (s4.trans s5)).put nd0,?_⟩⟩
    rw [af,take_add_one,ep]
    unfold fnd
    rw [List.flatMap_append]
    simp only [Option.toList,List.flatMap_cons,List.flatMap_nil,append_nil,map_append,append_assoc]
    rfl
   ·rintro σ H2 ⟨x4,x5,x6,rfl,sm,hd2⟩
    rw [lt,take_length] at hd2
    have ef:((fnd P (p0::pr)).map tx).map V.str=V.str (tx (sgn P p0.2))::((prt P p0::fnd P pr).map tx).map V.str:=rfl
    rw [ef] at hd2
    refine ⟨rfl,_,rfl,_,rfl,d,_,rfl,SqL.of hd2,λsl nsl=>?_⟩
    rw [cut_tail]
    have s3:=kW.new (o:=.lst (((prt P p0::fnd P pr).map tx).map V.str)) nsl
    have hsl:(upd H2 sl (.lst (((prt P p0::fnd P pr).map tx).map V.str))) sl=some (.lst (((prt P p0::fnd P pr).map tx).map V.str)):=af
    generalize upd H2 sl (.lst (((prt P p0::fnd P pr).map tx).map V.str))=H3 at *
    obtain ⟨f1,f2⟩:=fnd_B (P:=P) (ps:=pr) λq hq=>hok q (by simp [hq])
    have wB:∀ w ∈ prt P p0::fnd P pr,w.length<=460:=λw hw=>by
     rcases List.mem_cons.mp hw with z | z
     ·rw [z]
      exact prt_B (hok p0 (by simp))
     ·exact f2 w z
    have wl:(prt P p0::fnd P pr).length<=121:=by rw [length_cons,f1]; rw [length_cons] at hn; omega
    refine ⟨_,sl,_,rfl,rfl,hsl,?_,?_⟩
    ·unfold JoinOk
     rw [Bool.not_eq_true']
     refine StrLaws.joinFits (B:=460) (λy hy=>?_) ?_
     ·obtain ⟨w,hw,rfl⟩:=List.mem_map.mp hy
      rw [aF]
      exact wB w hw
     ·rw [length_map]
      show (prt P p0::fnd P pr).length*460+(prt P p0::fnd P pr).length*1<=16777216
      omega
    have ej:Txt.join (Str.ofString " ") ((prt P p0::fnd P pr).map tx)=tx (aL 32 (prt P p0::fnd P pr)):=gM 32 _
    rw [ej]
    have lj:=cA 32 _ wB
    have lj2:(prt P p0::fnd P pr).length*(460+1)<=121*461:=Nat.mul_le_mul wl (Nat.le_refl _)
    have qf:Q (.str (tx ((if P=0/\p0.2.1<0 then [45] else [])++aL 32 (prt P p0::fnd P pr)))) H3:=q H3 (sm.trans s3)
    refine ⟨_,rfl,d,_,_,_,rfl,rfl,SqL.of (s3 _ _ hd2),ay (j:=0) rfl,rfl,_,rfl,aY (λh=>?_) (λh=>?_)⟩
    ·have hs:tx (sgn P p0.2)=tx [45]:=by have:=of_decide_eq_true h; injection this
     have hneg:P=0/\p0.2.1<0:=Decidable.byContradiction λz=>by
      unfold sgn at hs
      rw [if_neg z,mf] at hs
      exact absurd hs (by decide)
     refine ⟨_,rfl,_,_,rfl,rfl,?_,?_⟩
     ·rw [aF,sizeLine_eq]
      show 1+_<=_
      omega
     ·have e1:Str.ofString "-" ++ tx (aL 32 (prt P p0::fnd P pr))=tx ([45]++aL 32 (prt P p0::fnd P pr)):=bp [45] _
      rw [e1]
      rw [if_pos hneg] at qf
      exact qf
    ·have hneg:¬ (P=0/\p0.2.1<0):=λz=>h (decide_eq_true (congrArg V.str (by unfold sgn; rw [if_pos z]; rfl)))
     rw [if_neg hneg,nil_append] at qf
     exact ⟨_,rfl,qf⟩
def spLShN:Sp:=λvs H Q _=>∃ (P:Int) (u:V) (a:Int × Int),vs=[.int P,u]/\ll P/\At P H u a/\0<=a.1/\0<a.2/\Sz 110 a/\Q (.str (tx (shN P a))) H
theorem fj:kX ["_law_prime_here", "_law_number_here"] ["_law_prime_here", "_law_number_here"] (aj bM):=.i
theorem ok_lshown {f:Addr} {fd:FuncData} (F:Fun K "_law_show_number" "_law_show_number" bM f fd) (nstr:mg "str" = none):kZ P w K mg base CX0 1 f fd ["_law_prime_here", "_law_number_here"] spLShN:=by
 refine F.o fj λ_ _ _ _ H _ Q _ hr h=>?_
 ·obtain ⟨P,u,a,rfl,hP,hu,a0,b0,sz,q⟩:=h
  have hB:=hP.b
  refine ⟨_,(ae (aG (aq cg (pv 0) ac (ao _))
(ah (al (aI aQ (by rfl) nstr ba (aa (pv 1) ag))))
aw)
(ae (aG (aq a9 (aA (ar K rfl) (pv 1) ac (λ_ _=>rfl)) ac (ao _))
(ah (al (aI aQ (by rfl) nstr ba (aa (aA (ar K rfl) (pv 1) ac (λ_ _=>rfl)) ag))))
aw)
(ah (al (am aN (am aN (aI aQ (by rfl) nstr ba (aa (aA (ar K rfl) (pv 1) ac (λ_ _=>rfl)) ag)) aE) (aI aQ (by rfl) nstr ba (aa (aA (ar K rfl) (pv 1) ac (λ_ _=>rfl)) ag))))))),?_⟩
  have l1:(aD a.1.natAbs).length<=40:=bg (by decide) (Nat.lt_trans sz.1 (by decide +kernel))
  have l2:(aD a.2.natAbs).length<=40:=bg (by decide) (Nat.lt_trans sz.2 (by decide +kernel))
  unfold shN at q
  refine ⟨_,rfl,_,_,rfl,rfl,_,rfl,aY (λh=>?_) (λh=>?_)⟩
  ·have h0:P ≠ 0:=λz=>by have:=of_decide_eq_true h; omega
   rcases hu with ⟨z,_⟩ | ⟨_,rfl,_⟩
   ·exact absurd z h0
   ·rw [if_neg λz=>h0 z.1] at q
    refine ⟨_,rfl,_,rfl,di sz.1,?_⟩
    rw [b9 a0]
    exact q
  ·have h0:P=0:=Decidable.byContradiction λz=>h (decide_eq_true (by omega))
   rcases hu with ⟨_,t,rfl,ht⟩ | ⟨z,_⟩
   ·refine ⟨_,rfl,t,_,_,_,rfl,rfl,SqT.of ht,ay (j:=1) rfl,rfl,_,rfl,aY (λh=>?_) (λh=>?_)⟩
    ·have h1:a.2=1:=by have:=of_decide_eq_true h; injection this
     rw [if_neg λz=>z.2 h1] at q
     refine ⟨_,rfl,t,_,_,_,rfl,rfl,SqT.of ht,ay (j:=0) rfl,_,rfl,di sz.1,?_⟩
     rw [b9 a0]
     exact q
    ·have h1:a.2 ≠ 1:=λz=>h (decide_eq_true (congrArg V.int z))
     rw [if_pos ⟨h0,h1⟩] at q
     refine ⟨_,rfl,t,_,_,_,rfl,rfl,SqT.of ht,ay (j:=0) rfl,_,rfl,di sz.1,?_⟩
     rw [b9 a0]
     refine ⟨_,_,rfl,rfl,?_,?_⟩
     ·rw [aF,sizeLine_eq]
      show (aD a.1.natAbs).length+1<=_
      omega
     refine ⟨_,rfl,t,_,_,_,rfl,rfl,SqT.of ht,ay (j:=1) rfl,_,rfl,di sz.2,?_⟩
     rw [b9 (by omega)]
     have e1:tx (aD a.1.natAbs)++Str.ofString "/" = tx (aD a.1.natAbs++[47]):=bp _ [47]
     rw [e1]
     refine ⟨_,_,rfl,rfl,?_,?_⟩
     ·rw [aF,aF,sizeLine_eq,length_append]
      show (aD a.1.natAbs).length+1+_<=_
      omega
     rw [bp,append_assoc]
     exact q
   ·exact absurd h0 z
theorem nd_4:(["sign"]:List Str).Nodup:=by decide +kernel
def cT (c:Nat):Bool:=decide (48<=c) && decide (c<=57)
def spFigs:Sp:=λvs H Q _=>∃ l:List Nat,vs=[.str (tx l)]/\(∀ c ∈ l,c<128)/\l.length<=3000/\∀ H',kW H H'->Q (.bl (!l.isEmpty && l.all cT)) H'
theorem in_figs (c:Nat):(!(Builtin.Str.occurrences (Str.ofString "0123456789") ⟨#[c]⟩ 0 (Str.ofString "0123456789").length 1).isEmpty)=cT c:=by
 rw [StrLaws.found_one]
 have e:(Str.ofString "0123456789").cps.toList=[48,49,50,51,52,53,54,55,56,57]:=by decide +kernel
 rw [e]
 unfold cT
 rw [<- Bool.decide_and]
 refine decide_eq_decide.mpr ?_
 simp only [mem_cons,not_mem_nil,or_false]
 omega
theorem jn:kX ["text"] ["text"] (aj dI):=.i
theorem ok_isfigs {f:Addr} {fd:FuncData} {tk:Tok} (F:Fun K "is_figures" "is_figures" dI f fd) (T:Blt mg) (gFIGURES:mg "FIGURES"=some (.str "0123456789" tk)):kZ P w K mg base CX0 1 f fd ["text"] spFigs:=by
 refine F.o jn λ_ _ _ _ H _ Q _ hr h=>?_
 ·obtain ⟨l,rfl,h1,h2,q⟩:=h
  refine ⟨_,(ah (al (fF (aU eM (pv 0) aE (ao _)) (fI (ia K T (by exact cv (N:=["sign"]) (src:=[none]) rfl rfl rfl (by exact (pi_str (pv 0))) (λ_ _ _=>by exact ⟨by exact (cR (i:=0) nd_4 rfl rfl),cN,by exact (aU op_in_str (pv 0) (cQ (v:=.str "0123456789") rfl gFIGURES ⟨_,rfl⟩) rfl)⟩)) false))))),?_⟩
  have hl:(tx l).cps.all (· < 128)=true:=by
   rw [Array.all_eq_true']
   intro y hy
   exact decide_eq_true (h1 y (by have:=Array.mem_toList_iff.mpr hy; rwa [cO] at this))
  refine ⟨_,rfl,rfl,_,rfl,aY (λh=>?_) (λh=>?_)⟩
  ·refine ⟨_,rfl,_,rfl,hl,eY (n:=l.length) (σ0:=[none]) rfl (λacc i zs σ H'=>(∃ u,σ=[u])/\kW H H'/\zs=((l.take i).map cT).map V.bl) (by rw [sizeLine_eq]; omega) (λacc hacc=>⟨⟨none,rfl⟩,kW.new hacc,rfl⟩) ?_ ?_ ?_ ?_⟩
   ·rintro acc i zs σ H' hacc hi hz ⟨⟨u,rfl⟩,sm,_⟩
    show i<(tx l).cps.size
    simpa [tx] using hi
   ·rintro acc zs σ H' hacc hz ⟨⟨u,rfl⟩,sm,_⟩
    show (tx l).cps.size<=l.length
    simp [tx]
   ·rintro acc i zs σ H' x H2 hacc hi hz hzl ⟨⟨u,rfl⟩,sm,rfl⟩ ⟨rfl,c,hc,rfl⟩
    have ec:l[i]? = some c:=by simpa [tx] using hc
    refine ⟨_,rfl,_,_,rfl,rfl,?_⟩
    rw [in_figs]
    refine ⟨_,hz,by rw [length_map,length_map,length_take,sizeLine_eq]; omega,_,af,by rw [length_append,length_map,length_map,length_take,length_singleton]; omega,⟨_,rfl⟩,sm.put hacc,?_⟩
    rw [take_add_one,ec,map_append,map_append]
    rfl
   ·rintro acc zs σ H' hacc hz hzl ⟨_,sm,rfl⟩
    rw [take_length] at hz
    refine ⟨acc,_,rfl,sqvL (SqL.of hz),?_⟩
    have ne:l.isEmpty=false:=by
     cases l with
     | nil=>exact absurd h (by decide)
     | cons a r=>rfl
    have e:((l.map cT).all id)=(!l.isEmpty && l.all cT):=by
     rw [ne,List.all_map]
     rfl
    rw [e]
    exact q H' sm
  ·have:l=[]:=by
    cases l with
    | nil=>rfl
    | cons a r=>exact absurd (by rw [decide_eq_false (λz=>by injection z with z; exact absurd ((mf (a:=a::r) (b:=[])).mp z) (by simp))]; rfl) h
   subst this
   exact q H (kW.refl H)
def spRF:Sp:=λvs H Q _=>∃ n:Nat,vs=[.str (tx (aD n))]/\(aD n).length<=600/\∀ H',kW H H'->Q (.int n) H'
theorem figs_all (n:Nat):(!(aD n).isEmpty && (aD n).all cT)=true:=by
 have h1:(aD n).isEmpty=false:=by
  cases h:aD n with
  | nil=>exact absurd h (kA n)
  | cons a r=>rfl
 rw [h1,Bool.not_false,Bool.true_and,all_eq_true]
 intro c hc
 have:=bS hc
 unfold cT
 rw [decide_eq_true this.1,decide_eq_true this.2]
 rfl
theorem gP:kX ["text"] ["text"] (aj cq):=.i
theorem ok_rfigs {f:Addr} {fd:FuncData} (F:Fun K "rough_figures" "rough_figures" cq f fd) (T:Blt mg) (nZ:FnB P w K mg base 1 "is_figures" spFigs):kZ P w K mg base CX0 2 f fd ["text"] spRF:=by
 refine F.o gP λ_ _ _ _ H _ Q _ hr h=>?_
 ·obtain ⟨n,rfl,hl,q⟩:=h
  refine ⟨_,(ae (aG (bK (bd (aB nZ hr.m (aa (pv 0) ag))))
(ah cB)
aw)
(ah (al (aI jj (by rfl) T.int br (aa (pv 0) ag))))),?_⟩
  refine ⟨_,rfl,aD n,rfl,λc hc=>by have:=bS hc; omega,by omega,λH1 s1=>?_⟩
  rw [figs_all]
  refine ⟨true,rfl,be ?_⟩
  exact ⟨_,rfl,_,_,rfl,gK (by omega),by rw [aF]; omega,q H1 s1⟩
def bx (j:Nat):Nat:=[120,121,122,119].getD j 0
theorem lett_inj {i j:Nat} (hi:i<4) (hj:j<4) (h:bx i=bx j):i=j:=by
 have:∀ i,i<4->∀ j,j<4->bx i=bx j->i=j:=by decide
 exact this i hi j hj h
def spChkT:Sp:=λvs H Q _=>∃ x:Str,vs=[.str x]/\Q .non H
def spChkW:Sp:=λvs H Q _=>∃ x:Str,vs=[.str x,.str x]/\Q .non H
def spLetN (CG:Addr):Sp:=λvs H Q _=>∃ (g x:Addr) (L:Int) (j:Nat),vs=[.ref g,.str (tx [bx j])]/\dU CG H g x L/\(j:Int)<L/\L<=4/\Q (.int j) H
def spRN (CF CR:Addr):Sp:=λvs H Q _=>∃ (x:Addr) (P:Int) (a:Int × Int),vs=[.ref x,.str (tx (shN P a))]/\ll P/\lJ CF CR H x P/\OkN P a/\0<=a.1/\Sz 110 a/\∀ r H',kW H H'->At P H' r a->Q r H'
theorem figs_no {n c:Nat} (h:c<48):c ∉ aD n:=λz=>by have:=bS z; omega
theorem jl:kX ["thing"] ["thing"] (aj dF):=.i
theorem ok_chkt {f:Addr} {fd:FuncData} (F:Fun K "check_text" "check_text" dF f fd) (T:Blt mg) (nstr:mg "str" = none):kZ P w K mg base CX0 1 f fd ["thing"] spChkT:=by
 refine F.o jl λ_ _ _ _ H _ Q _ hr h=>?_
 ·obtain ⟨x,rfl,q⟩:=h
  refine ⟨_,(ah (aG (bK (bd (eK K T (pv 0) nstr ba)))
(ah cB)
aw)),?_⟩
  exact ⟨_,rfl,_,true,.str _,rfl,_,rfl,be q⟩
theorem gE:kX ["written", "text"] ["written", "text"] (aj ck):=.i
theorem ok_chkw {f:Addr} {fd:FuncData} (F:Fun K "check_written" "check_written" ck f fd):kZ P w K mg base CX0 1 f fd ["written", "text"] spChkW:=by
 refine F.o gE λ_ _ _ _ H _ Q _ hr h=>?_
 ·obtain ⟨x,rfl,q⟩:=h
  refine ⟨_,(ah (aG (aq eM (pv 0) (pv 1) (ao _))
(ah cB)
aw)),?_⟩
  refine ⟨_,rfl,_,rfl,rfl,_,rfl,?_⟩
  rw [decide_eq_true rfl]
  exact be q
theorem mm:kX ["ring", "text", "letter"] ["ring", "text"] (aj cj):=.i
theorem ok_letn {f CG:Addr} {fd:FuncData} {tk:Tok} (F:Fun K "letter_number" "letter_number" cj f fd) (T:Blt mg) (gLETTERS:mg "LETTERS"=some (.str "xyzw" tk)) (ut:MtB P w K mg base 1 CG "letters" (kE CG)):kZ P w K mg base CX0 2 f fd ["ring", "text"] (spLetN CG):=by
 refine F.o mm λ_ _ _ _ H _ Q _ hr h=>?_
 ·obtain ⟨g,x,L,j,rfl,⟨dx,hg⟩,hj,hL,q⟩:=h
  refine ⟨_,(ae (bI PassesOwn.never rfl (bh rfl T.range (aa (bu ut hr.m (pv 0)) ag)) (bY (i:=2) mm.nd rfl (Or.inl rfl))
(ah (aG (aq a9 (pv 1) (aA kP (cQ (v:=.str "xyzw") rfl gLETTERS ⟨_,rfl⟩) (pv 2) (λ_ _=>rfl)) (ao _))
(ah (al (pv 2)))
aw)))
(ah cB)),?_⟩
  refine ⟨_,rfl,g,dx,_,rfl,hg,rfl,g,x,L,rfl,⟨dx,hg⟩,L,rfl,by omega,by omega,e7 (n:=L.toNat) (λi σ H'=>∃ x2:Option V,σ=[some (.ref g),some (.str (tx [bx j])),x2]/\H'=H/\i<=j) ⟨none,rfl,rfl,Nat.zero_le _⟩ ?_ ?_⟩
  ·rintro i σ H' hi ⟨x2,rfl,rfl,hij⟩
   have e0:(0:Int)+(i:Int)=(i:Int):=Int.zero_add _
   rw [e0]
   refine ⟨_,rfl,_,rfl,_,_,_,rfl,rfl,(by show 4<=sizeLine; decide),ki (by omega),rfl,_,rfl,aY (λh=>?_) (λh=>?_)⟩
   ·have h1:tx [bx j]=tx [bx i]:=by have:=of_decide_eq_true h; injection this
    have h2:bx j=bx i:=by have:=mf.mp h1; injection this
    have e2:j=i:=lett_inj (by omega) (by omega) h2
    subst e2
    exact ⟨_,rfl,q⟩
   ·have h1:j ≠ i:=λz=>h (decide_eq_true (by rw [z]; rfl))
    exact ⟨_,rfl,rfl,by omega⟩
  ·rintro σ H' ⟨x2,rfl,rfl,hij⟩
   omega
theorem lY:kX ["numbers", "text", "fraction", "top", "bottom"] ["numbers", "text"] (aj cJ):=.i
theorem ok_rnumr {f CF CR mS:Addr} {fd:FuncData} (F:Fun K "rough_number" "rough_number" cJ f fd) (m7:FnB P w K mg base 2 "rough_figures" spRF) (rp:MtB P w K mg base 1 CF "prime" spFPr) (rA:MtB P w K mg base 1 CR "prime" (spRPr CR))
  (nJ:dC P w K mg base 2 CF "of" [.int 1] (ci mS)) (nN:dC P w K mg base 2 CR "of" [.int 1] (cY CR mS)) (rh:dC P w K mg base 2 CF "of" [] (ci mS)) (vE:dC P w K mg base 2 CR "of" [] (cY CR mS)):kZ P w K mg base CX0 3 f fd ["numbers", "text"] (spRN CF CR):=by
 refine F.o lY λ_ _ _ _ H _ Q _ hr h=>?_
 ·obtain ⟨x,P,a,rfl,hP,hN,oa,a0,sz,q⟩:=h
  have hB:=hP.b
  refine ⟨_,(ae (ak (i:=2) lY.nd rfl (Or.inl rfl) (fY PySem.F.plainAttrs_str PySem.F.slot_str_partition PySem.F.type_str_partition mt_part (pv 1) (aa aE ag)))
(ae (ak (i:=3) lY.nd rfl (Or.inl rfl) (aB m7 hr.m (aa (aA (ar K rfl) (pv 2) ac (λ_ _=>rfl)) ag)))
(ae (aG (aq a9 (aA (ar K rfl) (pv 2) ac (λ_ _=>rfl)) aE (ao _))
(ah (al (cK (bT nJ hr.m bN (pv 0) (aa (pv 3) ag)) (bT nN hr.m bN (pv 0) (aa (pv 3) ag)))))
aw)
(ae (ak (i:=4) lY.nd rfl (Or.inl rfl) (aB m7 hr.m (aa (aA (ar K rfl) (pv 2) ac (λ_ _=>rfl)) ag)))
(ae (aG (PW.pt (dw (aq eM (cK (bu rp hr.m (pv 0)) (bu rA hr.m (pv 0))) ac (ao _)) (dW (aq a9 (pv 4) ac (ao _)))))
(ah cB)
aw)
(ah (al (cK (bT rh hr.m bN (pv 0) (aa (pv 3) (aa (pv 4) ag))) (bT vE hr.m bN (pv 0) (aa (pv 3) (aa (pv 4) ag))))))))))),?_⟩
  have b0:=oa.den
  have l1:(aD a.1.natAbs).length<=40:=bg (by decide) (Nat.lt_trans sz.1 (by decide +kernel))
  have l2:(aD a.2.natAbs).length<=40:=bg (by decide) (Nat.lt_trans sz.2 (by decide +kernel))
  have lN:=gZ (P:=P) sz
  refine ⟨_,rfl,rfl,_,_,rfl,rfl,rfl,by rw [aF,sizeLine_eq]; omega,λt nt=>?_⟩
  by_cases hc:P=0/\a.2 ≠ 1
  ·have e:Txt.partition (tx (shN P a)) (Str.ofString "/")=(tx (aD a.1.natAbs),one 47,tx (aD a.2.natAbs)):=by
    refine jF (c:=47) (w:=aD a.1.natAbs) (r:=aD a.2.natAbs) ?_ (figs_no (by decide))
    unfold shN
    rw [if_pos hc]
    rfl
   rw [e]
   have s1:=kW.new (o:=.tup [.str (tx (aD a.1.natAbs)),.str (one 47),.str (tx (aD a.2.natAbs))]) nt
   have h1:(upd H t (.tup [.str (tx (aD a.1.natAbs)),.str (one 47),.str (tx (aD a.2.natAbs))])) t=some (.tup [.str (tx (aD a.1.natAbs)),.str (one 47),.str (tx (aD a.2.natAbs))]):=af
   dsimp only
   generalize upd H t (.tup [.str (tx (aD a.1.natAbs)),.str (one 47),.str (tx (aD a.2.natAbs))])=H1 at *
   refine ⟨_,rfl,t,_,_,_,rfl,rfl,SqT.of h1,ay (j:=0) rfl,a.1.natAbs,rfl,by omega,λH2 s2=>?_⟩
   refine ⟨_,rfl,t,_,_,_,rfl,rfl,SqT.of (s2 _ _ h1),ay (j:=1) rfl,rfl,_,rfl,?_⟩
   rw [decide_eq_false (λz=>by injection z with z; exact absurd ((mf (a:=[47]) (b:=[])).mp z) (by decide))]
   refine be ?_
   refine ⟨_,rfl,t,_,_,_,rfl,rfl,SqT.of (s2 _ _ h1),ay (j:=2) rfl,a.2.natAbs,rfl,by omega,λH3 s3=>?_⟩
   have sm:=s1.trans (s2.trans s3)
   have ea1:((a.1.natAbs:Nat):Int)=a.1:=Int.natAbs_of_nonneg a0
   have ea2:((a.2.natAbs:Nat):Int)=a.2:=Int.natAbs_of_nonneg (by omega)
   rw [ea1,ea2]
   have hN3:=hN.mono λo e=>sm _ _ e
   rcases hN with ⟨h0,dx,e⟩ | ⟨h0,dx,e⟩
   ·refine .inl ⟨_,rfl,x,dx,_,rfl,sm _ _ e,rfl,.ref x,rfl,rfl,_,rfl,be ⟨_,rfl,rfl,_,rfl,?_⟩⟩
    rw [decide_eq_false (show ¬ V.int a.2=V.int 0 from λz=>by injection z with z; omega)]
    refine be ?_
    refine .inl ⟨_,rfl,x,dx,[],rfl,sm _ _ e,rfl,_,rfl,_,rfl,.ref x,a.1,a.2,rfl,λz=>absurd z (by omega),λ_=>⟨Nat.lt_trans sz.2 (Nat.pow_lt_pow_right (by decide) (by decide)),λr nr=>?_⟩⟩
    have en:nrm a.1 a.2=a:=by
     rcases oa with ⟨_,hd,hg⟩ | ⟨z,_⟩
     ·exact (dq a.1 a.2 hd).mpr hg
     ·exact absurd h0 z
    rw [en]
    exact q _ _ (sm.trans (kW.new nr)) (.inl ⟨h0,r,rfl,af⟩)
   ·exact absurd hc.1 h0
  ·have eN:shN P a=aD a.1.natAbs:=by
    unfold shN
    rw [if_neg hc]
   rw [eN]
   have e:Txt.partition (tx (aD a.1.natAbs)) (Str.ofString "/")=(tx (aD a.1.natAbs),Str.empty,Str.empty):=jR (c:=47) (figs_no (by decide))
   rw [e]
   have s1:=kW.new (o:=.tup [.str (tx (aD a.1.natAbs)),.str Str.empty,.str Str.empty]) nt
   have h1:(upd H t (.tup [.str (tx (aD a.1.natAbs)),.str Str.empty,.str Str.empty])) t=some (.tup [.str (tx (aD a.1.natAbs)),.str Str.empty,.str Str.empty]):=af
   dsimp only
   generalize upd H t (.tup [.str (tx (aD a.1.natAbs)),.str Str.empty,.str Str.empty])=H1 at *
   refine ⟨_,rfl,t,_,_,_,rfl,rfl,SqT.of h1,ay (j:=0) rfl,a.1.natAbs,rfl,by omega,λH2 s2=>?_⟩
   refine ⟨_,rfl,t,_,_,_,rfl,rfl,SqT.of (s2 _ _ h1),ay (j:=1) rfl,rfl,_,rfl,?_⟩
   rw [decide_eq_true (show V.str Str.empty=V.str (Str.ofString "") from rfl)]
   refine bG ?_
   have sm:=s1.trans s2
   have ea1:((a.1.natAbs:Nat):Int)=a.1:=Int.natAbs_of_nonneg a0
   rw [ea1]
   refine of_go (a:=a.1) hP (hN.mono λo e=>sm _ _ e) rfl (λZ z=>⟨_,rfl,z⟩) (λZ z=>⟨_,rfl,z⟩) λr H3 s3 A3=>?_
   have e2:(if P=0 then (a.1,(1:Int)) else (a.1 % P,1))=a:=by
    rcases oa with ⟨h0,hd,hg⟩ | ⟨h0,x0,x1,x2⟩
    ·rw [if_pos h0]
     exact Prod.ext rfl (Decidable.byContradiction λz=>hc ⟨h0,λw=>z w.symm⟩)
    ·rw [if_neg h0,Int.emod_eq_of_lt x0 x1]
     exact Prod.ext rfl x2.symm
   rw [e2] at A3
   exact q _ _ (sm.trans s3) A3
section
open PySem.StrLaws PySem.Builtin.Str
theorem ja (x:Str) (l u:Option Int) {a b:Nat} (hab:a<=b) (hb:b<=x.length) (h:strSliceIndices l u 1 x.length=(List.range (b-a)).map (λk=>a+k)):Txt.slice x l u=tx ((x.cps.toList.drop a).take (b-a)):=by
 have hl:x.cps.toList.length=x.length:=by simp [Str.length]
 have e2:=sliced_plain x hab hb
 rw [strSliceIndices_plain hab hb] at e2
 unfold Txt.slice
 rw [h,e2]
 split
 ·rename_i hc
  rw [Bool.and_eq_true] at hc
  have hc:=hc.2
  rw [length_map,length_range] at hc
  have hc:b-a=x.length:=by simpa using hc
  have ea:a=0:=by omega
  subst ea
  refine mk_of_toList ?_
  rw [drop_zero,hc,<- hl,take_length]
 ·rfl
theorem iL {l:List Nat} {a:Nat} (h:a<=l.length):Txt.slice (tx l) (some (a:Int)) none=tx (l.drop a):=by
 have e:=ja (tx l) (some (a:Int)) none (a:=a) (b:=l.length) h (by rw [aF]; exact Nat.le_refl _) (by
  rw [<- strSliceIndices_plain h (Nat.le_refl _),aF]
  unfold strSliceIndices
  simp only [show ((1:Int) > 0)=True from by simp,if_true]
  have h2:¬ ((l.length:Int)<0):=by omega
  rw [if_neg h2]
  congr 1
  all_goals omega)
 rw [e,cO,take_of_length_le (by rw [List.length_drop]; exact Nat.le_refl _)]
theorem slice_to {l:List Nat} {b:Nat} (h:b<=l.length):Txt.slice (tx l) none (some (b:Int))=tx (l.take b):=by
 have e:=ja (tx l) none (some (b:Int)) (a:=0) (b:=b) (Nat.zero_le _) (by rw [aF]; exact h) (by
  rw [<- strSliceIndices_plain (Nat.zero_le _) h,aF]
  unfold strSliceIndices
  simp only [show ((1:Int) > 0)=True from by simp,if_true]
  congr 1
  all_goals omega)
 rw [e,cO,drop_zero,Nat.sub_zero]
theorem ji (l:List Nat) (c:Nat):Txt.slice (tx (l++[c])) none (some (-1))=tx l:=by
 have h:l.length<=(l++[c]).length:=by simp
 have e:=ja (tx (l++[c])) none (some (-1)) (a:=0) (b:=l.length) (Nat.zero_le _) (by rw [aF]; exact h) (by
  rw [<- strSliceIndices_plain (Nat.zero_le _) h,aF]
  unfold strSliceIndices
  simp only [show ((1:Int) > 0)=True from by simp,if_true]
  have h2:¬ ((l.length:Int)<0):=by omega
  rw [if_pos (show (-1:Int)<0 by decide),if_neg h2,length_append,length_singleton]
  congr 1
  all_goals omega)
 rw [e,cO,drop_zero,Nat.sub_zero,List.take_left]
theorem starts_one (l:List Nat) (c:Nat):Txt.startswith (tx l) (one c)=decide (l[0]? = some c):=by
 unfold Txt.startswith
 rw [Bool.eq_iff_iff,Bool.and_eq_true,decide_eq_true_eq,decide_eq_true_eq]
 exact subAt_one (tx l) c 0
end
theorem pick_all {xs ys:List V} {f:Nat->Nat} (h:∀ k,k<ys.length->xs[f k]? = ys[k]?):∀ m,m<=ys.length->((List.range m).map f).filterMap (xs[·]?)=ys.take m
 | 0,_=>rfl
 | m+1,hm=>by
  have ih:=pick_all h m (by omega)
  have hk:=h m (by omega)
  rw [range_succ,map_append,List.filterMap_append,ih,take_add_one,<- hk]
  congr 1
theorem step_of {xs ys:List V} {lo:Nat} (h1:∀ k,k<ys.length->xs[lo+2*k]? = ys[k]?) (h2:xs.length=lo+2*ys.length\/xs.length+1=lo+2*ys.length):iF xs (some (lo:Int)) none (some 2)=ys:=by
 have hp:=pick_all h1 ys.length (Nat.le_refl _)
 rw [take_length] at hp
 rw [<- hp]
 unfold iF
 congr 1
 unfold sliceBounds sliceRange
 simp only [Option.getD_some,show ((2:Int) > 0)=True from by simp,if_true]
 have h3:¬ ((lo:Int)<0):=by omega
 rw [if_neg h3]
 have hc:(if max 0 (min (lo:Int) (xs.length:Int))<(xs.length:Int) then ((xs.length:Int)-max 0 (min (lo:Int) (xs.length:Int))+2-1) / 2 else 0).toNat=ys.length:=by
  split<;>omega
 rw [hc]
 refine List.map_congr_left λk hk=>?_
 have:=List.mem_range.mp hk
 omega
theorem fnd_at {P:Int}:∀ (r:List az) (k:Nat),(fnd P r)[2*k]? = (r[k]?).map (λp=>sgn P p.2)/\(fnd P r)[2*k+1]? = (r[k]?).map (prt P)
 | [],k=>⟨by simp [fnd],by simp [fnd]⟩
 | p::r,0=>⟨rfl,rfl⟩
 | p::r,k+1=>by
  have ih:=fnd_at (P:=P) r k
  have e:fnd P (p::r)=sgn P p.2::prt P p::fnd P r:=rfl
  rw [e,show 2*(k+1)=2*k+1+1 by omega]
  exact ih
def okc (c:Nat):Prop:=(47<=c/\c<=57)\/c=94\/(119<=c/\c<=122)
theorem shN_c {P:Int} {a:Int × Int}:∀ c ∈ shN P a,okc c/\c<=57:=λc hc=>by
 unfold shN at hc
 split at hc
 ·rcases List.mem_append.mp hc with z | z
  ·have:=bS z
   exact ⟨.inl ⟨by omega,by omega⟩,by omega⟩
  ·rcases List.mem_cons.mp z with z | z
   ·rw [z]
    exact ⟨.inl ⟨by decide,by decide⟩,by decide⟩
   ·have:=bS z
    exact ⟨.inl ⟨by omega,by omega⟩,by omega⟩
 ·have:=bS hc
  exact ⟨.inl ⟨by omega,by omega⟩,by omega⟩
theorem iG {j:Nat} (h:j<4):119<=bx j/\bx j<=122:=by
 have:∀ j,j<4->119<=bx j/\bx j<=122:=by decide
 exact this j h
theorem shW_c {j:Nat} {e:Int} (h:j<4):∀ c ∈ shW j e,okc c:=λc hc=>by
 unfold shW at hc
 rcases List.mem_cons.mp hc with z | z
 ·rw [z]
  exact .inr (.inr (iG h))
 ·split at z
  ·exact nomatch z
  ·rcases List.mem_cons.mp z with z | z
   ·exact .inr (.inl z)
   ·have:=bS z
    exact .inl ⟨by omega,by omega⟩
theorem fac_c {P:Int} {k:List Int} {a:Int × Int} (k4:k.length<=4):∀ w ∈ fac P k a,∀ c ∈ w,okc c:=by
 have hw:∀ w ∈ wds 0 k,∀ c ∈ w,okc c:=λw hw=>by
  obtain ⟨j,e,_,h2,_,_,rfl⟩:=ce (B:=0) hw
  exact shW_c (by omega)
 have hN:∀ c ∈ shN P a,okc c:=λc hc=>(shN_c c hc).1
 unfold fac
 split
 ·intro w hw'
  rw [List.mem_singleton.mp hw']
  exact hN
 ·split
  ·exact hw
  ·intro w hw'
   rcases List.mem_cons.mp hw' with z | z
   ·rw [z]
    exact hN
   ·exact hw w z
theorem kJ {d:Nat}:∀ {ws:List (List Nat)} {c:Nat},c ∈ aL d ws->c=d\/∃ w ∈ ws,c ∈ w
 | [w],c,h=>.inr ⟨w,by simp,h⟩
 | w::v::ws,c,h=>by
  have h:c ∈ w++d::aL d (v::ws):=h
  rcases List.mem_append.mp h with z | z
  ·exact .inr ⟨w,by simp,z⟩
  ·rcases List.mem_cons.mp z with z | z
   ·exact .inl z
   ·rcases kJ z with z | ⟨u,hu,z⟩
    ·exact .inl z
    ·exact .inr ⟨u,mem_cons_of_mem _ hu,z⟩
theorem prt_c {P:Int} {p:az} (k4:p.1.length<=4):∀ c ∈ prt P p,c=42\/okc c:=λc hc=>by
 rcases kJ hc with z | ⟨w,hw,z⟩
 ·exact .inl z
 ·exact .inr (fac_c k4 w hw c z)
theorem fac_ne {P:Int} {k:List Int} {a:Int × Int} (k0:∀ e ∈ k,0<=e):fac P k a ≠ []:=by
 unfold fac
 split
 ·simp
 ·split
  ·exact fK k0 ‹_›
  ·simp
theorem tx_all {l:List Nat} (h:∀ c ∈ l,c<128):(tx l).cps.all (· < 128)=true:=by
 rw [Array.all_eq_true']
 intro y hy
 exact decide_eq_true (h y (by have:=Array.mem_toList_iff.mpr hy; rwa [cO] at this))
theorem map_tx {l:List Str} {m:List (List Nat)} (h:l.map (·.cps.toList)=m):l=m.map tx:=by
 subst h
 rw [map_map]
 conv=>lhs; rw [<- List.map_id l]
 rfl
theorem fac_split {P:Int} {k:List Int} {a:Int × Int} (k4:k.length<=4) (k0:∀ e ∈ k,0<=e):Txt.split (tx (aL 42 (fac P k a))) (Str.ofString "*")=(fac P k a).map tx:=by
 refine map_tx ?_
 have hc:∀ c ∈ aL 42 (fac P k a),c<128:=λc hc=>by
  rcases kJ hc with z | ⟨w,hw,z⟩
  ·omega
  ·have:=fac_c k4 w hw c z
   unfold okc at this
   omega
 have e:=jy (tx (aL 42 (fac P k a))) 42 (tx_all hc) (by decide)
 rw [cO,iz 42 _ (fac_ne k0) λw hw z=>by have:=fac_c k4 w hw 42 z; unfold okc at this; omega] at e
 exact e
def hd0 (P:Int) (p:az):List Nat:=(if P=0/\p.2.1<0 then [45] else [])++prt P p
theorem jf (P:Int) (p:az) (r:List az):shS P (p::r)=aL 32 (hd0 P p::fnd P r):=by
 have e:shS P (p::r)=(if P=0/\p.2.1<0 then [45] else [])++aL 32 (prt P p::fnd P r):=rfl
 rw [e]
 unfold hd0
 cases hf:fnd P r with
 | nil=>rfl
 | cons u t=>
  show _++(prt P p++32::aL 32 (u::t))=(_++prt P p)++32::aL 32 (u::t)
  rw [append_assoc]
theorem fnd_c {P:Int} {r:List az} (h:∀ p ∈ r,p.1.length<=4):∀ w ∈ fnd P r,∀ c ∈ w,c=43\/c=45\/c=42\/okc c:=λw hw c hc=>by
 obtain ⟨p,hp,hw⟩:=List.mem_flatMap.mp hw
 rcases List.mem_cons.mp hw with z | z
 ·rw [z] at hc
  unfold sgn at hc
  split at hc
  ·exact .inr (.inl (List.mem_singleton.mp hc))
  ·exact .inl (List.mem_singleton.mp hc)
 ·rw [List.mem_singleton.mp z] at hc
  exact .inr (.inr (prt_c (h p hp) c hc))
theorem hd0_c {P:Int} {p:az} (h:p.1.length<=4):∀ c ∈ hd0 P p,c=45\/c=42\/okc c:=λc hc=>by
 rcases List.mem_append.mp hc with z | z
 ·split at z
  ·exact .inl (List.mem_singleton.mp z)
  ·exact nomatch z
 ·exact .inr (prt_c h c z)
theorem shS_c {P:Int} {p:az} {r:List az} (h:∀ q ∈ p::r,q.1.length<=4):∀ w ∈ hd0 P p::fnd P r,∀ c ∈ w,c=43\/c=45\/c=42\/okc c:=λw hw c hc=>by
 rcases List.mem_cons.mp hw with z | z
 ·rw [z] at hc
  exact .inr (hd0_c (h p (by simp)) c hc)
 ·exact fnd_c (λq hq=>h q (by simp [hq])) w z c hc
theorem shS_split {P:Int} {p:az} {r:List az} (h:∀ q ∈ p::r,q.1.length<=4):Txt.split (tx (shS P (p::r))) (Str.ofString " ")=(hd0 P p::fnd P r).map tx:=by
 refine map_tx ?_
 rw [jf]
 have hc:∀ c ∈ aL 32 (hd0 P p::fnd P r),c<128:=λc hc=>by
  rcases kJ hc with z | ⟨w,hw,z⟩
  ·omega
  ·have:=shS_c h w hw c z
   unfold okc at this
   omega
 have e:=jy (tx (aL 32 (hd0 P p::fnd P r))) 32 (tx_all hc) (by decide)
 rw [cO,iz 32 _ (by simp) λw hw z=>by have:=shS_c h w hw 32 z; unfold okc at this; omega] at e
 exact e
theorem figs_inj {m n:Nat} (hm:(aD m).length<=640) (h:aD m=aD n):m=n:=by
 have h1:=gK hm
 rw [h,gK (by rw [<- h]; exact hm)] at h1
 injection h1 with h1
 omega
theorem fV (d:Nat):∀ {w:List Nat} {ws:List (List Nat)},w ≠ []->(aL d (w::ws))[0]? = w[0]?
 | [],_,h=>absurd rfl h
 | c::w,[],_=>rfl
 | c::w,v::ws,_=>rfl
theorem shN_hd {P:Int} {a:Int × Int}:∃ c r,shN P a=c::r/\48<=c/\c<=57:=by
 cases hf:aD a.1.natAbs with
 | nil=>exact absurd hf (kA _)
 | cons c r=>
  have hc:=bS (n:=a.1.natAbs) (c:=c) (by rw [hf]; simp)
  unfold shN
  rw [hf]
  split
  ·exact ⟨c,_,rfl,hc⟩
  ·exact ⟨c,r,rfl,hc⟩
theorem shS_not0 {P:Int} {p:az} {r:List az} (op:OkN P p.2) (zp:Sz 110 p.2) (k4:p.1.length<=4) (k0:∀ e ∈ p.1,0<=e) (hz:nz p=true):shS P (p::r) ≠ [48]:=by
 intro h
 rw [jf] at h
 have hlen:(hd0 P p::fnd P r).length=1\/3<=(hd0 P p::fnd P r).length:=by
  cases r with
  | nil=>exact .inl rfl
  | cons q t=>exact .inr (by show 3<=(sgn P q.2::prt P q::fnd P t).length+1; simp)
 cases r with
 | cons q t=>
  have e:aL 32 (hd0 P p::fnd P (q::t))=hd0 P p++32::aL 32 (fnd P (q::t)):=rfl
  rw [e] at h
  have:(32:Nat) ∈ ([48]:List Nat):=by rw [<- h]; simp
  simp at this
 | nil=>
  have h:hd0 P p=[48]:=h
  unfold hd0 at h
  split at h
  ·have:(45:Nat) ∈ ([48]:List Nat):=by rw [<- h]; simp
   simp at this
  ·rename_i hc
   rw [nil_append] at h
   have ea:bA P p.2=p.2:=by unfold bA; rw [if_neg hc]
   unfold prt at h
   rw [ea] at h
   unfold fac at h
   split at h
   ·have h:shN P p.2=[48]:=h
    have e48:aD 0=[48]:=by decide +kernel
    have hf:aD p.2.1.natAbs=[48]/\(P=0->p.2.2=1):=by
     unfold shN at h
     split at h
     ·have:(47:Nat) ∈ ([48]:List Nat):=by rw [<- h]; simp
      simp at this
     ·rename_i h2
      exact ⟨h,λz=>Decidable.byContradiction λw=>h2 ⟨z,w⟩⟩
    have l1:(aD p.2.1.natAbs).length<=640:=by rw [hf.1]; decide
    have n0:=figs_inj l1 (hf.1.trans e48.symm)
    have e1:p.2.1=0:=by omega
    have e2:p.2.2=1:=by
     rcases op with ⟨h0,_⟩ | ⟨_,_,_,h1⟩
     ·exact hf.2 h0
     ·exact h1
    have hz:¬ p.2=(0,1):=by unfold nz at hz; exact of_decide_eq_true hz
    exact hz (Prod.ext e1 e2)
   ·rename_i hs
    split at h
    ·cases hw:wds 0 p.1 with
     | nil=>exact absurd hw (fK k0 hs)
     | cons w ws=>
      obtain ⟨j,e,_,h2,_,_,rfl⟩:=ce (B:=0) (w:=w) (k:=0) (r:=p.1) (by rw [hw]; simp)
      have g:=fV 42 (w:=shW j e) (ws:=ws) (by unfold shW; simp)
      rw [hw] at h
      rw [h] at g
      have g:(48:Nat)=bx j:=by
       have g:some (48:Nat)=some (bx j):=g
       injection g
      have:=iG (j:=j) (by omega)
      omega
    ·have g:=gz 42 (shN P p.2) (fK k0 hs (j:=0))
     rw [g] at h
     have:(42:Nat) ∈ ([48]:List Nat):=by rw [<- h]; simp
     simp at this
def prs:Nat->List Int->List (Nat × Int)
 | _,[]=>[]
 | k,e::r=>if 0<e then (k,e)::prs (k+1) r else prs (k+1) r
theorem dJ:∀ (k:Nat) (r:List Int),wds k r=(prs k r).map λx=>shW x.1 x.2
 | _,[]=>rfl
 | k,e::r=>by
  unfold wds prs
  split
  ·rw [map_cons,dJ (k+1) r]
  ·exact dJ (k+1) r
theorem kl:∀ {k:Nat} {r:List Int} {x:Nat × Int},x ∈ prs k r->k<=x.1/\x.1<k+r.length/\x.2 ∈ r/\0<x.2
 | k,e::r,x,h=>by
  unfold prs at h
  split at h
  ·rcases List.mem_cons.mp h with z | z
   ·rw [z]
    exact ⟨Nat.le_refl _,by simp,by simp,‹_›⟩
   ·obtain ⟨h1,h2,h3,h4⟩:=kl z
    exact ⟨by omega,by simp only [length_cons]; omega,by simp [h3],h4⟩
  ·obtain ⟨h1,h2,h3,h4⟩:=kl h
   exact ⟨by omega,by simp only [length_cons]; omega,by simp [h3],h4⟩
def gD (v:List Int) (x:Nat × Int):List Int:=v.set x.1 (v.getD x.1 0+x.2)
theorem put_len (l:List (Nat × Int)):∀ v:List Int,(l.foldl gD v).length=v.length:=by
 induction l with
 | nil=>intro v; rfl
 | cons x l ih=>intro v; rw [List.foldl_cons,ih]; unfold gD; rw [List.length_set]
theorem prs_put:∀ (r pre:List Int),(∀ e ∈ r,0<=e)->(prs pre.length r).foldl gD (pre++List.replicate r.length 0)=pre++r
 | [],pre,_=>by simp [prs]
 | e::r,pre,h=>by
  have ih:=prs_put r (pre++[e]) λx hx=>h x (by simp [hx])
  rw [length_append,length_singleton,append_assoc] at ih
  unfold prs
  split
  ·rw [List.foldl_cons]
   have e1:gD (pre++List.replicate (e::r).length 0) (pre.length,e)=pre++([e]++List.replicate r.length 0):=by
    unfold gD
    rw [length_cons,List.replicate_succ]
    simp [List.set_append]
   rw [e1,ih,append_assoc]
   rfl
  ·have e0:e=0:=by have:=h e (by simp); omega
   subst e0
   have e1:pre++List.replicate ((0:Int)::r).length 0=pre++([0]++List.replicate r.length 0):=by
    rw [length_cons,List.replicate_succ]
    rfl
   rw [e1,ih,append_assoc]
   rfl
theorem prs_all {k:List Int} (h:∀ e ∈ k,0<=e):(prs 0 k).foldl gD (List.replicate k.length 0)=k:=prs_put k [] h
theorem iA:∀ (j:Nat) (k:List Int),(∀ e ∈ k,0<=e)->k.sum=0->prs j k=[]
 | _,[],_,_=>rfl
 | j,e::r,h,hs=>by
  have h0:=h e (by simp)
  have hr:0<=r.sum:=by
   have:∀ l:List Int,(∀ e ∈ l,0<=e)->0<=l.sum:=λl=>by
    induction l with
    | nil=>intro _; exact Int.le_refl _
    | cons a l ih=>
     intro hl
     rw [sum_cons]
     have:=hl a (by simp)
     have:=ih λe he=>hl e (by simp [he])
     omega
   exact this r λx hx=>h x (by simp [hx])
  rw [sum_cons] at hs
  unfold prs
  rw [if_neg (by omega)]
  exact iA (j+1) r (λx hx=>h x (by simp [hx])) (by omega)
theorem ff {lo:Int} {n:Nat} {src:List (Option Nat)} {te:TE} {Q:VK} {σ rest:L2.St} {H0:Hp} (hσ:du src σ=none::rest) (f:Nat->V) (hn:n<=60)
  (turn:∀ i H (R:VK),i<n->kW H0 H->(∀ H2,kW H H2->R (f i) H2)->te (some (.int (lo+i))::rest) H R)
  (hd:∀ acc H,H0 acc=none->kW H0 H->H acc=some (.lst ((List.range n).map f))->Q (.ref acc) H) :
  dG (Itr lo n) src (dm 0) tYes te σ H0 Q:=by
 refine eY (n:=n) (σ0:=none::rest) hσ (λacc i zs σ H=>(∃ u,σ=u::rest)/\kW H0 H/\zs=(List.range i).map f) (by rw [sizeLine_eq]; omega) (λacc hacc=>⟨⟨none,rfl⟩,kW.new hacc,rfl⟩) ?_ ?_ ?_ ?_
 ·rintro acc i zs σ H hacc hi hz _
  exact hi
 ·rintro acc zs σ H hacc hz _
  exact Nat.le_refl _
 ·rintro acc i zs σ H x H' hacc hi hz hzl ⟨⟨u,rfl⟩,sm,rfl⟩ ⟨rfl,rfl⟩
  refine turn i _ _ hi sm λH2 s2=>?_
  refine ⟨_,s2 _ _ hz,by rw [length_map,length_range,sizeLine_eq]; omega,_,af,by rw [length_append,length_map,length_range]; exact Nat.le_refl _,⟨_,rfl⟩,(sm.trans s2).put hacc,?_⟩
  rw [range_succ,map_append]
  rfl
 ·rintro acc zs σ H hacc hz hzl ⟨_,sm,rfl⟩
  exact hd acc H hacc sm hz
theorem nd_5:(["letter"]:List Str).Nodup:=by decide +kernel
def spRP (CF CR CG:Addr):Sp:=λvs H Q _=>∃ (g x:Addr) (P L:Int) (k:List Int) (a:Int × Int),vs=[.ref g,.str (tx (aL 42 (fac P k a)))]/\ll P/\dU CG H g x L/\lJ CF CR H x P/\(k.length:Int)=L/\L<=4/\(∀ e ∈ k,0<=e/\e<=1000)/\OkN P a/\0<=a.1/\Sz 110 a/\∀ v H',kW H H'->PartR P H' v (k,a)->Q v H'
theorem ints_rep (n:Nat):List.replicate n (V.int 0)=(List.replicate n (0:Int)).map V.int:=by rw [List.map_replicate]
theorem fac_len {P:Int} {k:List Int} {a:Int × Int} (k4:k.length<=4) (k0:∀ e ∈ k,0<=e/\e<=1000) (sz:Sz 110 a):(fac P k a).length<=5/\(∀ w ∈ fac P k a,w.length<=90)/\(aL 42 (fac P k a)).length<=460:=by
 have lk:=cw 0 k
 have g:(fac P k a).length<=5/\∀ w ∈ fac P k a,w.length<=90:=by
  have w90:∀ w ∈ wds 0 k,w.length<=90:=λw hw=>Nat.le_trans (iK k0 w hw) (by decide)
  unfold fac
  split
  ·exact ⟨by simp,λw hw=>by rw [List.mem_singleton.mp hw]; exact gZ sz⟩
  ·split
   ·exact ⟨by omega,w90⟩
   ·refine ⟨by rw [length_cons]; omega,λw hw=>?_⟩
    rcases List.mem_cons.mp hw with z | z
    ·rw [z]
     exact gZ sz
    ·exact w90 w z
 refine ⟨g.1,g.2,?_⟩
 have:=cA 42 _ g.2
 have h2:(fac P k a).length*(90+1)<=5*91:=Nat.mul_le_mul g.1 (Nat.le_refl _)
 omega
theorem fac_two {P:Int} {k:List Int} {a:Int × Int} (kn:∀ e ∈ k,0<=e) (k4:k.length<=4):fac P k a=shN P a::wds 0 k\/(a=(1,1)/\fac P k a=wds 0 k/\∃ (j:Nat) (e:Int) (ws:List (List Nat)),j<4/\wds 0 k=shW j e::ws):=by
 unfold fac
 split
 ·rename_i h
  have hw:wds 0 k=[]:=by rw [dJ,iA 0 k kn h]; rfl
  rw [hw]
  exact .inl rfl
 ·rename_i h
  split
  ·rename_i h1
   refine .inr ⟨h1,rfl,?_⟩
   cases hw:wds 0 k with
   | nil=>exact absurd hw (fK kn h)
   | cons w ws=>
    obtain ⟨j,e,_,h2,_,_,rfl⟩:=ce (B:=0) (w:=w) (k:=0) (r:=k) (by rw [hw]; simp)
    exact ⟨j,e,ws,by omega,rfl⟩
  ·exact .inl rfl
theorem lD:kX ["ring", "text", "factors", "number", "oftens", "factor", "power", "letter"] ["ring", "text"] (aj dL):=.i
set_option maxHeartbeats 1000000 in
theorem ok_rpart {f CF CR CG mS:Addr} {fd:FuncData} (F:Fun K "rough_part" "rough_part" dL f fd) (T:Blt mg) (oj:MtB P w K mg base 1 CG "numbers" (gL CG)) (ut:MtB P w K mg base 1 CG "letters" (kE CG)) (nJ:dC P w K mg base 2 CF "of" [.int 1] (ci mS)) (nN:dC P w K mg base 2 CR "of" [.int 1] (cY CR mS)) (nZ:FnB P w K mg base 1 "is_figures" spFigs) (m7:FnB P w K mg base 2 "rough_figures" spRF) (pX:FnB P w K mg base 3 "rough_number" (spRN CF CR)) (pD:FnB P w K mg base 2 "letter_number" (spLetN CG)):kZ P w K mg base CX0 4 f fd ["ring", "text"] (spRP CF CR CG):=by
 refine F.o lD λ_ _ _ _ H _ Q _ hr h=>?_
 ·obtain ⟨g,x,P,L,k,a,rfl,hP,hg,hN,hk,hL,k0,oa,a0,sz,q⟩:=h
  have hB:=hP.b
  obtain ⟨dx,hg'⟩:=id hg
  have k4:k.length<=4:=by omega
  have kn:∀ e ∈ k,0<=e:=λe he=>(k0 e he).1
  obtain ⟨fl,fw,gl⟩:=fac_len (P:=P) k4 k0 sz
  refine ⟨_,(ae (ak (i:=2) lD.nd rfl (Or.inl rfl) (fY PySem.F.plainAttrs_str PySem.F.slot_str_split PySem.F.type_str_split mt_split (pv 1) (aa aE ag)))
(ae (ak (i:=3) lD.nd rfl (Or.inl rfl) (cK (bT nJ hr.m bN (bu oj hr.m (pv 0)) (aa ac ag)) (bT nN hr.m bN (bu oj hr.m (pv 0)) (aa ac ag))))
(ae (aG (bd (aB nZ hr.m (aa (dn kM (aA (aK K rfl) (pv 2) ac (λ_ _=>rfl)) e9 (bZ ac)) ag)))
(ae (ak (i:=3) lD.nd rfl (Or.inl rfl) (aB pX hr.m (aa (by exact (bu oj hr.m (pv 0))) (aa (aA (aK K rfl) (pv 2) ac (λ_ _=>rfl)) ag))))
(ah (ak (i:=2) lD.nd rfl (Or.inl rfl) (dn (ksl_list K rfl) (pv 2) (bZ ac) e9))))
aw)
(ae (kc (i:=4) lD.nd rfl (Or.inl rfl) (N:=["letter"]) (src:=[none]) rfl rfl rfl (by exact (bh rfl T.range (aa (by exact (bu ut hr.m (pv 0))) ag))) (λ_ _ _=>by exact ⟨by exact (cR (i:=0) nd_5 rfl rfl),cN,by exact ac⟩))
(ae (bI PassesOwn.never rfl (bH K rfl (pv 2)) (bY (i:=5) lD.nd rfl (Or.inl rfl))
(ae (ak (i:=6) lD.nd rfl (Or.inl rfl) (fY PySem.F.plainAttrs_str PySem.F.slot_str_partition PySem.F.type_str_partition mt_part (pv 5) (aa aE ag)))
(ae (ak (i:=7) lD.nd rfl (Or.inl rfl) (aB pD hr.m (aa (pv 0) (aa (aA (ar K rfl) (pv 6) ac (λ_ _=>rfl)) ag))))
(ah (kg (am bi (aA (aK K rfl) (pv 4) (pv 7) (λ_ _=>rfl)) (bw (aq a9 (aA (ar K rfl) (pv 6) ac (λ_ _=>rfl)) aE (ao _)) ac (aB m7 hr.m (aa (aA (ar K rfl) (pv 6) ac (λ_ _=>rfl)) ag)))) (ku (pv 4) (pv 7) f9))))))
(ah (al (bE (aa (by exact (dB K T (pv 4))) (aa (pv 3) ag)))))))))),?_⟩
  refine ⟨_,rfl,rfl,_,_,rfl,rfl,rfl,by rw [aF,sizeLine_eq]; omega,λl nl=>?_⟩
  rw [fac_split k4 kn]
  have s1:=kW.new (o:=.lst (((fac P k a).map tx).map V.str)) nl
  have hl1:(upd H l (.lst (((fac P k a).map tx).map V.str))) l=some (.lst (((fac P k a).map tx).map V.str)):=af
  generalize upd H l (.lst (((fac P k a).map tx).map V.str))=H1 at *
  refine of_go (a:=1) hP (hN.mono λo e=>s1 _ _ e) rfl (λZ z=>⟨_,rfl,g,dx,_,rfl,s1 _ _ hg',rfl,g,x,L,rfl,⟨dx,s1 _ _ hg'⟩,z⟩) (λZ z=>z) λr H2 s2 A2=>?_
  have s12:=s1.trans s2
  have e1:(if P=0 then ((1:Int),(1:Int)) else (1 % P,1))=(1,1):=by
   split
   ·rfl
   ·rw [Int.emod_eq_of_lt (by decide) (by omega)]
  rw [e1] at A2
  dsimp only
  refine eZ (t:=tIfS _ _ _) (λσ' H'=>∃ (u:V) (l':Addr),σ'=[some (.ref g),some (.str (tx (aL 42 (fac P k a)))),some (.ref l'),some u,none,none,none,none]/\kW H H'/\At P H' u a/\H' l'=some (.lst (((wds 0 k).map tx).map V.str))) (λR hR=>?_) ?_
  ·have hl2:=s2 _ _ hl1
   have hg2:=s12 _ _ hg'
   rcases fac_two (P:=P) (a:=a) kn k4 with hf | ⟨ha,hf,j,e,ws,hj,hw⟩
   ·rw [hf] at hl2
    obtain ⟨c,r0,ec,c0,c1⟩:=shN_hd (P:=P) (a:=a)
    have es:Txt.slice (tx (shN P a)) none (some 1)=tx [c]:=by
     rw [ec]
     exact slice_to (b:=1) (l:=c::r0) (by simp)
    have eg:(!([c]:List Nat).isEmpty && [c].all cT)=true:=by
     show (true && (cT c && true))=true
     unfold cT
     rw [decide_eq_true c0,decide_eq_true c1]
     rfl
    refine ⟨_,rfl,l,_,_,_,rfl,rfl,SqL.of hl2,ay (j:=0) rfl,_,rfl,_,rfl,by rw [aF,sizeLine_eq]; have:=gZ (P:=P) sz; omega,[c],by rw [es]; rfl,λd hd=>by rw [List.mem_singleton.mp hd]; omega,by simp,λH3 s3=>?_⟩
    rw [eg]
    refine ⟨true,rfl,bG ?_⟩
    refine ⟨_,rfl,g,dx,_,rfl,s3 _ _ hg2,rfl,g,x,L,rfl,⟨dx,s3 _ _ hg2⟩,_,rfl,l,_,_,_,rfl,rfl,SqL.of (s3 _ _ hl2),ay (j:=0) rfl,x,P,a,rfl,hP,hN.mono λo e=>s3 _ _ (s12 _ _ e),oa,a0,sz,λr4 H4 s4 A4=>?_⟩
    refine ⟨_,rfl,_,rfl,l,_,rfl,SqL.of (s4 _ _ (s3 _ _ hl2)),λsl nsl=>?_⟩
    have s5:=kW.new (o:=.lst (((wds 0 k).map tx).map V.str)) nsl
    rw [map_cons,map_cons,cut_tail]
    exact hR _ _ ⟨_,_,rfl,s12.trans (s3.trans (s4.trans s5)),A4.same s5,af⟩
   ·subst ha
    rw [hf,hw] at hl2
    have es:Txt.slice (tx (shW j e)) none (some 1)=tx [bx j]:=slice_to (b:=1) (l:=shW j e) (by unfold shW; simp)
    have lc:=iG hj
    have eg:(!([bx j]:List Nat).isEmpty && [bx j].all cT)=false:=by
     show (true && (cT (bx j) && true))=false
     unfold cT
     rw [decide_eq_false (show ¬ bx j<=57 by omega)]
     simp
    refine ⟨_,rfl,l,_,_,_,rfl,rfl,SqL.of hl2,ay (j:=0) rfl,_,rfl,_,rfl,?_,[bx j],by rw [es]; rfl,λd hd=>by rw [List.mem_singleton.mp hd]; omega,by simp,λH3 s3=>?_⟩
    ·have:=iK k0 (shW j e) (by rw [hw]; simp)
     rw [aF,sizeLine_eq]
     omega
    rw [eg]
    refine ⟨false,rfl,be ?_⟩
    exact hR _ _ ⟨_,_,rfl,s12.trans s3,A2.same s3,by rw [s3 _ _ hl2,hw]⟩
  ·rintro σ' H3 ⟨u,l',rfl,s3,hu,hl'⟩
   refine ⟨_,rfl,g,dx,_,rfl,s3 _ _ hg',rfl,g,x,L,rfl,⟨dx,s3 _ _ hg'⟩,L,rfl,by omega,by omega,?_⟩
   refine ff (rest:=[]) rfl (λ_=>.int 0) (by omega) (λi H4 R hi s4 hR=>hR H4 (kW.refl _)) λd H4 nd s4 hd=>?_
   have e0:(List.range L.toNat).map (λ_=>V.int 0)=(List.replicate k.length (0:Int)).map V.int:=by
    rw [<- ints_rep,List.map_const',length_range,<- hk,Int.toNat_natCast]
   rw [e0] at hd
   have lw:(((wds 0 k).map tx).map V.str).length=(prs 0 k).length:=by rw [length_map,length_map,dJ,length_map]
   refine ⟨_,rfl,l',rfl,⟨_,SqL.of (s4 _ _ hl')⟩,gQ (xs:=((wds 0 k).map tx).map V.str) (λi σ H'=>∃ x5 x6 x7:Option V,σ=[some (.ref g),some (.str (tx (aL 42 (fac P k a)))),some (.ref l'),some u,some (.ref d),x5,x6,x7]/\kW H3 H'/\H' d=some (.lst ((((prs 0 k).take i).foldl gD (List.replicate k.length 0)).map V.int))) ⟨none,none,none,rfl,s4,hd⟩ ?_ ?_ ?_⟩
   ·rintro i σ H' _ ⟨x5,x6,x7,rfl,sm,_⟩
    exact SqL.of (sm _ _ hl')
   ·rintro i v σ H5 hv ⟨x5,x6,x7,rfl,sm,hd5⟩ N0 C0 hN0
    rw [dJ,getElem?_map,getElem?_map,getElem?_map] at hv
    cases ep:(prs 0 k)[i]? with
    | none=>rw [ep] at hv; exact nomatch hv
    | some je=>
     obtain ⟨j,e⟩:=je
     rw [ep] at hv
     have hv:V.str (tx (shW j e))=v:=by injection hv
     subst hv
     obtain ⟨_,hj,he,he0⟩:=kl (mem_of_getElem? ep)
     have hj:j<k.length:=by have:=hj; omega
     have he1:=(k0 e he).2
     have lfold:∀ ys:List (Nat × Int),(ys.foldl gD (List.replicate k.length 0)).length=k.length:=λys=>by rw [put_len,length_replicate]
     have step:((prs 0 k).take (i+1)).foldl gD (List.replicate k.length 0)=gD (((prs 0 k).take i).foldl gD (List.replicate k.length 0)) (j,e):=by
      rw [take_add_one,ep,List.foldl_append]
      rfl
     have lb:=lfold ((prs 0 k).take i)
     generalize ((prs 0 k).take i).foldl gD (List.replicate k.length 0)=cur at *
     have hat:(cur.map V.int)[j]? = some (.int (cur.getD j 0)):=by
      rw [getElem?_map,getD_eq_getElem?_getD,getElem?_eq_getElem (by omega)]
      rfl
     have hix:ixN (cur.map V.int).length (j:Int)=some j:=by
      unfold ixN
      rw [if_pos (by omega),if_pos (by rw [length_map]; omega),Int.toNat_natCast]
     have fin:∀ (y5 y6 y7:Option V) (H6:Hp),kW H5 H6->N0 [some (.ref g),some (.str (tx (aL 42 (fac P k a)))),some (.ref l'),some u,some (.ref d),y5,y6,y7] (upd H6 d (.lst ((cur.map V.int).set j (.int (cur.getD j 0+e))))):=λy5 y6 y7 H6 s6=>by
      refine hN0 _ _ ⟨y5,y6,y7,rfl,(sm.trans s6).put nd,?_⟩
      rw [af,step]
      unfold gD
      rw [List.map_set]
     have lW:=iK k0 (shW j e) (by rw [dJ]; exact List.mem_map.mpr ⟨(j,e),mem_of_getElem? ep,rfl⟩)
     refine ⟨_,rfl,rfl,_,_,rfl,rfl,rfl,by rw [aF,sizeLine_eq]; omega,λt nt=>?_⟩
     have hg5:=sm _ _ (s3 _ _ hg')
     have sd:=kW.new (o:=.lst []) nd
     by_cases e1:e=1
     ·have ew:shW j e=[bx j]:=by unfold shW; rw [if_pos e1]; rfl
      have lc:=iG (j:=j) (by omega)
      have ept:Txt.partition (tx (shW j e)) (Str.ofString "^")=(tx [bx j],Str.empty,Str.empty):=by
       rw [ew]
       exact jR (c:=94) (λz=>by have:=List.mem_singleton.mp z; omega)
      rw [ept]
      have s6:=kW.new (o:=.tup [.str (tx [bx j]),.str Str.empty,.str Str.empty]) nt
      have h6:(upd H5 t (.tup [.str (tx [bx j]),.str Str.empty,.str Str.empty])) t=some (.tup [.str (tx [bx j]),.str Str.empty,.str Str.empty]):=af
      dsimp only
      generalize upd H5 t (.tup [.str (tx [bx j]),.str Str.empty,.str Str.empty])=H6 at *
      refine ⟨_,rfl,_,rfl,t,_,_,_,rfl,rfl,SqT.of h6,ay (j:=0) rfl,g,x,L,j,rfl,⟨dx,s6 _ _ hg5⟩,by omega,hL,?_⟩
      refine ⟨_,rfl,_,rfl,d,_,_,_,rfl,rfl,SqL.of (s6 _ _ hd5),ay hat,_,rfl,t,_,_,_,rfl,rfl,SqT.of h6,ay (j:=1) rfl,rfl,_,rfl,?_⟩
      rw [decide_eq_true (show V.str Str.empty=V.str (Str.ofString "") from rfl)]
      refine bG ⟨_,_,rfl,rfl,_,rfl,_,rfl,d,_,_,j,rfl,rfl,s6 _ _ hd5,hix,?_⟩
      rw [<- e1]
      exact fin _ _ _ H6 s6
     ·have ew:shW j e=[bx j]++94::aD e.natAbs:=by unfold shW; rw [if_neg e1]; rfl
      have lc:=iG (j:=j) (by omega)
      have ept:Txt.partition (tx (shW j e)) (Str.ofString "^")=(tx [bx j],one 94,tx (aD e.natAbs)):=by
       exact jF (c:=94) ew (λz=>by have:=List.mem_singleton.mp z; omega)
      rw [ept]
      have s6:=kW.new (o:=.tup [.str (tx [bx j]),.str (one 94),.str (tx (aD e.natAbs))]) nt
      have h6:(upd H5 t (.tup [.str (tx [bx j]),.str (one 94),.str (tx (aD e.natAbs))])) t=some (.tup [.str (tx [bx j]),.str (one 94),.str (tx (aD e.natAbs))]):=af
      dsimp only
      generalize upd H5 t (.tup [.str (tx [bx j]),.str (one 94),.str (tx (aD e.natAbs))])=H6 at *
      have l1:(aD e.natAbs).length<=40:=bg (by decide) (Nat.lt_of_le_of_lt (show e.natAbs<=1000 by omega) (by decide +kernel))
      refine ⟨_,rfl,_,rfl,t,_,_,_,rfl,rfl,SqT.of h6,ay (j:=0) rfl,g,x,L,j,rfl,⟨dx,s6 _ _ hg5⟩,by omega,hL,?_⟩
      refine ⟨_,rfl,_,rfl,d,_,_,_,rfl,rfl,SqL.of (s6 _ _ hd5),ay hat,_,rfl,t,_,_,_,rfl,rfl,SqT.of h6,ay (j:=1) rfl,rfl,_,rfl,?_⟩
      rw [decide_eq_false (λz=>by injection z with z; exact absurd ((mf (a:=[94]) (b:=[])).mp z) (by decide))]
      refine be ⟨_,rfl,t,_,_,_,rfl,rfl,SqT.of h6,ay (j:=2) rfl,e.natAbs,rfl,by omega,λH7 s7=>?_⟩
      have ea:((e.natAbs:Nat):Int)=e:=Int.natAbs_of_nonneg (by omega)
      rw [ea]
      exact ⟨_,_,rfl,rfl,_,rfl,_,rfl,d,_,_,j,rfl,rfl,s7 _ _ (s6 _ _ hd5),hix,fin _ _ _ H7 (s6.trans s7)⟩
   ·rintro σ H5 ⟨x5,x6,x7,rfl,sm,hd5⟩
    rw [lw,take_length,prs_all kn] at hd5
    refine ⟨_,rfl,d,_,rfl,SqL.of hd5,λkk nk=>?_⟩
    have s6:=kW.new (o:=.tup (k.map V.int)) nk
    have h6:(upd H5 kk (.tup (k.map V.int))) kk=some (.tup (k.map V.int)):=af
    generalize upd H5 kk (.tup (k.map V.int))=H6 at *
    refine ⟨_,rfl,by show 2<=sizeLine; decide,λt nt=>?_⟩
    have s7:=kW.new (o:=.tup [.ref kk,u]) nt
    exact q _ _ (s3.trans (sm.trans (s6.trans s7))) ⟨t,kk,u,rfl,af,s7 _ _ h6,hu.same (sm.trans (s6.trans s7))⟩
theorem fJ:kX ["self", "one", "other"] ["self", "one", "other"] (aj aS):=.i
theorem ok_ftimes {f CF mS:Addr} {fd:FuncData} (F:Fun K "times" "Fractions.times" aS f fd) (rh:dC P w K mg base 2 CF "of" [] (ci mS)):kZ P w K mg base CX0 3 f fd ["self", "one", "other"] (jh CF λa b=>(a.1*b.1,a.2*b.2)):=by
 refine F.o fJ λ_ _ _ _ H _ Q _ hr h=>?_
 ·obtain ⟨x,dx,s,t,a,b,rfl,hx,hs,ht,ha,hb,sa,sb,q⟩:=h
  refine ⟨_,(ah (al (bT rh hr.m bN (pv 0) (aa (am cS (aA (ar K rfl) (pv 1) ac (λ_ _=>rfl)) (aA (ar K rfl) (pv 2) ac (λ_ _=>rfl))) (aa (am cS (aA (ar K rfl) (pv 1) ac (λ_ _=>rfl)) (aA (ar K rfl) (pv 2) ac (λ_ _=>rfl))) ag))))),?_⟩
  refine ⟨_,rfl,x,dx,[],rfl,hx,rfl,_,rfl,s,_,_,_,rfl,rfl,SqT.of hs,rfl,_,rfl,t,_,_,_,rfl,rfl,SqT.of ht,rfl,_,_,rfl,rfl,gS sa.1 sb.1,?_⟩
  refine ⟨_,rfl,s,_,_,_,rfl,rfl,SqT.of hs,rfl,_,rfl,t,_,_,_,rfl,rfl,SqT.of ht,rfl,_,_,rfl,rfl,gS sa.2 sb.2,_,_,_,rfl,λz=>absurd z (gc ha hb),λ_=>⟨mulSz2 sa.2 sb.2,q⟩⟩
theorem iH:kX ["self", "one", "other"] ["self", "one", "other"] (aj bt):=.i
theorem ok_rtimes {f CR:Addr} {fd:FuncData} (F:Fun K "times" "Rests.times" bt f fd) (cl:Cls K CR) (nM:lO K CR "modulus"):kZ P w K mg base CX0 1 f fd ["self", "one", "other"] (iQ CR (· * ·)):=by
 refine F.o iH λ_ _ _ _ H _ Q _ hr h=>?_
 ·obtain ⟨x,dx,p,a,b,rfl,hx,hp,hp9,a0,a1,b0,b1,q⟩:=h
  refine ⟨_,(ah (al (am bn (am bf (pv 1) (pv 2)) (eW (pv 0) rfl)))),?_⟩
  exact ⟨_,rfl,_,rfl,_,_,rfl,rfl,.inl ⟨by omega,by omega⟩,_,rfl,x,CR,dx,_,_,rfl,hx,cl,nM,rfl,_,_,rfl,rfl,hp,q⟩
def WrOk (P L:Int) (ps:List az):Prop:=Canon P L 110 ps/\L<=4/\ps.length<=60/\∀ p ∈ ps,∀ e ∈ p.1,e<=1000
theorem WrOk.mono {P L:Int} {ps:List az} (h:WrOk P L ps):∀ p ∈ ps,jg P p:=λp hp=>by
 obtain ⟨h1,h2,h3,h4,h5⟩:=h.1.2 p hp
 exact ⟨h1,h2,by have:=h.2.1; omega,λe he=>⟨h5 e he,h.2.2.2 p hp e he⟩⟩
def spRS (CF CR CG:Addr):Sp:=λvs H Q _=>∃ (g x:Addr) (P L:Int) (ps:List az),vs=[.ref g,.str (tx (shS P ps))]/\ll P/\dU CG H g x L/\lJ CF CR H x P/\WrOk P L ps/\∀ (d:Addr) (rs:List V) (H':Hp),H d=none->kW H H'->H' d=some (.lst rs)->lg P H' rs ps->Q (.ref d) H'
theorem shS_B {P:Int} {ps:List az} (hn:ps.length<=60) (h:∀ p ∈ ps,jg P p):(shS P ps).length<=60000:=by
 cases ps with
 | nil=>show 1<=60000; decide
 | cons p r=>
  obtain ⟨f1,f2⟩:=fnd_B (P:=P) (ps:=r) λq hq=>h q (by simp [hq])
  have wB:∀ w ∈ prt P p::fnd P r,w.length<=460:=λw hw=>by
   rcases List.mem_cons.mp hw with z | z
   ·rw [z]
    exact prt_B (h p (by simp))
   ·exact f2 w z
  have wl:(prt P p::fnd P r).length<=121:=by rw [length_cons,f1]; rw [length_cons] at hn; omega
  have lj:=cA 32 _ wB
  have lj2:(prt P p::fnd P r).length*(460+1)<=121*461:=Nat.mul_le_mul wl (Nat.le_refl _)
  have e:shS P (p::r)=(if P=0/\p.2.1<0 then [45] else [])++aL 32 (prt P p::fnd P r):=rfl
  rw [e,length_append]
  split
  ·show 1+_<=_
   omega
  ·show 0+_<=_
   omega
theorem g0 (P:Int) (w:List Nat) (r:List az):iF (((w::fnd P r).map tx).map V.str) (some 1) none (some 2)=r.map λp=>V.str (tx (sgn P p.2)):=by
 have lf:(fnd P r).length=2*r.length:=by
  induction r with
  | nil=>rfl
  | cons a r ih=>
   show (sgn P a.2::prt P a::fnd P r).length=_
   rw [length_cons,length_cons,ih,length_cons]
   omega
 refine step_of (lo:=1) (λk hk=>?_) (.inl ?_)
 ·rw [show 1+2*k=2*k+1 by omega,map_cons,map_cons,List.getElem?_cons_succ,getElem?_map,getElem?_map,(fnd_at r k).1,getElem?_map]
  cases r[k]?<;>rfl
 ·rw [length_map,length_map,length_cons,lf,length_map]
  omega
theorem gn (P:Int) (w:List Nat) (r:List az):iF (((w::fnd P r).map tx).map V.str) (some 2) none (some 2)=r.map λp=>V.str (tx (prt P p)):=by
 have lf:(fnd P r).length=2*r.length:=by
  induction r with
  | nil=>rfl
  | cons a r ih=>
   show (sgn P a.2::prt P a::fnd P r).length=_
   rw [length_cons,length_cons,ih,length_cons]
   omega
 refine step_of (lo:=2) (λk hk=>?_) (.inr ?_)
 ·rw [show 2+2*k=2*k+1+1 by omega,map_cons,map_cons,List.getElem?_cons_succ,getElem?_map,getElem?_map,(fnd_at r k).2,getElem?_map]
  cases r[k]?<;>rfl
 ·rw [length_map,length_map,length_cons,lf,length_map]
  omega
theorem hd0_starts {P:Int} {p:az} (k4:p.1.length<=4):Txt.startswith (tx (hd0 P p)) (Str.ofString "-")=decide (P=0/\p.2.1<0):=by
 have e:=starts_one (hd0 P p) 45
 refine e.trans (decide_eq_decide.mpr ⟨λh=>?_,λh=>?_⟩)
 ·refine Decidable.byContradiction λhn=>?_
  unfold hd0 at h
  rw [if_neg hn,nil_append] at h
  have:=prt_c k4 45 (mem_of_getElem? h)
  unfold okc at this
  omega
 ·unfold hd0
  rw [if_pos h]
  rfl
theorem mul_sign {P:Int} (hP:ll P) {a:Int × Int} (o:OkN P a):mulN P (bA P a) (if P=0 then ((if P=0/\a.1<0 then (-1:Int) else 1),1) else ((if P=0/\a.1<0 then (-1:Int) else 1) % P,1))=a:=by
 have hB:=hP.b
 unfold mulN bA
 by_cases h0:P=0
 ·rw [if_pos h0,if_pos h0]
  rcases o with ⟨_,hd,hg⟩ | ⟨z,_⟩
  ·have en:nrm a.1 a.2=a:=(dq a.1 a.2 hd).mpr hg
   by_cases hc:P=0/\a.1<0
   ·rw [if_pos hc,if_pos hc]
    show nrm (-a.1 * -1) (a.2*1)=a
    rw [Int.neg_mul_neg,Int.mul_one,Int.mul_one]
    exact en
   ·rw [if_neg hc,if_neg hc]
    show nrm (a.1*1) (a.2*1)=a
    rw [Int.mul_one,Int.mul_one]
    exact en
  ·exact absurd h0 z
 ·rw [if_neg h0,if_neg h0,if_neg λz=>h0 z.1,if_neg λz=>h0 z.1]
  rcases o with ⟨z,_⟩ | ⟨_,x0,x1,x2⟩
  ·exact absurd z h0
  ·show ((a.1*(1 % P)) % P,1)=a
   rw [Int.emod_eq_of_lt (a:=1) (by decide) (by omega),Int.mul_one,Int.emod_eq_of_lt x0 x1]
   exact Prod.ext rfl x2.symm
theorem lH:kX ["ring", "text", "words", "below", "signs", "bodies", "found", "sign", "body", "part", "factor"] ["ring", "text"] (aj eX):=.i
set_option maxHeartbeats 1000000 in
theorem ok_rsum {f CF CR CG mS:Addr} {fd:FuncData} (F:Fun K "rough_sum" "rough_sum" eX f fd) (T:Blt mg) (oj:MtB P w K mg base 1 CG "numbers" (gL CG)) (nJ:dC P w K mg base 2 CF "of" [.int 1] (ci mS)) (nN:dC P w K mg base 2 CR "of" [.int 1] (cY CR mS)) (vF:MtB P w K mg base 3 CF "times" (jh CF λa b=>(a.1*b.1,a.2*b.2))) (vG:MtB P w K mg base 3 CR "times" (iQ CR (· * ·))) (qG:FnB P w K mg base 4 "rough_part" (spRP CF CR CG)) (uu:FnB P w K mg base 5 "sum_of" (spSum CF CR CG)):kZ P w K mg base CX0 6 f fd ["ring", "text"] (spRS CF CR CG):=by
 refine F.o lH λ_ _ _ _ H _ Q _ hr h=>?_
 ·obtain ⟨g,x,P,L,ps,rfl,hP,hg,hN,hw,q⟩:=h
  have hB:=hP.b
  obtain ⟨dx,hg'⟩:=id hg
  have mo:=hw.mono
  have lS:=shS_B hw.2.2.1 mo
  have hn:=hw.2.2.1
  refine ⟨_,(ae (aG (aq a9 (pv 1) aE (ao _))
(ah (al (aV ag)))
aw)
(ae (ak (i:=2) lH.nd rfl (Or.inl rfl) (fY PySem.F.plainAttrs_str PySem.F.slot_str_split PySem.F.type_str_split mt_split (pv 1) (aa aE ag)))
(ae (ak (i:=3) lH.nd rfl (Or.inl rfl) (fY PySem.F.plainAttrs_str PySem.F.slot_str_startswith PySem.F.type_str_startswith mt_starts (aA (aK K rfl) (pv 2) ac (λ_ _=>rfl)) (aa aE ag)))
(ae (ak (i:=4) lH.nd rfl (Or.inl rfl) (am op_cat (aV (aa (bw (bd (pv 3)) aE aE) ag)) (pe_step (K:=K) rfl (pv 2) (bZ ac) (bZ ac))))
(ae (ak (i:=5) lH.nd rfl (Or.inl rfl) (am op_cat (aV (aa (bw (bd (pv 3)) (dn kM (aA (aK K rfl) (pv 2) ac (λ_ _=>rfl)) (bZ ac) e9) (aA (aK K rfl) (pv 2) ac (λ_ _=>rfl))) ag)) (pe_step (K:=K) rfl (pv 2) (bZ ac) (bZ ac))))
(ae (aG (aq eM (cx K T (pv 4)) (cx K T (pv 5)) (ao _))
(ah cB)
aw)
(ae (ak (i:=6) lH.nd rfl (Or.inl rfl) (aV ag))
(ae (bI PassesOwn.never rfl (kpi_zip K false false rfl rfl T.zip (aa (pv 4) (aa (pv 5) ag))) (e8 K (i:=7) (j:=8) rfl rfl lH.nd rfl rfl rfl rfl)
(ae (ak (i:=9) lH.nd rfl (Or.inl rfl) (aB qG hr.m (aa (pv 0) (aa (pv 8) ag))))
(ae (ak (i:=10) lH.nd rfl (Or.inl rfl) (cK (bT nJ hr.m bN (bu oj hr.m (pv 0)) (aa (bw (aq a9 (pv 7) aE (ao _)) (j3 gs ac) ac) ag)) (bT nN hr.m bN (bu oj hr.m (pv 0)) (aa (bw (aq a9 (pv 7) aE (ao _)) (j3 gs ac) ac) ag))))
(ah (bR (bmA K rfl (pv 6) (aa (by exact (bE (aa (aA (ar K rfl) (pv 9) ac (λ_ _=>rfl)) (aa (by exact (cK (pe_mt vF hr.m (bu oj hr.m (pv 0)) (aa (aA (ar K rfl) (pv 9) ac (λ_ _=>rfl)) (aa (pv 10) ag))) (pe_mt vG hr.m (bu oj hr.m (pv 0)) (aa (aA (ar K rfl) (pv 9) ac (λ_ _=>rfl)) (aa (pv 10) ag))))) ag)))) ag)))))))
(ah (al (aB uu hr.m (aa (pv 0) (aa (pv 6) ag))))))))))))),?_⟩
  refine ⟨_,rfl,rfl,_,rfl,?_⟩
  cases ps with
  | nil=>
   rw [decide_eq_true (show V.str (tx (shS P []))=V.str (Str.ofString "0") from rfl)]
   refine bG ⟨Nat.zero_le _,λd nd=>?_⟩
   exact q d [] _ nd (kW.new nd) af .nil
  | cons p0 pr=>
   obtain ⟨c1,c2,c3,c4,c5⟩:=hw.1.2 p0 (by simp)
   have k4:p0.1.length<=4:=by have:=hw.2.1; omega
   have kall:∀ q ∈ p0::pr,q.1.length<=4:=λq hq=>(mo q hq).2.2.1
   rw [decide_eq_false (show ¬ V.str (tx (shS P (p0::pr)))=V.str (Str.ofString "0") from λz=>by
    injection z with z
    exact shS_not0 (r:=pr) c1 c2 k4 c5 c3 ((mf (b:=[48])).mp z))]
   refine be ?_
   refine ⟨_,rfl,rfl,_,_,rfl,rfl,rfl,by rw [aF,sizeLine_eq]; omega,λl nl=>?_⟩
   rw [shS_split kall]
   have s1:=kW.new (o:=.lst (((hd0 P p0::fnd P pr).map tx).map V.str)) nl
   have hl1:(upd H l (.lst (((hd0 P p0::fnd P pr).map tx).map V.str))) l=some (.lst (((hd0 P p0::fnd P pr).map tx).map V.str)):=af
   generalize upd H l (.lst (((hd0 P p0::fnd P pr).map tx).map V.str))=H1 at *
   have lh:(hd0 P p0).length<=461:=by
    unfold hd0
    rw [length_append]
    have:=prt_B (mo p0 (by simp))
    split
    ·show 1+_<=_
     omega
    ·show 0+_<=_
     omega
   refine ⟨_,rfl,l,_,_,_,rfl,rfl,SqL.of hl1,ay (j:=0) rfl,rfl,_,_,rfl,rfl,?_⟩
   rw [hd0_starts k4]
   dsimp only
   refine set_cut2 (t:=tAsg _ _) (s:=tAsg _ _) (λσ' H'=>∃ (sa sb:Addr) (bv:V),σ'=[some (.ref g),some (.str (tx (shS P (p0::pr)))),some (.ref l),some bv,some (.ref sa),some (.ref sb),none,none,none,none,none]/\kW H1 H'/\H' sa=some (.lst ((p0::pr).map λp=>V.str (tx (sgn P p.2))))/\H' sb=some (.lst ((p0::pr).map λp=>V.str (tx (prt P p))))) (λR hR=>?_) ?_
   ·by_cases hc:P=0/\p0.2.1<0
    ·rw [decide_eq_true hc]
     refine ⟨_,rfl,_,rfl,bG ?_⟩
     refine ⟨by show 1<=sizeLine; decide,λa1 n1=>?_⟩
     have s2:=kW.new (o:=.lst [V.str (tx (sgn P p0.2))]) n1
     have ha1:(upd H1 a1 (.lst [V.str (tx (sgn P p0.2))])) a1=some (.lst [V.str (tx (sgn P p0.2))]):=af
     have esg:Str.ofString "-" = tx (sgn P p0.2):=by unfold sgn; rw [if_pos hc]; rfl
     rw [esg]
     generalize upd H1 a1 (.lst [V.str (tx (sgn P p0.2))])=H2 at *
     refine ⟨_,rfl,_,rfl,_,rfl,by decide,l,_,rfl,SqL.of (s2 _ _ hl1),λa2 n2=>?_⟩
     rw [g0]
     have s3:=kW.new (o:=.lst (pr.map λp=>V.str (tx (sgn P p.2)))) n2
     have ha2:(upd H2 a2 (.lst (pr.map λp=>V.str (tx (sgn P p.2))))) a2=some (.lst (pr.map λp=>V.str (tx (sgn P p.2)))):=af
     generalize upd H2 a2 (.lst (pr.map λp=>V.str (tx (sgn P p.2))))=H3 at *
     refine ⟨a1,a2,_,_,rfl,rfl,s3 _ _ ha1,ha2,by rw [length_map,length_singleton,sizeLine_eq]; rw [length_cons] at hn; omega,λa3 n3=>?_⟩
     have s4:=kW.new (o:=.lst ((p0::pr).map λp=>V.str (tx (sgn P p.2)))) n3
     have ha3:(upd H3 a3 (.lst ((p0::pr).map λp=>V.str (tx (sgn P p.2))))) a3=some (.lst ((p0::pr).map λp=>V.str (tx (sgn P p.2)))):=af
     rw [show [V.str (tx (sgn P p0.2))]++pr.map (λp=>V.str (tx (sgn P p.2)))=(p0::pr).map λp=>V.str (tx (sgn P p.2)) from rfl]
     generalize upd H3 a3 (.lst ((p0::pr).map λp=>V.str (tx (sgn P p.2))))=H4 at *
     have hl4:=s4 _ _ (s3 _ _ (s2 _ _ hl1))
     have ehd:Txt.slice (tx (hd0 P p0)) (some 1) none=tx (prt P p0):=by
      have e:hd0 P p0=45::prt P p0:=by unfold hd0; rw [if_pos hc]; rfl
      rw [e]
      exact iL (a:=1) (l:=45::prt P p0) (by simp)
     refine ⟨_,rfl,_,rfl,bG ⟨_,rfl,l,_,_,_,rfl,rfl,SqL.of hl4,ay (j:=0) rfl,_,rfl,_,rfl,by rw [aF,sizeLine_eq]; omega,?_⟩⟩
     refine ⟨by show 1<=sizeLine; decide,λb1 m1=>?_⟩
     have t2:=kW.new (o:=.lst [V.str (tx (prt P p0))]) m1
     have hb1:(upd H4 b1 (.lst [V.str (tx (prt P p0))])) b1=some (.lst [V.str (tx (prt P p0))]):=af
     rw [ehd]
     generalize upd H4 b1 (.lst [V.str (tx (prt P p0))])=H5 at *
     refine ⟨_,rfl,_,rfl,_,rfl,by decide,l,_,rfl,SqL.of (t2 _ _ hl4),λb2 m2=>?_⟩
     rw [gn]
     have t3:=kW.new (o:=.lst (pr.map λp=>V.str (tx (prt P p)))) m2
     have hb2:(upd H5 b2 (.lst (pr.map λp=>V.str (tx (prt P p))))) b2=some (.lst (pr.map λp=>V.str (tx (prt P p)))):=af
     generalize upd H5 b2 (.lst (pr.map λp=>V.str (tx (prt P p))))=H6 at *
     refine ⟨b1,b2,_,_,rfl,rfl,t3 _ _ hb1,hb2,by rw [length_map,length_singleton,sizeLine_eq]; rw [length_cons] at hn; omega,λb3 m3=>?_⟩
     have t4:=kW.new (o:=.lst ((p0::pr).map λp=>V.str (tx (prt P p)))) m3
     exact hR _ _ ⟨a3,b3,_,rfl,(s2.trans (s3.trans s4)).trans (t2.trans (t3.trans t4)),t4 _ _ (t3 _ _ (t2 _ _ ha3)),af⟩
    ·rw [decide_eq_false hc]
     refine ⟨_,rfl,_,rfl,be ?_⟩
     refine ⟨by show 1<=sizeLine; decide,λa1 n1=>?_⟩
     have s2:=kW.new (o:=.lst [V.str (tx (sgn P p0.2))]) n1
     have ha1:(upd H1 a1 (.lst [V.str (tx (sgn P p0.2))])) a1=some (.lst [V.str (tx (sgn P p0.2))]):=af
     have esg:Str.ofString "+" = tx (sgn P p0.2):=by unfold sgn; rw [if_neg hc]; rfl
     rw [esg]
     generalize upd H1 a1 (.lst [V.str (tx (sgn P p0.2))])=H2 at *
     refine ⟨_,rfl,_,rfl,_,rfl,by decide,l,_,rfl,SqL.of (s2 _ _ hl1),λa2 n2=>?_⟩
     rw [g0]
     have s3:=kW.new (o:=.lst (pr.map λp=>V.str (tx (sgn P p.2)))) n2
     have ha2:(upd H2 a2 (.lst (pr.map λp=>V.str (tx (sgn P p.2))))) a2=some (.lst (pr.map λp=>V.str (tx (sgn P p.2)))):=af
     generalize upd H2 a2 (.lst (pr.map λp=>V.str (tx (sgn P p.2))))=H3 at *
     refine ⟨a1,a2,_,_,rfl,rfl,s3 _ _ ha1,ha2,by rw [length_map,length_singleton,sizeLine_eq]; rw [length_cons] at hn; omega,λa3 n3=>?_⟩
     have s4:=kW.new (o:=.lst ((p0::pr).map λp=>V.str (tx (sgn P p.2)))) n3
     have ha3:(upd H3 a3 (.lst ((p0::pr).map λp=>V.str (tx (sgn P p.2))))) a3=some (.lst ((p0::pr).map λp=>V.str (tx (sgn P p.2)))):=af
     rw [show [V.str (tx (sgn P p0.2))]++pr.map (λp=>V.str (tx (sgn P p.2)))=(p0::pr).map λp=>V.str (tx (sgn P p.2)) from rfl]
     generalize upd H3 a3 (.lst ((p0::pr).map λp=>V.str (tx (sgn P p.2))))=H4 at *
     have hl4:=s4 _ _ (s3 _ _ (s2 _ _ hl1))
     have ehd:tx (hd0 P p0)=tx (prt P p0):=by
      have e:hd0 P p0=prt P p0:=by unfold hd0; rw [if_neg hc]; rfl
      rw [e]
     refine ⟨_,rfl,_,rfl,be ⟨_,rfl,l,_,_,_,rfl,rfl,SqL.of hl4,ay (j:=0) rfl,?_⟩⟩
     refine ⟨by show 1<=sizeLine; decide,λb1 m1=>?_⟩
     have t2:=kW.new (o:=.lst [V.str (tx (prt P p0))]) m1
     have hb1:(upd H4 b1 (.lst [V.str (tx (prt P p0))])) b1=some (.lst [V.str (tx (prt P p0))]):=af
     rw [ehd]
     generalize upd H4 b1 (.lst [V.str (tx (prt P p0))])=H5 at *
     refine ⟨_,rfl,_,rfl,_,rfl,by decide,l,_,rfl,SqL.of (t2 _ _ hl4),λb2 m2=>?_⟩
     rw [gn]
     have t3:=kW.new (o:=.lst (pr.map λp=>V.str (tx (prt P p)))) m2
     have hb2:(upd H5 b2 (.lst (pr.map λp=>V.str (tx (prt P p))))) b2=some (.lst (pr.map λp=>V.str (tx (prt P p)))):=af
     generalize upd H5 b2 (.lst (pr.map λp=>V.str (tx (prt P p))))=H6 at *
     refine ⟨b1,b2,_,_,rfl,rfl,t3 _ _ hb1,hb2,by rw [length_map,length_singleton,sizeLine_eq]; rw [length_cons] at hn; omega,λb3 m3=>?_⟩
     have t4:=kW.new (o:=.lst ((p0::pr).map λp=>V.str (tx (prt P p)))) m3
     exact hR _ _ ⟨a3,b3,_,rfl,(s2.trans (s3.trans s4)).trans (t2.trans (t3.trans t4)),t4 _ _ (t3 _ _ (t2 _ _ ha3)),af⟩
   rintro σ' H2 ⟨sa,sb,bv,rfl,s2,ha,hb⟩
   have sm2:=s1.trans s2
   refine ⟨_,rfl,sa,_,rfl,.inl (SqL.of ha),_,rfl,sb,_,rfl,.inl (SqL.of hb),rfl,_,rfl,?_⟩
   rw [length_map,length_map,decide_eq_true rfl]
   refine be ⟨Nat.zero_le _,λd nd=>?_⟩
   have s3:=kW.new (o:=.lst []) nd
   have hd3:(upd H2 d (.lst [])) d=some (.lst []):=af
   generalize upd H2 d (.lst [])=H3 at *
   have lm1:((p0::pr).map λp=>V.str (tx (sgn P p.2))).length=(p0::pr).length:=length_map ..
   have lm2:((p0::pr).map λp=>V.str (tx (prt P p))).length=(p0::pr).length:=length_map ..
   generalize hps:p0::pr=ps at *
   refine ⟨_,rfl,_,rfl,sa,sb,rfl,⟨_,sqvL (SqL.of (s3 _ _ ha))⟩,⟨_,sqvL (SqL.of (s3 _ _ hb))⟩,for_zipN (xs:=ps.map λp=>V.str (tx (sgn P p.2))) (ys:=ps.map λp=>V.str (tx (prt P p))) (λi σ H'=>∃ (x7 x8 x9 x10:Option V) (ts:List V),σ=[some (.ref g),some (.str (tx (shS P ps))),some (.ref l),some bv,some (.ref sa),some (.ref sb),some (.ref d),x7,x8,x9,x10]/\kW H2 H'/\H' d=some (.lst ts)/\lg P H' ts (ps.take i)) ⟨none,none,none,none,[],rfl,s3,hd3,.nil⟩ ?_ ?_ ?_⟩
   ·rintro i σ H' _ ⟨x7,x8,x9,x10,ts,rfl,sm,_⟩
    exact ⟨sqvL (SqL.of (sm _ _ ha)),sqvL (SqL.of (sm _ _ hb))⟩
   ·rintro i v y σ H4 t hv hy ⟨x7,x8,x9,x10,ts,rfl,sm,hd4,pr4⟩ nt N0 B0 hN0
    rw [getElem?_map] at hv hy
    cases ep:ps[i]? with
    | none=>rw [ep] at hv; exact nomatch hv
    | some p=>
     rw [ep] at hv hy
     have hv:V.str (tx (sgn P p.2))=v:=by injection hv
     have hy:V.str (tx (prt P p))=y:=by injection hy
     subst hv hy
     have mp:=mem_of_getElem? ep
     have hi:i<ps.length:=(List.getElem?_eq_some_iff.mp ep).1
     obtain ⟨d1,d2,d3,d4,d5⟩:=hw.1.2 p mp
     obtain ⟨o1,o2,o3⟩:=ig d1 d2
     have s4:=kW.new (o:=.tup [.str (tx (sgn P p.2)),.str (tx (prt P p))]) nt
     have h4:(upd H4 t (.tup [.str (tx (sgn P p.2)),.str (tx (prt P p))])) t=some (.tup [.str (tx (sgn P p.2)),.str (tx (prt P p))]):=af
     have pr5:=pr4.mono λt xs e=>s4 _ _ e
     generalize upd H4 t (.tup [.str (tx (sgn P p.2)),.str (tx (prt P p))])=H5 at *
     have sm5:=sm2.trans (sm.trans s4)
     refine ⟨t,_,rfl,SqT.of h4,rfl,_,_,rfl,_,_,rfl,rfl,?_⟩
     refine ⟨_,rfl,_,rfl,g,x,P,L,p.1,bA P p.2,rfl,hP,⟨dx,sm5 _ _ hg'⟩,hN.mono λo e=>sm5 _ _ e,d4,hw.2.1,λe he=>⟨d5 e he,hw.2.2.2 p mp e he⟩,o1,o2,o3,λv6 H6 s6 hv6=>?_⟩
     have sm6:=sm5.trans s6
     obtain ⟨t6,k6,u6,rfl,ht6,hk6,hu6⟩:=hv6
     refine of_go (a:=if P=0/\p.2.1<0 then (-1:Int) else 1) (vs:=[.int (if P=0/\p.2.1<0 then (-1:Int) else 1)]) hP (hN.mono λo e=>sm6 _ _ e) rfl (λZ z=>⟨_,rfl,g,dx,_,rfl,sm6 _ _ hg',rfl,g,x,L,rfl,⟨dx,sm6 _ _ hg'⟩,z⟩) (λZ z=>?_) λr7 H7 s7 A7=>?_
     ·refine ⟨_,rfl,rfl,_,rfl,?_⟩
      by_cases hc:P=0/\p.2.1<0
      ·rw [decide_eq_true (show V.str (tx (sgn P p.2))=V.str (Str.ofString "-") from congrArg V.str (by unfold sgn; rw [if_pos hc]; rfl))]
       rw [if_pos hc] at z
       exact bG ⟨_,rfl,z⟩
      ·rw [decide_eq_false (show ¬ V.str (tx (sgn P p.2))=V.str (Str.ofString "-") from λw=>by
        injection w with w
        unfold sgn at w
        rw [if_neg hc] at w
        exact absurd ((mf (a:=[43]) (b:=[45])).mp w) (by decide))]
       rw [if_neg hc] at z
       exact be z
     ·have sm7:=sm6.trans s7
      have hd7:=s7 _ _ (s6 _ _ (s4 _ _ hd4))
      have pr7:=pr5.mono λt xs e=>s7 _ _ (s6 _ _ e)
      have of1:OkN P (if P=0 then ((if P=0/\p.2.1<0 then (-1:Int) else 1),1) else ((if P=0/\p.2.1<0 then (-1:Int) else 1) % P,1))/\Sz 4300 (if P=0 then ((if P=0/\p.2.1<0 then (-1:Int) else 1),1) else ((if P=0/\p.2.1<0 then (-1:Int) else 1) % P,1)):=by
       have p14:(2:Nat) ^ 14<=2 ^ 4300:=Nat.pow_le_pow_right (by decide) (by decide)
       by_cases h0:P=0
       ·rw [if_pos h0]
        refine ⟨.inl ⟨h0,by show (0:Int)<1; decide,Int.gcd_one_right ..⟩,?_,?_⟩
        ·show (if P=0/\p.2.1<0 then (-1:Int) else 1).natAbs<_
         split<;>omega
        ·show (1:Int).natAbs<_
         omega
       ·rw [if_neg h0,if_neg λz=>h0 z.1,Int.emod_eq_of_lt (a:=1) (by decide) (by omega)]
        exact ⟨.inr ⟨h0,by decide,by show (1:Int)<P; omega,rfl⟩,by show (1:Int).natAbs<_; omega,by show (1:Int).natAbs<_; omega⟩
      refine ⟨_,rfl,.inl ⟨rfl,_,SqL.of hd7⟩,_,rfl,t6,_,_,_,rfl,rfl,SqT.of (s7 _ _ ht6),ay (j:=0) rfl,op_go _ _ p.2 ((mul_sign hP d1).symm.trans (by unfold mulN; rfl)) (by decide +kernel) hP (hN.mono λo e=>sm7 _ _ e) (hu6.same s7) A7 o1 of1.1 (o3.mono (by decide)) of1.2 (λZ z=>⟨_,rfl,g,dx,_,rfl,sm7 _ _ hg',rfl,g,x,L,rfl,⟨dx,sm7 _ _ hg'⟩,z⟩) (λZ z=>⟨_,rfl,t6,_,_,_,rfl,rfl,SqT.of (s7 _ _ ht6),ay (j:=1) rfl,_,rfl,z⟩) λr8 H8 s8 A8=>?_⟩
      refine ⟨by show 2<=sizeLine; decide,λt9 n9=>?_⟩
      have s9:=kW.new (o:=.tup [.ref k6,r8]) n9
      have h9:(upd H8 t9 (.tup [.ref k6,r8])) t9=some (.tup [.ref k6,r8]):=af
      generalize upd H8 t9 (.tup [.ref k6,r8])=H9 at *
      have s89:=s8.trans s9
      have lts:ts.length=(ps.take i).length:=Paired.length pr4
      rw [length_take] at lts
      have hd9:=s89 _ _ hd7
      have keep:∀ c xs,H9 c=some (.tup xs)->(upd H9 d (.lst (ts++[.ref t9]))) c=some (.tup xs):=λc xs e=>by rw [au (bU e hd9 (by intro z; cases z))]; exact e
      refine ⟨d,_,_,rfl,rfl,hd9,by rw [sizeLine_eq]; omega,hN0 _ _ ⟨_,_,_,_,_,rfl,(sm.trans (s4.trans (s6.trans (s7.trans s89)))).put nd,af,?_⟩⟩
      rw [take_add_one,ep]
      exact (lg.snoc (p:=p) ⟨t9,k6,r8,rfl,h9,s89 _ _ (s7 _ _ hk6),A8.same s9⟩ (pr7.mono λt xs e=>s89 _ _ e)).mono keep
   ·rintro σ H4 ⟨x7,x8,x9,x10,ts,rfl,sm,hd4,pr4⟩
    rw [lm1,lm2,Nat.min_self,take_length] at pr4
    have sm4:=sm2.trans sm
    refine ⟨_,rfl,_,rfl,g,x,d,P,L,ts,ps,rfl,hP,⟨dx,sm4 _ _ hg'⟩,hN.mono λo e=>sm4 _ _ e,hd4,pr4,hn,hw.1.sumOk (by decide),λd5 rs out H5 n5 s5 h5 p5 is5=>?_⟩
    have eo:out=ps:=f7 is5 hw.1.self
    subst eo
    exact q d5 rs H5 (sm4.free n5) (sm4.trans s5) h5 p5
theorem sc_read_sum:kX ["ring", "text", "one"] ["ring", "text"] (aj fA):=.i
theorem ok_reads {f CF CR CG:Addr} {fd:FuncData} (F:Fun K "read_sum" "read_sum" fA f fd) (qH:FnB P w K mg base 1 "check_text" spChkT) (pE:FnB P w K mg base 1 "check_written" spChkW) (rC:FnB P w K mg base 6 "rough_sum" (spRS CF CR CG)) (oW:FnB P w K mg base 4 "show_sum" (spShS CF CR CG)):kZ P w K mg base CX0 7 f fd ["ring", "text"] (spRS CF CR CG):=by
 refine F.o sc_read_sum λ_ _ _ _ H _ Q _ hr h=>?_
 ·obtain ⟨g,x,P,L,ps,rfl,hP,hg,hN,hw,q⟩:=h
  obtain ⟨dx,hg'⟩:=id hg
  refine ⟨_,(ae (bR (aB qH hr.m (aa (pv 1) ag)))
(ae (ak (i:=2) sc_read_sum.nd rfl (Or.inl rfl) (aB rC hr.m (aa (pv 0) (aa (pv 1) ag))))
(ae (bR (aB pE hr.m (aa (aB oW hr.m (aa (pv 0) (aa (pv 2) ag))) (aa (pv 1) ag))))
(ah (al (pv 2)))))),?_⟩
  refine ⟨_,rfl,_,rfl,?_⟩
  refine ⟨_,rfl,_,rfl,g,x,P,L,ps,rfl,hP,hg,hN,hw,λd rs H1 nd s1 hd pr=>?_⟩
  refine ⟨_,rfl,_,rfl,g,x,d,P,L,rs,ps,rfl,hP,⟨dx,s1 _ _ hg'⟩,hN.mono λo e=>s1 _ _ e,hd,pr,hw.2.2.1,hw.mono,λH2 s2=>?_⟩
  refine ⟨_,rfl,_,rfl,?_⟩
  exact ⟨_,rfl,q d rs H2 nd (s1.trans s2) (s2 _ _ hd) (pr.mono λt xs e=>s2 _ _ e)⟩
def ltl (P:Int) (r:List az):List Nat:=r.flatMap λq=>32::(sgn P q.2++32::prt P q)
def ltx (P:Int):List az->List Nat
 | []=>[]
 | p::r=>hd0 P p++ltl P r
theorem glue_ltl (P:Int):∀ (r:List az) (w:List Nat),aL 32 (w::fnd P r)=w++ltl P r
 | [],w=>by show w=w++[]; simp
 | q::r,w=>by
  have ih:=glue_ltl P r (prt P q)
  have e:fnd P (q::r)=sgn P q.2::prt P q::fnd P r:=rfl
  rw [e]
  show w++32::(sgn P q.2++32::aL 32 (prt P q::fnd P r))=w++((32::(sgn P q.2++32::prt P q))++ltl P r)
  rw [ih]
  simp
theorem ltx_shS (P:Int) (p:az) (r:List az):ltx P (p::r)=shS P (p::r):=by
 rw [jf,glue_ltl]
 rfl
theorem ltx_snoc (P:Int) {ps:List az} (h:ps ≠ []) (q:az):ltx P (ps++[q])=ltx P ps++(32::(sgn P q.2++32::prt P q)):=by
 cases ps with
 | nil=>exact absurd rfl h
 | cons p r=>
  show hd0 P p++ltl P (r++[q])=(hd0 P p++ltl P r)++_
  unfold ltl
  rw [List.flatMap_append,append_assoc]
  simp
theorem tk_ne {ps:List az} {i:Nat} (h:0<i) (h2:i<ps.length):ps.take i ≠ []:=λw=>by
 have h:=congrArg List.length w
 rw [length_take,length_nil] at h
 omega
theorem prt_ne {P:Int} {p:az} (k0:∀ e ∈ p.1,0<=e):prt P p ≠ []:=by
 unfold prt
 cases hf:fac P p.1 (bA P p.2) with
 | nil=>exact absurd hf (fac_ne k0)
 | cons w ws=>
  have hw:w ≠ []:=by
   have hm:w ∈ fac P p.1 (bA P p.2):=by rw [hf]; simp
   have hN:shN P (bA P p.2) ≠ []:=by obtain ⟨c,r,e,_⟩:=shN_hd (P:=P) (a:=bA P p.2); rw [e]; simp
   have hW:∀ w ∈ wds 0 p.1,w ≠ []:=λw hw=>by
    obtain ⟨j,e,_,_,_,_,rfl⟩:=ce (B:=0) hw
    unfold shW
    simp
   unfold fac at hm
   split at hm
   ·rw [List.mem_singleton.mp hm]
    exact hN
   ·split at hm
    ·exact hW w hm
    ·rcases List.mem_cons.mp hm with z | z
     ·rw [z]
      exact hN
     ·exact hW w z
  intro e
  have g:=fV 42 (ws:=ws) hw
  rw [e] at g
  cases w with
  | nil=>exact hw rfl
  | cons c r=>exact nomatch g
theorem ltx_ne {P:Int} {ps:List az} (h:ps ≠ []) (k0:∀ p ∈ ps,∀ e ∈ p.1,0<=e):ltx P ps ≠ []:=by
 cases ps with
 | nil=>exact absurd rfl h
 | cons p r=>
  intro e
  have e:hd0 P p++ltl P r=[]:=e
  have e2:=(List.append_eq_nil_iff.mp e).1
  unfold hd0 at e2
  exact prt_ne (k0 p (by simp)) (List.append_eq_nil_iff.mp e2).2
theorem prt_cut {P:Int} {p:az} (kn:∀ e ∈ p.1,0<=e):(p.1.sum=0->shN P (bA P p.2)++42::aL 42 (wds 0 p.1)=prt P p++[42])/\(p.1.sum ≠ 0->bA P p.2=(1,1)->shN P (bA P p.2)++42::aL 42 (wds 0 p.1)=49::42::prt P p)/\(p.1.sum ≠ 0->bA P p.2 ≠ (1,1)->shN P (bA P p.2)++42::aL 42 (wds 0 p.1)=prt P p):=by
 refine ⟨λh=>?_,λh h1=>?_,λh h1=>?_⟩
 ·have hw:wds 0 p.1=[]:=by rw [dJ,iA 0 p.1 kn h]; rfl
  unfold prt fac
  rw [if_pos h,hw]
  rfl
 ·unfold prt fac
  rw [if_neg h,if_pos h1,h1]
  have e:shN P (1,1)=[49]:=by
   unfold shN
   rw [if_neg λz=>z.2 rfl]
   decide +kernel
  rw [e]
  rfl
 ·unfold prt fac
  rw [if_neg h,if_neg h1,gz 42 _ (fK kn h)]
def spLShP:Sp:=λvs H Q _=>∃ (t:Addr) (k:List Int),vs=[.ref t]/\H t=some (.tup (k.map V.int))/\k.length<=4/\(∀ e ∈ k,0<=e/\e<=1000)/\∀ H',kW H H'->Q (.str (tx (aL 42 (wds 0 k)))) H'
def spLShS:Sp:=λvs H Q _=>∃ (l:Addr) (P L:Int) (ts:List V) (ps:List az),vs=[.int P,.ref l]/\ll P/\H l=some (.lst ts)/\lg P H ts ps/\WrOk P L ps/\∀ H',kW H H'->Q (.str (tx (shS P ps))) H'
theorem lT:kX ["_law_product_here", "_law_words", "_law_k"] ["_law_product_here"] (aj bF):=.i
set_option maxHeartbeats 1000000 in
theorem ok_lshowp {f:Addr} {fd:FuncData} (F:Fun K "_law_show_product" "_law_show_product" bF f fd) (T:Blt mg) (nstr:mg "str" = none):kZ P w K mg base CX0 1 f fd ["_law_product_here"] spLShP:=by
 refine F.o lT λ_ _ _ _ H _ Q _ hr h=>?_
 ·obtain ⟨t,k,rfl,ht,k4,k0,q⟩:=h
  refine ⟨_,(ae (ak (i:=1) lT.nd rfl (Or.inl rfl) (aV ag))
(ae (bI PassesOwn.never rfl (bh rfl T.range (aa (by exact (cx K T (pv 0))) ag)) (bY (i:=2) lT.nd rfl (Or.inl rfl))
(ah (aG (aq cg (aA (ar K rfl) (pv 0) (pv 2) (λ_ _=>rfl)) ac (ao _))
(ah (bR (bmA K rfl (pv 1) (aa (by exact (am aN (aA kP aE (pv 2) (λ_ _=>rfl)) (aA (aK K rfl) (aV (aa aE (aa (by exact (am aN aE (aI aQ (by rfl) nstr ba (aa (aA (ar K rfl) (pv 0) (pv 2) (λ_ _=>rfl)) ag)))) ag))) (aI bO (by rfl) T.int br (aa (aU cg (aA (ar K rfl) (pv 0) (pv 2) (λ_ _=>rfl)) ac (ao _)) ag)) (λ_ _=>rfl)))) ag))))
aw)))
(ah (al (fY PySem.F.plainAttrs_str PySem.F.slot_str_join PySem.F.type_str_join kq aE (aa (pv 1) ag)))))),?_⟩
  refine ⟨Nat.zero_le _,λd nd=>?_⟩
  have s0:=kW.new (o:=.lst []) nd
  have hd0:(upd H d (.lst [])) d=some (.lst []):=af
  generalize upd H d (.lst [])=H0 at *
  refine ⟨_,rfl,t,_,rfl,.inr (SqT.of (s0 _ _ ht)),?_⟩
  rw [length_map]
  refine ⟨_,rfl,by omega,by omega,e7 (n:=(k.length:Int).toNat) (λi σ H'=>∃ x2:Option V,σ=[some (.ref t),some (.ref d),x2]/\kW H H'/\H' d=some (.lst (((wds 0 (k.take i)).map tx).map V.str))) ⟨none,rfl,s0,hd0⟩ ?_ ?_⟩
  ·rintro i σ H1 hi ⟨x2,rfl,s1,hd1⟩
   rw [Int.toNat_natCast] at hi
   rw [show (0:Int)+(i:Int)=(i:Int) from Int.zero_add _]
   obtain ⟨e,ee⟩:∃ e,k[i]? = some e:=⟨_,getElem?_eq_getElem hi⟩
   have ei:(k.map V.int)[i]? = some (.int e):=by rw [getElem?_map,ee]; rfl
   obtain ⟨e0,e1⟩:=k0 e (mem_of_getElem? ee)
   have ws:=iJ 0 (k.take i) e
   rw [length_take,Nat.min_eq_left (by omega),Nat.zero_add,<- show k.take (i+1)=k.take i++[e] by rw [take_add_one,ee]; rfl] at ws
   have sz:(((wds 0 (k.take i)).map tx).map V.str).length<sizeLine:=by
    have:=cw 0 (k.take i)
    rw [length_take] at this
    rw [length_map,length_map,sizeLine_eq]
    omega
   refine ⟨_,rfl,_,rfl,t,_,_,_,rfl,rfl,SqT.of (s1 _ _ ht),ay ei,_,_,rfl,rfl,_,rfl,aY (λh=>?_) (λh=>?_)⟩
   ·have ep:0<e:=of_decide_eq_true h
    rw [if_pos ep] at ws
    have l1:(aD e.natAbs).length<=40:=bg (by decide) (Nat.lt_of_le_of_lt (show e.natAbs<=1000 by omega) (by decide +kernel))
    refine ⟨_,rfl,(.inl ⟨rfl,_,SqL.of hd1⟩),_,rfl,_,_,_,rfl,rfl,(by show 4<=sizeLine; decide),ki (by omega),?_⟩
    refine ⟨_,rfl,_,rfl,t,_,_,_,rfl,rfl,SqT.of (s1 _ _ ht),ay ei,_,rfl,di (Nat.lt_of_le_of_lt (show e.natAbs<=1000 by omega) (by decide +kernel)),?_⟩
    rw [b9 e0]
    refine ⟨_,_,rfl,rfl,?_,?_⟩
    ·rw [aF,sizeLine_eq]
     show 1+(aD e.natAbs).length<=_
     omega
    refine ⟨by show 2<=sizeLine; decide,λl2 n2=>?_⟩
    have s2:=kW.new (o:=.lst [.str (Str.ofString ""),.str (Str.ofString "^" ++ tx (aD e.natAbs))]) n2
    have h2:(upd H1 l2 (.lst [.str (Str.ofString ""),.str (Str.ofString "^" ++ tx (aD e.natAbs))])) l2=some (.lst [.str (Str.ofString ""),.str (Str.ofString "^" ++ tx (aD e.natAbs))]):=af
    generalize upd H1 l2 (.lst [.str (Str.ofString ""),.str (Str.ofString "^" ++ tx (aD e.natAbs))])=H2 at *
    have hd2:=s2 _ _ hd1
    have fin:∀ x:Str,x=tx (shW i e)->∃ x2:Option V,[some (V.ref t),some (V.ref d),some (V.int (i:Int))]=[some (.ref t),some (.ref d),x2]/\kW H (upd H2 d (.lst (((wds 0 (k.take i)).map tx).map V.str++[V.str x])))/\(upd H2 d (.lst (((wds 0 (k.take i)).map tx).map V.str++[V.str x]))) d=some (.lst (((wds 0 (k.take (i+1))).map tx).map V.str)):=λx ex=>by
     refine ⟨_,rfl,(s1.trans s2).put nd,?_⟩
     rw [af,ws,ex,map_append,map_append]
     rfl
    by_cases e1':e=1
    ·refine ⟨_,rfl,_,rfl,t,_,_,_,rfl,rfl,SqT.of (s2 _ _ (s1 _ _ ht)),ay ei,_,_,rfl,rfl,.inr ⟨_,rfl,l2,_,_,_,rfl,rfl,SqL.of h2,(by rw [decide_eq_false (by omega)]; exact ay (j:=0) rfl),_,_,rfl,rfl,(by show 1+0<=sizeLine; decide),?_⟩⟩
     refine ⟨d,_,_,rfl,rfl,hd2,sz,fin _ ?_⟩
     unfold shW
     rw [if_pos e1']
     rfl
    ·refine ⟨_,rfl,_,rfl,t,_,_,_,rfl,rfl,SqT.of (s2 _ _ (s1 _ _ ht)),ay ei,_,_,rfl,rfl,.inr ⟨_,rfl,l2,_,_,_,rfl,rfl,SqL.of h2,(by rw [decide_eq_true (by omega)]; exact ay (j:=1) rfl),_,_,rfl,rfl,?_,?_⟩⟩
     ·have h3:(Str.ofString "^" ++ tx (aD e.natAbs)).length=1+(aD e.natAbs).length:=by
       rw [show Str.ofString "^" ++ tx (aD e.natAbs)=tx ([94]++aD e.natAbs) from bp [94] _,aF,length_append]
       rfl
      rw [h3,sizeLine_eq]
      show 1+_<=_
      omega
     refine ⟨d,_,_,rfl,rfl,hd2,sz,fin _ ?_⟩
     have e3:Str.ofString "^" ++ tx (aD e.natAbs)=tx (94::aD e.natAbs):=bp [94] _
     rw [e3]
     refine (bp [bx i] _).trans ?_
     unfold shW
     rw [if_neg e1']
     rfl
   ·have en:¬ 0<e:=λz=>h (decide_eq_true z)
    rw [if_neg en,append_nil] at ws
    exact ⟨_,rfl,s1,by rw [hd1,ws]⟩
  ·rintro σ H1 ⟨x2,rfl,s1,hd1⟩
   rw [Int.toNat_natCast,take_length] at hd1
   have lw:=cw 0 k
   refine ⟨rfl,_,rfl,_,d,_,rfl,rfl,hd1,?_,?_⟩
   ·unfold JoinOk
    rw [Bool.not_eq_true']
    refine StrLaws.joinFits (B:=50) (λy hy=>?_) ?_
    ·obtain ⟨w,hw,rfl⟩:=List.mem_map.mp hy
     rw [aF]
     exact iK k0 w hw
    ·rw [length_map]
     show (wds 0 k).length*50+(wds 0 k).length*1<=16777216
     omega
   ·have e:=gM 42 (wds 0 k)
    show Q (.str (Txt.join (one 42) ((wds 0 k).map tx))) H1
    rw [e]
    exact q H1 s1
theorem lv:kX ["_law_prime_here", "_law_one", "_law_text", "_law_product_here", "_law_number_here", "_law_sign", "_law_part"] ["_law_prime_here", "_law_one"] (aj cm):=.i
set_option maxHeartbeats 1000000 in
theorem ok_lshows {f:Addr} {fd:FuncData} (F:Fun K "_law_show_sum" "_law_show_sum" cm f fd) (T:Blt mg) (oF:FnB P w K mg base 1 "_law_show_number" spLShN) (om:FnB P w K mg base 1 "_law_show_product" spLShP) (nO:FnB P w K mg base 1 "_law_unit" spUnit):kZ P w K mg base CX0 2 f fd ["_law_prime_here", "_law_one"] spLShS:=by
 refine F.o lv λ_ _ _ _ H _ Q _ hr h=>?_
 ·obtain ⟨l,P,L,ts,ps,rfl,hP,hl,hps,hw,q⟩:=h
  have hB:=hP.b
  have mo:=hw.mono
  have hn:=hw.2.2.1
  refine ⟨_,(ae (ak (i:=2) lv.nd rfl (Or.inl rfl) aE)
(ae (bI PassesOwn.never rfl (bH K rfl (pv 1)) (e8 K (i:=3) (j:=4) rfl rfl lv.nd rfl rfl rfl rfl)
(ae (ak (i:=5) lv.nd rfl (Or.inl rfl) (aA (aK K rfl) (aV (aa aE (aa aE ag))) (aI bO (by rfl) T.int br (aa (aU a9 (pv 2) aE (ao _)) ag)) (λ_ _=>rfl)))
(ae (aG (PW.pt (pw_and (aq a9 (pv 0) ac (ao _)) (pw_and1 (aq dY (aA (ar K rfl) (pv 4) ac (λ_ _=>rfl)) ac (ao _)))))
(ae (ak (i:=4) lv.nd rfl (Or.inl rfl) (bE (aa (by exact (am df ac (aA (ar K rfl) (pv 4) ac (λ_ _=>rfl)))) (aa (aA (ar K rfl) (pv 4) ac (λ_ _=>rfl)) ag))))
(ah (ak (i:=5) lv.nd rfl (Or.inl rfl) (aA (aK K rfl) (aV (aa aE (aa aE ag))) (aI bO (by rfl) T.int br (aa (aU a9 (pv 2) aE (ao _)) ag)) (λ_ _=>rfl)))))
aw)
(ae (ak (i:=6) lv.nd rfl (Or.inl rfl) (am aN (am aN (aB oF hr.m (aa (pv 0) (aa (pv 4) ag))) aE) (aB om hr.m (aa (pv 3) ag))))
(ae (aG (aq a9 (kj K T (pv 3) true) ac (ao _))
(ah (ak (i:=6) lv.nd rfl (Or.inl rfl) (dn kM (pv 6) e9 (bZ (j3 gs ac)))))
(ah (aG (aq (keqD K rfl hr.units) (pv 4) (aB nO hr.m (aa (pv 0) ag)) (ao _))
(ah (ak (i:=6) lv.nd rfl (Or.inl rfl) (dn kM (pv 6) (bZ ac) e9)))
aw)))
(ah (ak (i:=2) lv.nd rfl (Or.inl rfl) (am aN (am aN (pv 2) (pv 5)) (pv 6)))))))))
(ah (al (aA (aK K rfl) (aV (aa (pv 2) (aa aE ag))) (aI bO (by rfl) T.int br (aa (aU a9 (pv 2) aE (ao _)) ag)) (λ_ _=>rfl)))))),?_⟩
  have lt:ts.length=ps.length:=Paired.length hps
  refine ⟨_,rfl,l,rfl,⟨_,SqL.of hl⟩,gQ (xs:=ts) (λi σ H'=>∃ x3 x4 x5 x6:Option V,σ=[some (.int P),some (.ref l),some (.str (tx (ltx P (ps.take i)))),x3,x4,x5,x6]/\kW H H') ⟨none,none,none,none,rfl,kW.refl H⟩ ?_ ?_ ?_⟩
  ·rintro i σ H' _ ⟨x3,x4,x5,x6,rfl,sm⟩
   exact SqL.of (sm _ _ hl)
  ·rintro i v σ H1 hv ⟨x3,x4,x5,x6,rfl,s1⟩ N0 C0 hN0
   obtain ⟨p,ep,t,kt,u,rfl,ht,hk,hu⟩:=hps.at_ hv
   have mp:=mem_of_getElem? ep
   have hi:i<ps.length:=(List.getElem?_eq_some_iff.mp ep).1
   obtain ⟨op,zp,k4,k0⟩:=mo p mp
   have kn:∀ e ∈ p.1,0<=e:=λe he=>(k0 e he).1
   obtain ⟨o1,o2,o3⟩:=ig op zp
   refine ⟨t,_,rfl,SqT.of (s1 _ _ ht),rfl,_,_,rfl,_,_,rfl,rfl,?_⟩
   have lB:(ltx P (ps.take i)).length<=60000:=by
    cases h:ps.take i with
    | nil=>show 0<=60000; decide
    | cons a r=>
     rw [ltx_shS,<- h]
     exact shS_B (by rw [length_take]; omega) λp hp=>mo p (mem_of_mem_take hp)
   have emp:(decide (V.str (tx (ltx P (ps.take i)))=V.str (Str.ofString "")))=decide (i=0):=by
    refine decide_eq_decide.mpr ⟨λz=>?_,λz=>?_⟩
    ·injection z with z
     have z:=(mf (b:=[])).mp z
     refine Decidable.byContradiction λhi0=>?_
     exact ltx_ne (P:=P) (ps:=ps.take i) (tk_ne (by omega) hi) (λp hp e he=>((mo p (mem_of_mem_take hp)).2.2.2 e he).1) z
    ·rw [z]
     rfl
   have sgi:tx (ltx P (ps.take i))++tx (if i=0 then (if P=0/\p.2.1<0 then [45] else []) else 32::(sgn P p.2++[32]))++tx (prt P p)=tx (ltx P (ps.take (i+1))):=by
    rw [take_add_one,ep,bp,bp]
    by_cases h0:i=0
    ·subst h0
     rw [if_pos rfl,List.take_zero]
     show tx (([]++(if P=0/\p.2.1<0 then [45] else []))++prt P p)=tx (hd0 P p++[])
     rw [nil_append,append_nil]
     rfl
    ·rw [if_neg h0]
     have e:=ltx_snoc P (ps:=ps.take i) (tk_ne (by omega) hi) p
     rw [show (some p).toList=[p] from rfl,e]
     simp
   refine ⟨by show 2<=sizeLine; decide,λl2 n2=>?_⟩
   have s2:=kW.new (o:=.lst [.str (Str.ofString " + "),.str (Str.ofString "")]) n2
   have h2:(upd H1 l2 (.lst [.str (Str.ofString " + "),.str (Str.ofString "")])) l2=some (.lst [.str (Str.ofString " + "),.str (Str.ofString "")]):=af
   generalize upd H1 l2 (.lst [.str (Str.ofString " + "),.str (Str.ofString "")])=H2 at *
   have s12:=s1.trans s2
   have i0:∀ a b:Str,atI [V.str a,V.str b] (if (decide (V.str (tx (ltx P (ps.take i)))=V.str (Str.ofString "")))=true then 1 else 0)=some (V.str (if i=0 then b else a)):=λa b=>by
    rw [emp]
    by_cases h0:i=0
    ·rw [decide_eq_true h0,if_pos rfl,if_pos h0]
     exact ay (j:=1) rfl
    ·rw [decide_eq_false h0,if_neg (by decide),if_neg h0]
     exact ay (j:=0) rfl
   refine ⟨_,rfl,rfl,.inr ⟨_,rfl,l2,_,_,_,rfl,rfl,SqL.of h2,i0 _ _,?_⟩⟩
   dsimp only
   refine eZ (t:=tIfS _ _ _) (λσ' H'=>∃ u':V,σ'=[some (.int P),some (.ref l),some (.str (tx (ltx P (ps.take i)))),some (.ref kt),some u',some (.str (tx (if i=0 then (if P=0/\p.2.1<0 then [45] else []) else 32::(sgn P p.2++[32])))),x6]/\kW H H'/\At P H' u' (bA P p.2)) (λR hR=>?_) ?_
   ·have nope:¬ (P=0/\p.2.1<0)->R [some (.int P),some (.ref l),some (.str (tx (ltx P (ps.take i)))),some (.ref kt),some u,some (.str (if i=0 then Str.ofString "" else Str.ofString " + ")),x6] H2:=λhc=>by
     refine hR _ _ ⟨u,?_,s12,?_⟩
     ·rw [if_neg hc]
      unfold sgn
      rw [if_neg hc]
      by_cases h0:i=0
      ·rw [if_pos h0,if_pos h0]
       rfl
      ·rw [if_neg h0,if_neg h0]
       rfl
     ·unfold bA
      rw [if_neg hc]
      exact hu.same s12
    by_cases h0:P=0
    ·refine ⟨_,rfl,rfl,_,rfl,?_⟩
     rw [decide_eq_true (congrArg V.int h0)]
     refine bG ?_
     rcases hu with ⟨_,tu,rfl,htu⟩ | ⟨z,_⟩
     ·refine ⟨_,rfl,tu,_,_,_,rfl,rfl,SqT.of (s12 _ _ htu),ay (j:=0) rfl,_,_,rfl,rfl,_,rfl,aY (λh=>?_) (λh=>?_)⟩
      ·have hc:P=0/\p.2.1<0:=⟨h0,of_decide_eq_true h⟩
       refine ⟨_,rfl,tu,_,_,_,rfl,rfl,SqT.of (s12 _ _ htu),ay (j:=0) rfl,_,_,rfl,rfl,_,rfl,tu,_,_,_,rfl,rfl,SqT.of (s12 _ _ htu),ay (j:=1) rfl,by show 2<=sizeLine; decide,λt3 n3=>?_⟩
       have s3:=kW.new (o:=.tup [.int (0-p.2.1),.int p.2.2]) n3
       have h3:(upd H2 t3 (.tup [.int (0-p.2.1),.int p.2.2])) t3=some (.tup [.int (0-p.2.1),.int p.2.2]):=af
       generalize upd H2 t3 (.tup [.int (0-p.2.1),.int p.2.2])=H3 at *
       refine ⟨by show 2<=sizeLine; decide,λl4 n4=>?_⟩
       have s4:=kW.new (o:=.lst [.str (Str.ofString " - "),.str (Str.ofString "-")]) n4
       have h4:(upd H3 l4 (.lst [.str (Str.ofString " - "),.str (Str.ofString "-")])) l4=some (.lst [.str (Str.ofString " - "),.str (Str.ofString "-")]):=af
       generalize upd H3 l4 (.lst [.str (Str.ofString " - "),.str (Str.ofString "-")])=H4 at *
       refine ⟨_,rfl,rfl,.inr ⟨_,rfl,l4,_,_,_,rfl,rfl,SqL.of h4,i0 _ _,?_⟩⟩
       refine hR _ _ ⟨.ref t3,?_,s12.trans (s3.trans s4),.inl ⟨h0,t3,rfl,?_⟩⟩
       ·rw [if_pos hc]
        unfold sgn
        rw [if_pos hc]
        by_cases hi0:i=0
        ·rw [if_pos hi0,if_pos hi0,if_pos hi0]
         rfl
        ·rw [if_neg hi0,if_neg hi0,if_neg hi0]
         rfl
       ·unfold bA
        rw [if_pos hc,s4 _ _ h3,Int.zero_sub]
      ·exact nope λz=>h (decide_eq_true z.2)
     ·exact absurd h0 z
    ·refine ⟨_,rfl,rfl,_,rfl,?_⟩
     rw [decide_eq_false (show ¬ V.int P=V.int 0 from λz=>h0 (by injection z))]
     exact be (nope λz=>h0 z.1)
   rintro σ' H3 ⟨u',rfl,s3,hu'⟩
   have ln:=gZ (P:=P) o3
   have lw:=cA 42 (wds 0 p.1) (iK k0)
   have lk:=cw 0 p.1
   have lw2:(wds 0 p.1).length*(50+1)<=4*51:=Nat.mul_le_mul (by omega) (Nat.le_refl _)
   have e42:tx (shN P (bA P p.2))++Str.ofString "*" = tx (shN P (bA P p.2)++[42]):=bp _ [42]
   refine ⟨_,rfl,_,rfl,P,u',bA P p.2,rfl,hP,hu',o2,o1.den,o3,?_⟩
   refine ⟨_,_,rfl,rfl,?_,?_⟩
   ·rw [aF,sizeLine_eq]
    show _+1<=_
    omega
   rw [e42]
   refine ⟨_,rfl,kt,p.1,rfl,s3 _ _ hk,k4,k0,λH4 s4=>⟨_,_,rfl,rfl,?_,?_⟩⟩
   ·rw [aF,aF,length_append,sizeLine_eq]
    show _+1+_<=_
    omega
   have e43:tx (shN P (bA P p.2)++[42])++tx (aL 42 (wds 0 p.1))=tx (shN P (bA P p.2)++42::aL 42 (wds 0 p.1)):=by rw [bp,append_assoc]; rfl
   rw [e43]
   have s34:=s3.trans s4
   obtain ⟨pc1,pc2,pc3⟩:=prt_cut (P:=P) kn
   have lprt:=prt_B (mo p mp)
   dsimp only
   refine eZ (t:=tIfS _ _ _) (λσ' H'=>σ'=[some (.int P),some (.ref l),some (.str (tx (ltx P (ps.take i)))),some (.ref kt),some u',some (.str (tx (if i=0 then (if P=0/\p.2.1<0 then [45] else []) else 32::(sgn P p.2++[32])))),some (.str (tx (prt P p)))]/\kW H H') (λR hR=>?_) ?_
   ·refine ⟨_,rfl,kt,p.1,rfl,sqvT (SqT.of (s34 _ _ hk)),rfl,_,rfl,aY (λh=>?_) (λh=>?_)⟩
    ·have h1:p.1.sum=0:=by have:=of_decide_eq_true h; injection this
     rw [pc1 h1]
     refine ⟨_,rfl,_,rfl,_,rfl,_,rfl,by rw [aF,length_append,sizeLine_eq]; show _+1<=_; omega,?_⟩
     rw [ji]
     exact hR _ _ ⟨rfl,s34⟩
    ·have h1:p.1.sum ≠ 0:=λz=>h (decide_eq_true (congrArg V.int z))
     refine ⟨_,rfl,_,rfl,P,rfl,hP,λr5 H5 s5 a5=>?_⟩
     refine ⟨dN P (bA P p.2),dN P (1,1),gr (hu'.same (s4.trans s5)),gr a5,bD _ _,bD _ _,_,rfl,?_⟩
     rw [im o1 (iW hP)]
     refine aY (λh2=>?_) (λh2=>?_)
     ·rw [pc2 h1 (of_decide_eq_true h2)]
      refine ⟨_,rfl,_,rfl,_,rfl,by rw [aF,sizeLine_eq]; show _+1+1<=_; omega,?_⟩
      rw [show Txt.slice (tx (49::42::prt P p)) (some 2) none=tx (prt P p) from iL (a:=2) (l:=49::42::prt P p) (by simp)]
      exact hR _ _ ⟨rfl,s34.trans s5⟩
     ·rw [pc3 h1 λz=>h2 (decide_eq_true z)]
      exact hR _ _ ⟨rfl,s34.trans s5⟩
   rintro σ' H5 ⟨rfl,s5⟩
   have lsg:(if i=0 then (if P=0/\p.2.1<0 then [45] else []) else 32::(sgn P p.2++[32]):List Nat).length<=3:=by
    unfold sgn
    split
    ·split<;>decide
    ·split<;>decide
   refine ⟨_,rfl,_,rfl,_,_,rfl,rfl,by rw [aF,aF,sizeLine_eq]; omega,_,rfl,_,_,rfl,rfl,?_,?_⟩
   ·rw [bp,aF,aF,length_append,sizeLine_eq]
    omega
   rw [sgi]
   exact hN0 _ _ ⟨_,_,_,_,rfl,s5⟩
  ·rintro σ H1 ⟨x3,x4,x5,x6,rfl,s1⟩
   rw [lt,take_length]
   refine ⟨_,rfl,by show 2<=sizeLine; decide,λl2 n2=>?_⟩
   have s2:=kW.new (o:=.lst [.str (tx (ltx P ps)),.str (Str.ofString "0")]) n2
   have h2:(upd H1 l2 (.lst [.str (tx (ltx P ps)),.str (Str.ofString "0")])) l2=some (.lst [.str (tx (ltx P ps)),.str (Str.ofString "0")]):=af
   generalize upd H1 l2 (.lst [.str (tx (ltx P ps)),.str (Str.ofString "0")])=H2 at *
   cases ps with
   | nil=>exact ⟨_,rfl,rfl,.inr ⟨_,rfl,l2,_,_,_,rfl,rfl,SqL.of h2,ay (j:=1) rfl,q H2 (s1.trans s2)⟩⟩
   | cons p r=>
    have ne:(decide (V.str (tx (ltx P (p::r)))=V.str (Str.ofString "")))=false:=decide_eq_false λz=>by
     injection z with z
     exact ltx_ne (P:=P) (ps:=p::r) (by simp) (λp hp e he=>((mo p hp).2.2.2 e he).1) ((mf (b:=[])).mp z)
    have q2:=q H2 (s1.trans s2)
    rw [<- ltx_shS] at q2
    exact ⟨_,rfl,rfl,.inr ⟨_,rfl,l2,_,_,_,rfl,rfl,SqL.of h2,(by rw [ne]; exact ay (j:=0) rfl),q2⟩⟩
theorem nd_6:(["_law_letter", "_law_at"]:List Str).Nodup:=by decide +kernel
theorem nd_7:(["_law_part"]:List Str).Nodup:=by decide +kernel
def spProd:Sp:=λvs H Q _=>∃ (p:Addr) (L M a b:Int) (k:Nat),vs=[.int L,.int M,.ref p]/\1<=L/\L<=4/\0<=M/\M<=1000/\H p=some (.lst [.int a,.int b])/\lI a b k/\k<=100000/\
 ∀ (t:Addr) (es:List Int) (a' b':Int) (H':Hp),(es.length:Int)=L->(∀ e ∈ es,0<=e)->es.sum=M->H' t=some (.tup (es.map V.int))->H' p=some (.lst [.int a',.int b'])->lI a' b' (k+6)->(∀ c o,H c=some o->c ≠ p->H' c=some o)->Q (.ref t) H'
theorem lM:kX ["_law_letters", "_law_many", "_law_bag_here", "_law_found", "_law_left", "_law_letter", "_law_here"] ["_law_letters", "_law_many", "_law_bag_here"] (aj cL):=.i
theorem ok_product {f:Addr} {fd:FuncData} (F:Fun K "_law_product" "_law_product" cL f fd) (T:Blt mg) (mT:FnB P w K mg base 1 "_law_take" eP):kZ P w K mg base CX0 2 f fd ["_law_letters", "_law_many", "_law_bag_here"] spProd:=by
 refine F.o lM λ_ _ _ _ H _ Q _ hr h=>?_
 ·obtain ⟨p,L,M,a,b,k,rfl,hL1,hL4,hM0,hM1,hp,hb,hk,q⟩:=h
  refine ⟨_,(ae (ak (i:=3) lM.nd rfl (Or.inl rfl) (aV ag))
(ae (ak (i:=4) lM.nd rfl (Or.inl rfl) (pv 1))
(ae (bI PassesOwn.never rfl (bh rfl T.range (aa (am df (pv 0) ac) ag)) (bY (i:=5) lM.nd rfl (Or.inl rfl))
(ae (ak (i:=6) lM.nd rfl (Or.inl rfl) (aB mT hr.m (aa (pv 2) (aa (am bi (pv 4) ac) ag))))
(ae (bR (bmA K rfl (pv 3) (aa (pv 6) ag)))
(ah (ak (i:=4) lM.nd rfl (Or.inl rfl) (am df (pv 4) (pv 6)))))))
(ah (al (dB K T (am op_cat (pv 3) (aV (aa (pv 4) ag))))))))),?_⟩
  refine ⟨Nat.zero_le _,λl hl=>?_⟩
  have pl:p ≠ l:=aC hp hl
  refine ⟨_,rfl,?_⟩
  refine ⟨_,rfl,_,_,rfl,rfl,_,rfl,by omega,by omega,e7 (n:=(L-1).toNat) (λi σ H'=>∃ (es:List Int) (left a b:Int) (x5 x6:Option V),σ=[some (.int L),some (.int M),some (.ref p),some (.ref l),some (.int left),x5,x6]/\es.length=i/\(∀ e ∈ es,0<=e)/\0<=left/\(left<=M/\es.sum+left=M)/\
    H' l=some (.lst (es.map V.int))/\H' p=some (.lst [.int a,.int b])/\lI a b (k+i)/\(∀ c o,H c=some o->c ≠ p->H' c=some o)) ?_ ?_ ?_⟩
  ·refine ⟨[],M,a,b,none,none,rfl,rfl,λe he=>absurd he (by simp),hM0,⟨Int.le_refl _,by simp⟩,af,(by rw [au pl]; exact hp),hb,λc o e hc=>?_⟩
   rw [au (aC e hl)]
   exact e
  ·rintro i σ H2 hi ⟨es,left,a2,b2,x5,x6,rfl,hlen,hnn,hl0,⟨hlM,hsm⟩,hl2,hp2,hb2,kp⟩
   refine ⟨_,rfl,_,rfl,_,_,rfl,rfl,p,a2,b2,_,k+i,rfl,hp2,hb2,by omega,by omega,aP (by omega) (by omega),λr3 a3 b3 r30 r31 hb3=>?_⟩
   have hl3:(upd H2 p (.lst [.int a3,.int b3])) l=some (.lst (es.map V.int)):=by rw [au pl.symm]; exact hl2
   refine ⟨_,rfl,.inl ⟨rfl,_,SqL.of hl3⟩,_,rfl,l,_,_,rfl,rfl,hl3,gG (by rw [length_map]; omega),?_⟩
   refine ⟨_,rfl,_,rfl,_,_,rfl,rfl,?_⟩
   refine ⟨es++[r3],left-r3,a3,b3,_,_,rfl,by rw [length_append,length_singleton,hlen],λe he=>?_,by omega,⟨by omega,by rw [sum_append]; simp; omega⟩,by rw [af,map_append]; rfl,by rw [au pl,af],by rw [show k+(i+1)=k+i+1 by omega]; exact hb3,λc o e hc=>?_⟩
   ·rcases List.mem_append.mp he with z | z
    ·exact hnn e z
    ·rw [List.mem_singleton.mp z]; exact r30
   ·rw [au (aC e hl),au hc]
    exact kp c o e hc
  ·rintro σ H2 ⟨es,left,a2,b2,x5,x6,rfl,hlen,hnn,hl0,⟨hlM,hsm⟩,hl2,hp2,hb2,kp⟩
   refine ⟨_,rfl,_,rfl,(by show 1<=sizeLine; decide),λl1 n1=>?_⟩
   have s1:=kW.new (o:=.lst [.int left]) n1
   have h4:(10:Nat)<=sizeLine:=by decide
   refine ⟨l,l1,_,_,rfl,rfl,s1 _ _ hl2,af,by rw [length_map,length_singleton]; omega,λl2 n2=>?_⟩
   have s2:=kW.new (o:=.lst (es.map V.int++[.int left])) n2
   refine ⟨l2,_,rfl,SqL.of af,λt ht=>?_⟩
   have s3:=kW.new (o:=.tup (es.map V.int++[.int left])) ht
   have sm:=(s1.trans s2).trans s3
   refine q t (es++[left]) a2 b2 _ (by rw [length_append,length_singleton]; omega) (λe he=>?_) (by rw [sum_append]; simp; omega) (by rw [af,map_append]; rfl) (sm _ _ hp2) (hb2.mono (by omega)) (λc o e hc=>sm c o (kp c o e hc))
   rcases List.mem_append.mp he with z | z
   ·exact hnn e z
   ·rw [List.mem_singleton.mp z]; exact hl0
def spSome:Sp:=λvs H Q _=>∃ (p:Addr) (P L a b:Int) (k:Nat),vs=[.int P,.int L,.ref p]/\ll P/\1<=L/\L<=4/\H p=some (.lst [.int a,.int b])/\lI a b k/\k<=1000/\
 ∀ (l:Addr) (ts:List V) (ps:List az) (H':Hp),H l=none->H' l=some (.lst ts)->lg P H' ts ps->WrOk P L ps->(∀ c o,H c=some o->c ≠ p->H' c=some o)->Q (.ref l) H'
def fz (p:az):Bool:=decide (p.2.1.natAbs<10 ^ 30) && decide (p.2.2<10 ^ 30)
def Drn (P L:Int) (ps:List az):Prop:=PsOk P L ps/\∀ q ∈ ps,∀ e ∈ q.1,e<=12
theorem drn_sumOk {P L:Int} (hP:ll P) {ps:List az} (h:Drn P L ps) (hl:ps.length<=30):jS P ps:=by
 obtain ⟨B,b0,b1,hr⟩:=rw_list (z:=103) (ps:=ps) λp hp=>⟨(h.1 p hp).1,(h.1 p hp).2.1⟩
 have hM:(2:Nat) ^ 14<=2 ^ 103:=cy (by decide)
 have hB:B<=2 ^ 3090:=Nat.le_trans b1 (cy (by omega))
 refine ⟨λp hp=>⟨(h.1 p hp).1,(h.1 p hp).2.1.mono (by decide)⟩,λi p hp=>?_⟩
 have go:∀ i,i<=ps.length->∀ p ∈ acc P (ps.take i),Sz 4300 p.2:=λi hi p hp=>by
  have r:=acc_rw hP hM (λp hp=>⟨(h.1 p hp).1,hr p hp⟩) i hi p hp
  have r2:Rw B (2 ^ 108) p.2:=r.mono (Nat.dvd_refl _) (by
   have:i*2 ^ 103<=32*2 ^ 103:=Nat.mul_le_mul_right _ (by omega)
   exact Nat.le_trans this (by decide +kernel))
  refine (r2.sz b0 (Nat.one_le_two_pow) (z:=3200) ?_).mono (by decide)
  calc 2 ^ 108*B<=2 ^ 108*2 ^ 3090:=Nat.mul_le_mul_left _ hB
   _<2 ^ 3200:=by rw [<- Nat.pow_add]; exact Nat.pow_lt_pow_right (by decide) (by decide)
 by_cases hi:i<=ps.length
 ·exact go i hi p hp
 ·rw [take_of_length_le (by omega)] at hp
  exact go ps.length (Nat.le_refl _) p (by rw [take_length]; exact hp)
theorem drn_out {P L:Int} (hP:ll P) (hL4:L<=4) {ps out:List az} (h:Drn P L ps) (hl:ps.length<=30) (hs:lZ P ps out):(P ≠ 0->WrOk P L out)/\WrOk P L (out.filter fz)/\out.length<=30/\∀ p ∈ out,OkN P p.2:=by
 have hB:=hP.b
 have okm:∀ q ∈ acc P ps,OkN P q.2:=gv hB.1 hB.2.2 λq hq=>(h.1 q hq).1
 have ok:∀ q ∈ out,OkN P q.2:=λq hq=>okm q (hs.mem q hq)
 have fr:∀ q ∈ out,(q.1.length:Int)=L/\∀ e ∈ q.1,0<=e/\e<=12:=λq hq=>by
  obtain ⟨r,hr,e⟩:=acc_from q (hs.mem q hq)
  rw [<- e]
  exact ⟨(h.1 r hr).2.2.1,λx hx=>⟨(h.1 r hr).2.2.2 x hx,h.2 r hr x hx⟩⟩
 have ln:out.length<=30:=by
  have e1:=hs.1.length_eq
  have e2:=List.length_filter_le _root_.K.nz (acc P ps)
  have e3:=gj P ps
  omega
 have p110:(10:Nat) ^ 30<2 ^ 110:=by decide +kernel
 have p14:(2:Nat) ^ 14<=2 ^ 110:=cy (by decide)
 refine ⟨λh0=>⟨⟨hs.2,λq hq=>⟨ok q hq,?_,hs.nz q hq,(fr q hq).1,λe he=>((fr q hq).2 e he).1⟩⟩,hL4,by omega,λq hq e he=>by have:=(fr q hq).2 e he; omega⟩,⟨⟨hs.2.filter _,λq hq=>?_⟩,hL4,Nat.le_trans (List.length_filter_le _ _) (by omega),λq hq e he=>by have:=(fr q (List.mem_filter.mp hq).1).2 e he; omega⟩,ln,ok⟩
 ·rcases ok q hq with ⟨z,_⟩ | ⟨_,x0,x1,x2⟩
  ·exact absurd z h0
  ·exact ⟨by show q.2.1.natAbs<_; omega,by rw [x2]; show 1<_; omega⟩
 ·obtain ⟨hq,hf⟩:=List.mem_filter.mp hq
  unfold fz at hf
  rw [Bool.and_eq_true] at hf
  have f1:=of_decide_eq_true hf.1
  have f2:=of_decide_eq_true hf.2
  have d0:=(ok q hq).den
  refine ⟨ok q hq,⟨Nat.lt_trans f1 p110,?_⟩,hs.nz q hq,(fr q hq).1,λe he=>((fr q hq).2 e he).1⟩
  have e10:((10:Int) ^ 30)=(((10:Nat) ^ 30:Nat):Int):=by decide +kernel
  rw [e10] at f2
  omega
theorem le_sum:∀ {es:List Int} {e:Int},(∀ x ∈ es,0<=x)->e ∈ es->e<=es.sum
 | a::es,e,h,he=>by
  have hs:∀ l:List Int,(∀ x ∈ l,0<=x)->0<=l.sum:=λl=>by
   induction l with
   | nil=>intro _; exact Int.le_refl _
   | cons a l ih=>
    intro hl
    rw [sum_cons]
    have:=hl a (by simp)
    have:=ih λe he=>hl e (by simp [he])
    omega
  have h1:=hs es λx hx=>h x (by simp [hx])
  have h2:=h a (by simp)
  rw [sum_cons]
  rcases List.mem_cons.mp he with z | z
  ·omega
  ·have:=le_sum (λx hx=>h x (by simp [hx])) z
   omega
theorem jx {ps:List az} {g:az->Bool} {i:Nat} {p:az} (h:ps[i]? = some p):(ps.take (i+1)).filter g=(ps.take i).filter g++(if g p=true then [p] else []):=by
 rw [take_add_one,h,filter_append]
 congr 1
 show List.filter g [p]=_
 by_cases e:g p=true
 ·rw [if_pos e]; simp [e]
 ·rw [if_neg e]; simp [e]
theorem lG:kX ["_law_prime_here", "_law_letters", "_law_bag_here", "_law_parts", "_law_many", "_law_k", "_law_product_here", "_law_at", "_law_found"] ["_law_prime_here", "_law_letters", "_law_bag_here"] (aj eA):=.i
set_option maxHeartbeats 1000000 in
theorem ok_some {f:Addr} {fd:FuncData} (F:Fun K "_law_some" "_law_some" eA f fd) (T:Blt mg) (mT:FnB P w K mg base 1 "_law_take" eP) (pY:FnB P w K mg base 2 "_law_product" spProd) (qm:FnB P w K mg base 4 "_law_number" spNumber) (oV:FnB P w K mg base 4 "_law_sum" spLSum):kZ P w K mg base CX0 5 f fd ["_law_prime_here", "_law_letters", "_law_bag_here"] spSome:=by
 refine F.o lG λ_ _ _ _ H _ Q _ hr h=>?_
 ·obtain ⟨p,P,L,a,b,k,rfl,hP,hL1,hL4,hp,hb,hk,q⟩:=h
  have hB:=hP.b
  refine ⟨_,(ae (ak (i:=3) lG.nd rfl (Or.inl rfl) (aV ag))
(ae (ak (i:=4) lG.nd rfl (Or.inl rfl) (aB mT hr.m (aa (pv 2) (aa ac ag))))
(ae (aG (aq a9 (aB mT hr.m (aa (pv 2) (aa ac ag))) ac (ao _))
(ah (ak (i:=4) lG.nd rfl (Or.inl rfl) (aB mT hr.m (aa (pv 2) (aa ac ag)))))
aw)
(ae (bI PassesOwn.never rfl (bh rfl T.range (aa (pv 4) ag)) (bY (i:=5) lG.nd rfl (Or.inl rfl))
(ae (ak (i:=6) lG.nd rfl (Or.inl rfl) (aB pY hr.m (aa (pv 1) (aa (by exact (aB mT hr.m (aa (pv 2) (aa ac ag)))) (aa (pv 2) ag)))))
(ae (aG (aq a9 (aB mT hr.m (aa (pv 2) (aa ac ag))) ac (ao _))
(ae (ak (i:=7) lG.nd rfl (Or.inr rfl) (aB mT hr.m (aa (pv 2) (aa (pv 1) ag))))
(ah (ak (i:=6) lG.nd rfl (Or.inl rfl) (dB K T (by exact cv (N:=["_law_letter", "_law_at"]) (src:=[none,some 7]) rfl rfl rfl (by exact (bh rfl T.range (aa (pv 1) ag))) (λ_ _ _=>by exact ⟨by exact (cR (i:=0) nd_6 rfl rfl),cN,by exact (am bf ac (aI bO (by rfl) T.int br (aa (aU a9 (pv 0) (pv 1) (ao _)) ag)))⟩))))))
aw)
(ah (bR (bmA K rfl (pv 3) (aa (by exact (bE (aa (pv 6) (aa (by exact (aB qm hr.m (aa (pv 0) (aa (pv 2) (aa (aU a9 (aB mT hr.m (aa (pv 2) (aa ac ag))) ac (ao _)) ag))))) ag)))) ag)))))))
(ae (ak (i:=8) lG.nd rfl (Or.inl rfl) (aB oV hr.m (aa (pv 0) (aa (pv 3) ag))))
(ae (aG (aq cg (pv 0) ac (ao _))
(ah (al (pv 8)))
aw)
(ah (al (by exact cv (N:=["_law_part"]) (src:=[none]) rfl rfl rfl (by exact (bH K rfl (pv 8))) (λ_ _ _=>by exact ⟨by exact (cR (i:=0) nd_7 rfl rfl),(ii (PW.pt (pw_and (aq dY (jb T (aA (ar K rfl) (aA (ar K rfl) (pv 0) ac (λ_ _=>rfl)) ac (λ_ _=>rfl))) (am dM ac ac) (ao _)) (pw_and1 (aq dY (aA (ar K rfl) (aA (ar K rfl) (pv 0) ac (λ_ _=>rfl)) ac (λ_ _=>rfl)) (am dM ac ac) (ao _)))))),by exact (pv 0)⟩)))))))))),?_⟩
  refine ⟨Nat.zero_le _,λl hl=>?_⟩
  have pl:p ≠ l:=aC hp hl
  have lp:l ≠ p:=pl.symm
  refine ⟨_,rfl,p,a,b,9,k,rfl,(by rw [au pl]; exact hp),hb,by omega,by decide,aP (by decide) (by decide),λr a1 b1 r0 r1 hb1=>?_⟩
  dsimp only
  refine eZ (t:=tIfS _ _ _) (λσ' H'=>∃ (m a b:Int),σ'=[some (.int P),some (.int L),some (.ref p),some (.ref l),some (.int m),none,none,none,none]/\0<=m/\m<=30/\H' l=some (.lst [])/\H' p=some (.lst [.int a,.int b])/\lI a b (k+3)/\(∀ c o,H c=some o->c ≠ p->H' c=some o)) (λR hR=>?_) ?_
  ·refine ⟨_,rfl,p,a1,b1,8,_,rfl,af,hb1,by omega,by decide,aP (by decide) (by decide),λr2 a2 b2 r20 r21 hb2=>?_⟩
   rw [bX]
   refine ⟨rfl,_,rfl,aY (λh=>?_) (λh=>?_)⟩
   ·refine ⟨_,rfl,p,a2,b2,31,_,rfl,af,hb2,by omega,by decide,aP (by decide) (by decide),λr3 a3 b3 r30 r31 hb3=>?_⟩
    rw [bX]
    refine hR _ _ ⟨r3,a3,b3,rfl,r30,by omega,by rw [au lp,af],af,hb3,λc o e hc=>?_⟩
    rw [au hc,au (aC e hl)]
    exact e
   ·refine hR _ _ ⟨r,a2,b2,rfl,r0,by omega,by rw [au lp,af],af,hb2.mono (by omega),λc o e hc=>?_⟩
    rw [au hc,au (aC e hl)]
    exact e
  rintro σ' H1 ⟨m,a2,b2,rfl,m0,m1,hl1,hp1,hb2,kp1⟩
  refine ⟨_,rfl,m,rfl,by omega,by omega,dR (n:=m.toNat) (λi σ H'=>∃ (ts:List V) (ps:List az) (a b:Int) (x5 x6 x7:Option V),σ=[some (.int P),some (.int L),some (.ref p),some (.ref l),some (.int m),x5,x6,x7,none]/\H' l=some (.lst ts)/\lg P H' ts ps/\ps.length=i/\Drn P L ps/\H' p=some (.lst [.int a,.int b])/\lI a b (k+3+18*i)/\(∀ c o,H c=some o->c ≠ p->H' c=some o)) ⟨[],[],a2,b2,none,none,none,rfl,hl1,.nil,rfl,⟨λq hq=>absurd hq (by simp),λq hq=>absurd hq (by simp)⟩,hp1,hb2,kp1⟩ ?_ ?_⟩
  ·rintro i σ H2 hi ⟨ts,ps,a3,b3,x5,x6,x7,rfl,hl2,pr2,hlen,hok,hp2,hb3,kp2⟩ N0 B0 hN0
   have hi30:i<30:=by omega
   have np2:∀ t xs,H2 t=some (.tup xs)->t ≠ p:=λt xs e=>bU e hp2 (by intro z; cases z)
   refine ⟨_,rfl,_,rfl,p,a3,b3,13,_,rfl,hp2,hb3,by omega,by decide,aP (by decide) (by decide),λr4 a4 b4 r40 r41 hb4=>?_⟩
   refine ⟨_,rfl,p,L,r4,a4,b4,_,rfl,hL1,hL4,r40,by omega,af,hb4,by omega,λt es a5 b5 H3 hlen3 hnn hsum ht hp3 hb5 kp3=>?_⟩
   have k3:∀ c o,H2 c=some o->c ≠ p->H3 c=some o:=λc o e hc=>kp3 c o (by rw [au hc]; exact e) hc
   have np3:∀ t xs,H3 t=some (.tup xs)->t ≠ p:=λt xs e=>bU e hp3 (by intro z; cases z)
   have hl3:=k3 l _ hl2 lp
   have pr3:lg P H3 ts ps:=pr2.mono λt xs e=>k3 t _ e (np2 t xs e)
   have e12:∀ e ∈ es,0<=e/\e<=12:=λe he=>⟨hnn e he,by have:=le_sum hnn he; omega⟩
   dsimp only
   refine eZ (t:=tIfS _ _ _) (λσ' H'=>∃ (c:Addr) (es:List Int) (a b:Int) (x7:Option V),σ'=[some (.int P),some (.int L),some (.ref p),some (.ref l),some (.int m),some (.int (0+(i:Int))),some (.ref c),x7,none]/\H' c=some (.tup (es.map V.int))/\(es.length:Int)=L/\(∀ e ∈ es,0<=e/\e<=12)/\H' l=some (.lst ts)/\lg P H' ts ps/\H' p=some (.lst [.int a,.int b])/\lI a b (k+3+18*i+9)/\(∀ c o,H c=some o->c ≠ p->H' c=some o)) (λR hR=>?_) ?_
   ·refine ⟨_,rfl,p,a5,b5,4,_,rfl,hp3,hb5,by omega,by decide,aP (by decide) (by decide),λr6 a6 b6 r60 r61 hb6=>?_⟩
    have k6:∀ c o,H3 c=some o->c ≠ p->(upd H3 p (.lst [.int a6,.int b6])) c=some o:=λc o e hc=>by rw [au hc]; exact e
    refine ⟨rfl,_,rfl,aY (λh=>?_) (λh=>?_)⟩
    ·refine ⟨_,rfl,_,rfl,p,a6,b6,L,_,rfl,af,hb6,by omega,by omega,aP (by omega) (by omega),λr7 a7 b7 r70 r71 hb7=>?_⟩
     rw [bX]
     have k7:∀ c o,H3 c=some o->c ≠ p->(upd H3 p (.lst [.int a7,.int b7])) c=some o:=λc o e hc=>by rw [au hc]; exact e
     have hp7:(upd H3 p (.lst [.int a7,.int b7])) p=some (.lst [.int a7,.int b7]):=af
     generalize upd H3 p (.lst [.int a7,.int b7])=H7 at *
     refine ⟨_,rfl,L,rfl,by omega,by omega,?_⟩
     refine ff (rest:=[some (.int r7)]) rfl (λj=>.int (if (j:Int)=r7 then 12 else 0)) (by omega) (λj H8 R8 hj s8 hR8=>?_) λacc H8 nacc s8 hacc=>?_
     ·refine ⟨_,rfl,_,rfl,rfl,.inr ⟨_,rfl,_,_,rfl,rfl,.inl ⟨by decide,by decide⟩,?_⟩⟩
      have e:12*(if (decide (V.int (0+(j:Int))=V.int r7))=true then (1:Int) else 0)=if (j:Int)=r7 then 12 else 0:=by
       rw [Int.zero_add]
       by_cases hj7:(j:Int)=r7
       ·rw [if_pos hj7,decide_eq_true (congrArg V.int hj7)]
        rfl
       ·rw [if_neg hj7,decide_eq_false (show ¬ V.int (j:Int)=V.int r7 from λz=>hj7 (by injection z))]
        rfl
      show R8 (V.int (12*(if (decide (V.int (0+(j:Int))=V.int r7))=true then (1:Int) else 0))) H8
      rw [e]
      exact hR8 H8 (kW.refl _)
     ·have em:(List.range L.toNat).map (λj:Nat=>V.int (if (j:Int)=r7 then 12 else 0))=((List.range L.toNat).map λj:Nat=>(if (j:Int)=r7 then (12:Int) else 0)).map V.int:=by rw [map_map]; rfl
      rw [em] at hacc
      refine ⟨acc,_,rfl,SqL.of hacc,λt9 n9=>?_⟩
      have s9:=s8.trans (kW.new (o:=.tup (((List.range L.toNat).map λj:Nat=>(if (j:Int)=r7 then (12:Int) else 0)).map V.int)) n9)
      refine hR _ _ ⟨t9,(List.range L.toNat).map λj:Nat=>(if (j:Int)=r7 then (12:Int) else 0),a7,b7,_,rfl,af,by rw [length_map,length_range]; omega,λe he=>?_,s9 _ _ (k7 l _ hl3 lp),pr3.mono λt xs e=>s9 _ _ (k7 t _ e (np3 t xs e)),s9 _ _ hp7,hb7.mono (by omega),λc o e hc=>s9 _ _ (k7 c o (k3 c o (kp2 c o e hc) hc) hc)⟩
      obtain ⟨j,_,rfl⟩:=List.mem_map.mp he
      split<;>omega
    ·exact hR _ _ ⟨t,es,a6,b6,_,rfl,k6 t _ ht (np3 t _ ht),hlen3,e12,k6 l _ hl3 lp,pr3.mono λt xs e=>k6 t _ e (np3 t xs e),af,hb6.mono (by omega),λc o e hc=>k6 c o (k3 c o (kp2 c o e hc) hc) hc⟩
   rintro σ' H4 ⟨c,es',a6,b6,y7,rfl,hc,hle,hnn',hl4,pr4,hp4,hb6,kp4⟩
   have lts:ts.length=ps.length:=Paired.length pr4
   refine ⟨_,rfl,.inl ⟨rfl,_,SqL.of hl4⟩,_,rfl,_,rfl,_,rfl,_,rfl,p,a6,b6,4,_,rfl,hp4,hb6,by omega,by decide,aP (by decide) (by decide),λr5 a7 b7 r50 r51 hb7=>?_⟩
   refine ⟨rfl,p,P,a7,b7,_,_,rfl,hP,af,hb7,by omega,λv a8 b8 H6 hv hp6 hb8 kp6=>?_⟩
   have k6:∀ c o,H4 c=some o->c ≠ p->H6 c=some o:=λc o e hc=>kp6 c o (by rw [au hc]; exact e) hc
   have np4:∀ t xs,H4 t=some (.tup xs)->t ≠ p:=λt xs e=>bU e hp4 (by intro z; cases z)
   refine ⟨(by show 2<=sizeLine; decide),λt7 n7=>?_⟩
   have s7:=kW.new (o:=.tup [.ref c,v]) n7
   have hl7:=s7 _ _ (k6 l _ hl4 lp)
   refine ⟨l,_,_,rfl,rfl,hl7,by rw [sizeLine_eq]; omega,?_⟩
   obtain ⟨x,ax,ox,sx⟩:=hv.at_ hP
   have k8:∀ d o,(upd H6 t7 (.tup [.ref c,v])) d=some o->d ≠ l->upd (upd H6 t7 (.tup [.ref c,v])) l (.lst (ts++[.ref t7])) d=some o:=λd o e hd=>by rw [au hd]; exact e
   have tk8:∀ d xs,(upd H6 t7 (.tup [.ref c,v])) d=some (.tup xs)->upd (upd H6 t7 (.tup [.ref c,v])) l (.lst (ts++[.ref t7])) d=some (.tup xs):=λd xs e=>k8 d _ e (bU e hl7 (by intro z; cases z))
   have hc6:=k6 c _ hc (np4 c _ hc)
   refine hN0 _ _ ⟨ts++[.ref t7],ps++[(es',x)],a8,b8,_,_,_,rfl,af,?_,by rw [length_append,hlen]; rfl,⟨λq hq=>?_,λq hq=>?_⟩,k8 p _ (s7 _ _ hp6) pl,hb8.mono (by omega),λd o e hd=>k8 d o (s7 _ _ (k6 d o (kp4 d o e hd) hd)) (aC e hl)⟩
   ·exact (lg.snoc (p:=(es',x)) ⟨t7,c,v,rfl,af,s7 _ _ hc6,ax.same s7⟩ ((pr4.mono λt xs e=>k6 t _ e (np4 t xs e)).mono λt xs e=>s7 _ _ e)).mono tk8
   ·rcases List.mem_append.mp hq with z | z
    ·exact hok.1 q z
    ·rw [List.mem_singleton.mp z]
     exact ⟨ox,sx,hle,λe he=>(hnn' e he).1⟩
   ·rcases List.mem_append.mp hq with z | z
    ·exact hok.2 q z
    ·rw [List.mem_singleton.mp z]
     exact λe he=>(hnn' e he).2
  ·rintro σ H2 ⟨ts,ps,a3,b3,x5,x6,x7,rfl,hl2,pr2,hlen,hok,hp2,hb3,kp2⟩
   have lps:ps.length<=30:=by omega
   refine ⟨_,rfl,_,rfl,l,P,ts,ps,rfl,hP,hl2,pr2,by omega,drn_sumOk hP hok lps,λd rs out H3 nd s3 hd pr3 is3=>?_⟩
   obtain ⟨w1,w2,lo,oko⟩:=drn_out hP hL4 hok lps is3
   have nd0:H d=none:=by
    cases hh:H d with
    | none=>rfl
    | some o=>
     have:d ≠ p:=λz=>by rw [z,hp2] at nd; cases nd
     rw [kp2 d o hh this] at nd
     cases nd
   refine ⟨_,rfl,_,_,rfl,rfl,_,rfl,aY (λh=>?_) (λh=>?_)⟩
   ·have h0:P ≠ 0:=λz=>by have:=of_decide_eq_true h; omega
    exact ⟨_,rfl,q d rs out H3 nd0 hd pr3 (w1 h0) λc o e hc=>s3 _ _ (kp2 c o e hc)⟩
   ·have h0:P=0:=Decidable.byContradiction λz=>h (decide_eq_true (by omega))
    have lr:rs.length=out.length:=Paired.length pr3
    refine ⟨_,rfl,d,rfl,⟨_,SqL.of hd⟩,eY (n:=rs.length) (σ0:=[none]) rfl (λacc i zs σ H'=>(∃ u:Option V,σ=[u])/\kW H3 H'/\lg P H' zs ((out.take i).filter fz)) (by rw [sizeLine_eq]; omega) (λacc hacc=>⟨⟨none,rfl⟩,kW.new hacc,.nil⟩) ?_ ?_ ?_ ?_⟩
    ·rintro acc i zs σ H' hacc hi hz ⟨⟨u,rfl⟩,sm',_⟩
     exact ⟨rs,_,SqL.of (sm' _ _ hd),getElem?_eq_getElem hi⟩
    ·rintro acc zs σ H' hacc hz ⟨⟨u,rfl⟩,sm',_⟩
     exact ⟨rs,SqL.of (sm' _ _ hd),Nat.le_refl _⟩
    ·rintro acc i zs σ H9 x' H' hacc hi hz hzl ⟨⟨u,rfl⟩,sm',pr⟩ ⟨rfl,hx⟩
     have hx:=hx rs (SqL.of (sm' _ _ hd))
     obtain ⟨p1,ep,t,kt,u1,rfl,ht,hkt,hu1⟩:=pr3.at_ hx
     rcases hu1 with ⟨_,tu,rfl,htu⟩ | ⟨z,_⟩
     ·have d0:=(oko p1 (mem_of_getElem? ep)).den
      have hab:(if p1.2.1<0 then -p1.2.1 else p1.2.1)=(p1.2.1.natAbs:Int):=by split<;>omega
      have e10:((10:Int) ^ 30)=(((10:Nat) ^ 30:Nat):Int):=by decide +kernel
      refine ⟨_,rfl,t,_,_,_,rfl,rfl,SqT.of (sm' _ _ ht),ay (j:=1) rfl,tu,_,_,_,rfl,rfl,SqT.of (sm' _ _ htu),ay (j:=0) rfl,_,rfl,_,_,rfl,rfl,⟨by decide,by decide,by decide⟩,_,_,rfl,rfl,_,rfl,?_⟩
      have eT:(10:Int) ^ Int.toNat 30=(((10:Nat) ^ 30:Nat):Int):=by decide +kernel
      have k1:(decide ((if p1.2.1<0 then -p1.2.1 else p1.2.1)<(10:Int) ^ Int.toNat 30))=decide (p1.2.1.natAbs<10 ^ 30):=by
       refine decide_eq_decide.mpr ?_
       rw [hab,eT]
       exact Int.ofNat_lt
      have k2:(decide (p1.2.2<(10:Int) ^ Int.toNat 30))=decide (p1.2.2<10 ^ 30):=by
       refine decide_eq_decide.mpr ?_
       rw [eT,e10]
      have fe:fz p1=(decide (p1.2.1.natAbs<10 ^ 30) && decide (p1.2.2<10 ^ 30)):=rfl
      have no:fz p1=false->∃ zs,H' acc=some (HO.lst zs)/\zs.length<=i+1/\(∃ u_1,[u].set 0 (some (V.ref t))=[u_1])/\kW H3 H'/\lg P H' zs ((out.take (i+1)).filter fz):=λhf=>by
       refine ⟨zs,hz,by omega,⟨_,rfl⟩,sm',?_⟩
       rw [jx ep,if_neg (by rw [hf]; decide),append_nil]
       exact pr
      refine aY (λh1=>?_) (λh1=>?_)
      ·rw [k1] at h1
       refine ⟨_,rfl,t,_,_,_,rfl,rfl,SqT.of (sm' _ _ ht),ay (j:=1) rfl,tu,_,_,_,rfl,rfl,SqT.of (sm' _ _ htu),ay (j:=1) rfl,_,_,rfl,rfl,⟨by decide,by decide,by decide⟩,_,_,rfl,rfl,_,rfl,aY (λh2=>?_) (λh2=>?_)⟩
       ·rw [k2] at h2
        have hf:fz p1=true:=by rw [fe,h1,h2]; rfl
        have keep:∀ c u,H' c=some u->c ≠ acc->upd H' acc (.lst (zs++[.ref t])) c=some u:=λc u e hc=>by rw [au hc]; exact e
        have tk:∀ c xs,H' c=some (.tup xs)->upd H' acc (.lst (zs++[.ref t])) c=some (.tup xs):=λc xs e=>keep c _ e (bU e hz (by intro z; cases z))
        refine ⟨_,rfl,zs,hz,by rw [sizeLine_eq]; omega,_,af,by rw [length_append,length_singleton]; omega,⟨_,rfl⟩,sm'.put hacc,?_⟩
        rw [jx ep,if_pos hf]
        exact (lg.snoc (p:=p1) ⟨t,kt,.ref tu,rfl,sm' _ _ ht,sm' _ _ hkt,.inl ⟨h0,tu,rfl,sm' _ _ htu⟩⟩ pr).mono tk
       ·rw [k2] at h2
        exact no (by rw [fe,Bool.eq_false_iff.mpr h2,Bool.and_false])
      ·rw [k1] at h1
       exact be (no (by rw [fe,Bool.eq_false_iff.mpr h1,Bool.false_and]))
     ·exact absurd h0 z
    ·rintro acc zs σ H' hacc hz hzl ⟨_,sm',pr⟩
     rw [lr,take_length] at pr
     refine q acc zs _ H' ?_ hz pr w2 λc o e hc=>sm' _ _ (s3 _ _ (kp2 c o e hc))
     cases hh:H acc with
     | none=>rfl
     | some o=>
      have:acc ≠ p:=λz=>by rw [z,s3 _ _ hp2] at hacc; cases hacc
      rw [s3 _ _ (kp2 acc o hh this)] at hacc
      cases hacc
def jd (CG CN:Addr):Sp:=λvs H Q E=>∃ (g dx:Addr) (v:V) (L:Int),vs=[.ref g,v,.int L]/\H g=some (.ins CG dx [])/\(¬ (1<=L/\L<=4)->E (.ref CN) none H)/\
 (1<=L->L<=4->Q .non (upd (upd H g (.ins CG dx [("kind",v)])) g (.ins CG dx [("kind",v),("width",.int L)])))
theorem gC:kX ["self", "numbers", "letters"] ["self", "numbers", "letters"] (aj bb):=.i
theorem ok_ginit {f CG mZ:Addr} {fd:FuncData} {tk:Tok} (F:Fun K "__init__" "Ring.__init__" bb f fd) (cl:Cls K CG) (nK:lO K CG "kind") (nW:lO K CG "width") (cMost:mg "MOST_LETTERS"=some (.int 4 tk)) (ANoRing:mg "NoRing"=some (.ref mZ)) (xc:XCl K mZ) :
  kZ P w K mg base (CXE P w) 2 f fd ["self", "numbers", "letters"] (jd CG mZ):=by
 refine F.okX gC (λvs H Q E h=>?_) (λcdv A outer s H vs Q E hr h=>?_)
 ·obtain ⟨g,dx,v,L,rfl,_⟩:=h
  rfl
 ·obtain ⟨g,dx,v,L,rfl,hg,qn,qy⟩:=h
  refine ⟨_,(ae (aG (PW.pt (dw (aq dY (pv 2) ac (ao _)) (dW (aq cg (pv 2) (cQ (v:=.int 4) rfl cMost ⟨_,rfl⟩) (ao _)))))
(ah (iM xc.ek ANoRing (aa aE ag)))
aw)
(ae (ps_fld (pv 0) (pv 1) rfl)
(ah (ps_fld (pv 0) (pv 2) rfl)))),?_⟩
  have bad:¬ (1<=L/\L<=4)->E (.ref mZ) none H:=qn
  refine ⟨_,rfl,_,_,rfl,rfl,_,rfl,aY (λh=>?_) (λh=>?_)⟩
  ·have h1:L<1:=of_decide_eq_true h
   exact bG ⟨(by show 1<=sizeLine; decide),bad (by omega)⟩
  ·have h1:¬ L<1:=λz=>h (decide_eq_true z)
   refine ⟨_,rfl,_,_,rfl,rfl,_,rfl,aY (λh=>?_) (λh=>?_)⟩
   ·have h4:L > 4:=of_decide_eq_true h
    exact ⟨(by show 1<=sizeLine; decide),bad (by omega)⟩
   ·have h4:¬ L > 4:=λz=>h (decide_eq_true z)
    exact ⟨_,rfl,_,rfl,g,CG,dx,_,rfl,hg,cl,nK,(by decide),_,rfl,_,rfl,g,CG,dx,_,rfl,af,cl,nW,(by show (1:Nat)<1000; decide),qy (by omega) (by omega)⟩
def spTold (CF CR CG:Addr):Sp:=λvs H Q _=>∃ (g x l:Addr) (P L:Int) (ts:List V) (ps:List az),vs=[.ref g,.int P,.int L,.ref l]/\ll P/\dU CG H g x L/\lJ CF CR H x P/\H l=some (.lst ts)/\lg P H ts ps/\WrOk P L ps/\∀ H',kW H H'->Q (.bl true) H'
theorem lQ:kX ["_law_ring", "_law_prime_here", "_law_letters", "_law_one", "_law_text", "_law_handed", "_law_told_here", "_law_k", "_law_found"] ["_law_ring", "_law_prime_here", "_law_letters", "_law_one"] (aj eB):=.i
set_option maxHeartbeats 1000000 in
theorem ok_told {f CF CR CG:Addr} {fd:FuncData} (F:Fun K "_law_told" "_law_told" eB f fd) (T:Blt mg) (nstr:mg "str" = none) (pF:FnB P w K mg base 2 "_law_show_sum" spLShS) (pG:FnB P w K mg base 5 "_law_sum_like" (spSLike K)) (oW:FnB P w K mg base 4 "show_sum" (spShS CF CR CG)) (rK:FnB P w K mg base 7 "read_sum" (spRS CF CR CG)):kZ P w K mg base CX0 8 f fd ["_law_ring", "_law_prime_here", "_law_letters", "_law_one"] (spTold CF CR CG):=by
 refine F.o lQ λ_ _ _ _ H _ Q _ hr h=>?_
 ·obtain ⟨g,x,l,P,L,ts,ps,rfl,hP,hg,hN,hl,hps,hw,q⟩:=h
  obtain ⟨dx,hg'⟩:=id hg
  have mo:=hw.mono
  refine ⟨_,(ae (ak (i:=4) lQ.nd rfl (Or.inl rfl) (aB pF hr.m (aa (pv 1) (aa (pv 3) ag))))
(ae (ak (i:=5) lQ.nd rfl (Or.inl rfl) (kpl_list K T (pv 3)))
(ae (ak (i:=6) lQ.nd rfl (Or.inl rfl) (aB oW hr.m (aa (pv 0) (aa (pv 5) ag))))
(ae (aG (PW.pt (dw (bK (bd (eK K T (pv 6) nstr ba))) (dw (aq eM (pv 6) (pv 4) (ao _)) (dW (aq (kneD K rfl hr.units) (pv 5) (pv 3) (ao _))))))
(ah (al cW))
aw)
(ae (aG (aq cg (pl_lenT T (pv 4)) ac (ao _))
(ah (al cW))
aw)
(ae (bI PassesOwn.never rfl (bh rfl T.range (aa ac ag)) (bY (i:=7) lQ.nd rfl (Or.inl rfl))
(ae (ak (i:=8) lQ.nd rfl (Or.inl rfl) (aB rK hr.m (aa (pv 0) (aa (pv 4) ag))))
(ae (aG (PW.pt (dw (bK (bd (aB pG hr.m (aa (pv 1) (aa (pv 2) (aa (pv 8) ag)))))) (dW (aq (kneD K rfl hr.units) (pv 8) (pv 3) (ao _)))))
(ah (al cW))
aw)
(ah (bR (bmA K rfl (pv 8) (aa pe_non ag)))))))
(ah (al cW)))))))),?_⟩
  refine ⟨_,rfl,_,rfl,l,P,L,ts,ps,rfl,hP,hl,hps,hw,λH1 s1=>?_⟩
  refine ⟨_,rfl,l,_,rfl,.inl (SqL.of (s1 _ _ hl)),λl2 n2=>?_⟩
  have s2:=s1.trans (kW.new (o:=.lst ts) n2)
  have h2:(upd H1 l2 (.lst ts)) l2=some (.lst ts):=af
  generalize upd H1 l2 (.lst ts)=H2 at *
  refine ⟨_,rfl,_,rfl,g,x,l2,P,L,ts,ps,rfl,hP,⟨dx,s2 _ _ hg'⟩,hN.mono λo e=>s2 _ _ e,h2,hps.mono λt xs e=>s2 _ _ e,hw.2.2.1,mo,λH3 s3=>?_⟩
  have s23:=s2.trans s3
  refine ⟨_,rfl,_,true,.str _,rfl,_,rfl,be ⟨_,rfl,_,rfl,rfl,_,rfl,?_⟩⟩
  rw [decide_eq_true rfl]
  refine be ⟨_,rfl,_,rfl,dS P ps,dS P ps,g6 (s3 _ _ h2) (hps.mono λt xs e=>s23 _ _ e),g6 (s23 _ _ hl) (hps.mono λt xs e=>s23 _ _ e),bC _ _,bC _ _,_,rfl,?_⟩
  rw [eqv_dS]
  refine be ?_
  have lS:=shS_B hw.2.2.1 mo
  refine ⟨_,rfl,_,rfl,by rw [aF,sizeLine_eq]; omega,_,_,rfl,rfl,_,rfl,aY (λh=>?_) (λh=>?_)⟩
  ·exact q H3 s23
  ·refine ⟨2,rfl,by decide,by decide,dR (n:=2) (λi σ H'=>∃ x7 x8:Option V,σ=[some (.ref g),some (.int P),some (.int L),some (.ref l),some (.str (tx (shS P ps))),some (.ref l2),some (.str (tx (shS P ps))),x7,x8]/\kW H H') ⟨none,none,rfl,s23⟩ ?_ ?_⟩
   ·rintro i σ H4 hi ⟨x7,x8,rfl,s4⟩ N0 B0 hN0
    refine ⟨_,rfl,_,rfl,g,x,P,L,ps,rfl,hP,⟨dx,s4 _ _ hg'⟩,hN.mono λo e=>s4 _ _ e,hw,λd rs H5 nd s5 hd pr=>?_⟩
    have s45:=s4.trans s5
    refine ⟨_,rfl,_,rfl,_,rfl,d,P,L,rs,ps,rfl,hP,hd,pr,hw.2.2.1,hw.1.sumOk (by decide),hw.1.self,λq hq=>⟨(hw.1.2 q hq).2.2.2.1,by have:=(mo q hq).2.2.1; omega,(hw.1.2 q hq).2.2.2.2⟩,λH6 s6=>?_⟩
    have s56:=s45.trans s6
    refine ⟨true,rfl,be ⟨_,rfl,_,rfl,dS P ps,dS P ps,g6 (s6 _ _ hd) (pr.mono λt xs e=>s6 _ _ e),g6 (s56 _ _ hl) (hps.mono λt xs e=>s56 _ _ e),bC _ _,bC _ _,_,rfl,?_⟩⟩
    rw [eqv_dS]
    refine be ?_
    have lr:rs.length=ps.length:=Paired.length pr
    have hn:=hw.2.2.1
    refine ⟨_,rfl,.inl ⟨rfl,_,SqL.of (s6 _ _ hd)⟩,d,_,_,rfl,rfl,s6 _ _ hd,by rw [sizeLine_eq]; omega,hN0 _ _ ⟨_,_,rfl,s56.put (s4.free nd)⟩⟩
   ·rintro σ H4 ⟨x7,x8,rfl,s4⟩
    exact q H4 s4
theorem nd_8:(["_law_letter"]:List Str).Nodup:=by decide +kernel
theorem nd_9:(["_law_here", "_law_letter"]:List Str).Nodup:=by decide +kernel
theorem nd_10:(["_law_there", "_law_ring", "_law_prime_here", "_law_letters"]:List Str).Nodup:=by decide +kernel
def spLaw (K:Frag):Sp:=λvs H Q _=>∃ (a:Addr) (ns:List Int),vs=[.ref a]/\SqL K H a (ns.map V.int)/\ns.length<=63/\∀ H',Q (.bl true) H'
theorem wrOk_one {P L:Int} (hP:ll P) (hL:L<=4) {es:List Int} (h1:(es.length:Int)=L) (h2:∀ e ∈ es,0<=e/\e<=1):WrOk P L [(es,(1,1))]:=by
 refine ⟨⟨List.pairwise_singleton _ _,λp hp=>?_⟩,hL,by show 1<=60; decide,λp hp e he=>?_⟩
 ·rw [List.mem_singleton.mp hp]
  exact ⟨iW hP,⟨Nat.one_lt_two_pow (by decide),Nat.one_lt_two_pow (by decide)⟩,rfl,h1,λe he=>(h2 e he).1⟩
 ·rw [List.mem_singleton.mp hp] at he
  have:=h2 e he
  omega
def AskR (P L:Int) (H:Hp) (v:V) (ps:List az):Prop:=∃ (l:Addr) (ts:List V),v=.ref l/\H l=some (.lst ts)/\lg P H ts ps/\WrOk P L ps
theorem AskR.same {P L:Int} {H H':Hp} {v:V} {ps:List az} (s:kW H H') (h:AskR P L H v ps):AskR P L H' v ps:=by
 obtain ⟨l,ts,e,h1,h2,h3⟩:=h
 exact ⟨l,ts,e,s _ _ h1,h2.mono λt xs e=>s _ _ e,h3⟩
theorem AskR.put {P L:Int} {H:Hp} {d:Addr} {ys zs:List V} {v:V} {ps:List az} (hd:H d=some (.lst ys)) (hv:v ≠ .ref d) (h:AskR P L H v ps):AskR P L (upd H d (.lst zs)) v ps:=by
 obtain ⟨l,ts,rfl,h1,h2,h3⟩:=h
 have hl:l ≠ d:=λz=>hv (by rw [z])
 refine ⟨l,ts,rfl,by rw [au hl]; exact h1,h2.mono λt xs e=>?_,h3⟩
 rw [au (bU e hd (by intro z; cases z))]
 exact e
theorem l8:kX ["_law_script", "_law_k", "_law_bag_here", "_law_prime_here", "_law_letters", "_law_ring", "_law_one", "_law_some_here", "_law_letter"] ["_law_script"] (aj s_law):=.i
set_option maxHeartbeats 4000000 in
theorem ok_law {f CF CR CG mZ:Addr} {fd:FuncData} (F:Fun K "law" "law" s_law f fd) (T:Blt mg) (qD:FnB P w K mg base 2 "_law_bag" (spBag K)) (mT:FnB P w K mg base 1 "_law_take" eP) (qI:FnB P w K mg base 2 "_law_prime" spPrime) (pZ:FnB P w K mg base 4 "_law_numbers" (spNums CF CR)) (vA:MkBX P w K mg base 2 CG "Ring" (jd CG mZ)) (rD:FnB P w K mg base 5 "_law_some" spSome) (qg:FnB P w K mg base 8 "_law_told" (spTold CF CR CG)) (nO:FnB P w K mg base 1 "_law_unit" spUnit):kZ P w K mg base CX0 9 f fd ["_law_script"] (spLaw K):=by
 refine F.o l8 λ_ _ _ _ H _ Q _ hr h=>?_
 ·obtain ⟨a,ns,rfl,hS,hlen,q⟩:=h
  refine ⟨_,(ae (bI PassesOwn.never rfl (bh rfl T.range (aa ac ag)) (bY (i:=1) l8.nd rfl (Or.inl rfl))
(ae (ak (i:=2) l8.nd rfl (Or.inl rfl) (aB qD hr.m (aa (pv 0) (aa (by exact (am bf ac (pv 1))) ag))))
(ae (ak (i:=3) l8.nd rfl (Or.inr rfl) (aB qI hr.m (aa (pv 2) ag)))
(ae (ak (i:=4) l8.nd rfl (Or.inr rfl) (am bi ac (aB mT hr.m (aa (pv 2) (aa ac ag)))))
(ae (ak (i:=5) l8.nd rfl (Or.inr rfl) (pe_mkX vA hr.m bN (aa (by exact (aB pZ hr.m (aa (pv 3) ag))) (aa (pv 4) ag))))
(ah (aG (bK (bd (aB qg hr.m (aa (pv 5) (aa (pv 3) (aa (pv 4) (aa (by exact (aB rD hr.m (aa (pv 3) (aa (pv 4) (aa (by exact (aB qD hr.m (aa (pv 0) (aa (by exact (am bi (am bf ac (pv 1)) ac)) ag)))) ag))))) ag)))))))
(ah (al cW))
aw)))))))
(ae (ak (i:=6) l8.nd rfl (Or.inl rfl) (dB K T (by exact cv (N:=["_law_letter"]) (src:=[none]) rfl rfl rfl (by exact (bh rfl T.range (aa (pv 4) ag))) (λ_ _ _=>by exact ⟨by exact (cR (i:=0) nd_8 rfl rfl),cN,by exact ac⟩))))
(ae (ak (i:=7) l8.nd rfl (Or.inl rfl) (aV (aa (by exact (aV ag)) (aa (by exact (aV (aa (by exact (bE (aa (pv 6) (aa (by exact (aB nO hr.m (aa (pv 3) ag))) ag)))) ag))) ag))))
(ae (bI PassesOwn.never rfl (bh rfl T.range (aa (pv 4) ag)) (bY (i:=8) l8.nd rfl (Or.inr rfl))
(ah (bR (bmA K rfl (pv 7) (aa (by exact (aV (aa (by exact (bE (aa (by exact (dB K T (by exact cv (N:=["_law_here", "_law_letter"]) (src:=[none,some 8]) rfl rfl rfl (by exact (bh rfl T.range (aa (pv 4) ag))) (λ_ _ _=>by exact ⟨by exact (cR (i:=0) nd_9 rfl rfl),cN,by exact (aI bO (by rfl) T.int br (aa (aU a9 (pv 0) (pv 1) (ao _)) ag))⟩)))) (aa (by exact (aB nO hr.m (aa (pv 3) ag))) ag)))) ag))) ag)))))
(ah (al (ia K T (by exact cv (N:=["_law_there", "_law_ring", "_law_prime_here", "_law_letters"]) (src:=[none,some 5,some 3,some 4]) rfl rfl rfl (by exact (bH K rfl (pv 7))) (λ_ _ _=>by exact ⟨by exact (cR (i:=0) nd_10 rfl rfl),cN,by exact (aB qg hr.m (aa (pv 1) (aa (pv 2) (aa (pv 3) (aa (pv 0) ag)))))⟩)) false))))))),?_⟩
  refine ⟨4,rfl,by decide,by decide,dR (n:=4) (λi σ H'=>∃ x1 x2 x3 x4 x5:Option V,σ=[some (.ref a),x1,x2,x3,x4,x5,none,none,none]/\kW H H'/\(0<i->∃ (P L:Int) (g x:Addr),x3=some (.int P)/\x4=some (.int L)/\x5=some (.ref g)/\ll P/\1<=L/\L<=4/\dU CG H' g x L/\lJ CF CR H' x P)) ⟨none,none,none,none,none,rfl,kW.refl H,λz=>absurd z (by decide)⟩ ?_ ?_⟩
  ·rintro i σ H0 hi ⟨x1,x2,x3,x4,x5,rfl,s0,_⟩ N0 B0 hN0
   refine ⟨_,rfl,_,rfl,_,_,rfl,rfl,.inl ⟨by decide,by decide⟩,a,ns,2*(0+(i:Int)),rfl,s0.seq hS,hlen,by omega,by omega,λp a1 b1 np hb1=>?_⟩
   have hp0:(upd H0 p (.lst [.int a1,.int b1])) p=some (.lst [.int a1,.int b1]):=af
   have sp:=kW.new (o:=.lst [.int a1,.int b1]) np
   generalize upd H0 p (.lst [.int a1,.int b1])=H1 at *
   have npH:H p=none:=s0.free np
   refine ⟨_,rfl,p,a1,b1,100,rfl,hp0,hb1,by decide,λP a2 b2 H2 hP hp2 hb2 kp2=>?_⟩
   have s2:kW H H2:=λc o e=>kp2 c o (sp _ _ (s0 _ _ e)) (aC e npH)
   refine ⟨_,rfl,p,a2,b2,4,_,rfl,hp2,hb2,by decide,by decide,aP (by decide) (by decide),λr a3 b3 r0 r1 hb3=>⟨_,_,rfl,rfl,?_⟩⟩
   have s3:kW H (upd H2 p (.lst [.int a3,.int b3])):=s2.put npH
   have hL1:(1:Int)<=1+r:=by omega
   have hL4:1+r<=4:=by omega
   dsimp only
   generalize upd H2 p (.lst [.int a3,.int b3])=H3 at *
   generalize 1+r=L at *
   refine ⟨_,rfl,P,rfl,hP,λx H4 s4 hN=>⟨_,rfl,λg dx ng ndx ne=>?_⟩⟩
   have sg:kW H4 (upd (upd H4 dx (.own g)) g (.ins CG dx [])):=(kW.new ndx).put ng
   refine ⟨g,dx,.ref x,L,rfl,af,λhL=>absurd ⟨hL1,hL4⟩ hL,λ_ _=>⟨rfl,?_⟩⟩
   have s5:kW H4 (upd (upd (upd (upd H4 dx (.own g)) g (.ins CG dx [])) g (.ins CG dx [("kind",.ref x)])) g (.ins CG dx [("kind",.ref x),("width",.int L)])):=λc o e=>by
    have hc:c ≠ g:=aC e ng
    rw [au hc,au hc,au hc,au (aC e ndx)]
    exact e
   have hg5:(upd (upd (upd (upd H4 dx (.own g)) g (.ins CG dx [])) g (.ins CG dx [("kind",.ref x)])) g (.ins CG dx [("kind",.ref x),("width",.int L)])) g=some (.ins CG dx [("kind",.ref x),("width",.int L)]):=af
   generalize upd (upd (upd (upd H4 dx (.own g)) g (.ins CG dx [])) g (.ins CG dx [("kind",.ref x)])) g (.ins CG dx [("kind",.ref x),("width",.int L)])=H5 at *
   have s35:=s3.trans (s4.trans s5)
   refine ⟨_,rfl,_,rfl,_,rfl,_,rfl,_,rfl,_,rfl,_,rfl,_,_,rfl,rfl,.inl ⟨by decide,by decide⟩,_,_,rfl,rfl,a,ns,2*(0+(i:Int))+1,rfl,s35.seq hS,hlen,by omega,by omega,λp6 a6 b6 np6 hb6=>?_⟩
   have hp6:(upd H5 p6 (.lst [.int a6,.int b6])) p6=some (.lst [.int a6,.int b6]):=af
   have s6:=kW.new (o:=.lst [.int a6,.int b6]) np6
   generalize upd H5 p6 (.lst [.int a6,.int b6])=H6 at *
   refine ⟨p6,P,L,a6,b6,100,rfl,hP,hL1,hL4,hp6,hb6,by decide,λl ts ps H7 nl hl pr hw kp7=>?_⟩
   have s57:kW H5 H7:=λc o e=>kp7 c o (s6 _ _ e) (aC e np6)
   have hN7:=hN.mono λo e=>s57 _ _ (s5 _ _ e)
   refine ⟨g,x,l,P,L,ts,ps,rfl,hP,⟨dx,s57 _ _ hg5⟩,hN7,hl,pr,hw,λH8 s8=>?_⟩
   refine ⟨true,rfl,be ?_⟩
   exact hN0 _ _ ⟨_,_,_,_,_,rfl,s35.trans (s57.trans s8),λ_=>⟨P,L,g,x,rfl,rfl,rfl,hP,hL1,hL4,⟨dx,s8 _ _ (s57 _ _ hg5)⟩,hN7.mono λo e=>s8 _ _ e⟩⟩
  ·rintro σ H0 ⟨x1,x2,x3,x4,x5,rfl,s0,hx⟩
   obtain ⟨P,L,g,x,rfl,rfl,rfl,hP,hL1,hL4,hg,hN⟩:=hx (by decide)
   obtain ⟨dx,hg'⟩:=id hg
   refine ⟨_,rfl,L,rfl,by omega,by omega,?_⟩
   refine ff (rest:=[]) rfl (λ_=>.int 0) (by omega) (λi H4 R hi s4 hR=>hR H4 (kW.refl _)) λacc H1 nacc s1 hacc=>?_
   have e0:(List.range L.toNat).map (λ_=>V.int 0)=(List.replicate L.toNat (0:Int)).map V.int:=by
    rw [<- ints_rep,List.map_const',length_range]
   rw [e0] at hacc
   refine ⟨acc,_,rfl,SqL.of hacc,λt n2=>?_⟩
   have s2:=kW.new (o:=.tup ((List.replicate L.toNat (0:Int)).map V.int)) n2
   have ht:(upd H1 t (.tup ((List.replicate L.toNat (0:Int)).map V.int))) t=some (.tup ((List.replicate L.toNat (0:Int)).map V.int)):=af
   generalize upd H1 t (.tup ((List.replicate L.toNat (0:Int)).map V.int))=H2 at *
   have s12:=s1.trans s2
   have l0:((List.replicate L.toNat (0:Int)).length:Int)=L:=by rw [length_replicate]; omega
   refine ⟨Nat.zero_le _,λe3 n3=>?_⟩
   have s3:=kW.new (o:=.lst []) n3
   have h3:(upd H2 e3 (.lst [])) e3=some (.lst []):=af
   generalize upd H2 e3 (.lst [])=H3 at *
   refine ⟨_,rfl,_,rfl,P,rfl,hP,λu H4 s4 a4=>?_⟩
   refine ⟨by show 2<=sizeLine; decide,λt5 n5=>?_⟩
   have s5:=kW.new (o:=.tup [.ref t,u]) n5
   have h5:(upd H4 t5 (.tup [.ref t,u])) t5=some (.tup [.ref t,u]):=af
   generalize upd H4 t5 (.tup [.ref t,u])=H5 at *
   refine ⟨by show 1<=sizeLine; decide,λl6 n6=>?_⟩
   have s6:=kW.new (o:=.lst [.ref t5]) n6
   have h6:(upd H5 l6 (.lst [.ref t5])) l6=some (.lst [.ref t5]):=af
   generalize upd H5 l6 (.lst [.ref t5])=H6 at *
   refine ⟨by show 2<=sizeLine; decide,λso n7=>?_⟩
   have s7:=kW.new (o:=.lst [.ref e3,.ref l6]) n7
   have h7:(upd H6 so (.lst [.ref e3,.ref l6])) so=some (.lst [.ref e3,.ref l6]):=af
   generalize upd H6 so (.lst [.ref e3,.ref l6])=H7 at *
   have s37:kW H3 H7:=s4.trans (s5.trans (s6.trans s7))
   have s07:kW H0 H7:=s12.trans (s3.trans s37)
   have nso:H0 so=none:=(s12.trans (s3.trans (s4.trans (s5.trans s6)))).free n7
   have ask0:∀ v ∈ [V.ref e3,V.ref l6],v ≠ .ref so/\∃ ps,AskR P L H7 v ps:=λv hv=>by
    rcases List.mem_cons.mp hv with rfl | hv
    ·refine ⟨λz=>?_,[],e3,[],rfl,s37 _ _ h3,.nil,⟨⟨List.Pairwise.nil,λp hp=>nomatch hp⟩,hL4,by show 0<=60; decide,λp hp=>nomatch hp⟩⟩
     injection z with z
     rw [<- z] at n7
     rw [s6 _ _ (s5 _ _ (s4 _ _ h3))] at n7
     cases n7
    ·rw [List.mem_singleton.mp hv]
     refine ⟨λz=>?_,[(List.replicate L.toNat 0,(1,1))],l6,[.ref t5],rfl,s7 _ _ h6,.cons ⟨t5,t,u,rfl,s7 _ _ (s6 _ _ h5),s37 _ _ (s3 _ _ ht),a4.same (s5.trans (s6.trans s7))⟩ .nil,wrOk_one hP hL4 l0 λe he=>by rw [List.eq_of_mem_replicate he]; decide⟩
     injection z with z
     rw [<- z,h6] at n7
     cases n7
   refine ⟨_,rfl,L,rfl,by omega,by omega,dR (n:=L.toNat) (λi σ H'=>∃ (x8:Option V) (zs:List V),σ=[some (.ref a),x1,x2,some (.int P),some (.int L),some (.ref g),some (.ref t),some (.ref so),x8]/\kW H0 H'/\H' so=some (.lst zs)/\zs.length=i+2/\∀ v ∈ zs,v ≠ .ref so/\∃ ps,AskR P L H' v ps) ⟨none,_,rfl,s07,h7,rfl,ask0⟩ ?_ ?_⟩
   ·rintro i σ H8 hi ⟨x8,zs,rfl,s8,h8,lz,ask⟩ N0 B0 hN0
    refine ⟨_,rfl,.inl ⟨rfl,_,SqL.of h8⟩,_,rfl,L,rfl,by omega,by omega,?_⟩
    refine ff (rest:=[some (.int (0+(i:Int)))]) rfl (λj=>.int (if j=i then 1 else 0)) (by omega) (λj H9 R9 hj s9 hR9=>?_) λacc9 H9 nacc9 s9 hacc9=>?_
    ·refine ⟨_,rfl,_,rfl,rfl,.inr ⟨_,rfl,?_⟩⟩
     have e:(if (decide (V.int (0+(j:Int))=V.int (0+(i:Int))))=true then (1:Int) else 0)=if j=i then 1 else 0:=by
      by_cases hj7:j=i
      ·rw [if_pos hj7,hj7,decide_eq_true rfl]
       rfl
      ·rw [if_neg hj7,decide_eq_false (show ¬ V.int (0+(j:Int))=V.int (0+(i:Int)) from λz=>hj7 (by injection z with z; omega))]
       rfl
     rw [e]
     exact hR9 H9 (kW.refl _)
    ·have em:(List.range L.toNat).map (λj:Nat=>V.int (if j=i then 1 else 0))=((List.range L.toNat).map λj:Nat=>(if j=i then (1:Int) else 0)).map V.int:=by rw [map_map]; rfl
     rw [em] at hacc9
     refine ⟨acc9,_,rfl,SqL.of hacc9,λt10 n10=>?_⟩
     have s10:=kW.new (o:=.tup (((List.range L.toNat).map λj:Nat=>(if j=i then (1:Int) else 0)).map V.int)) n10
     have h10:(upd H9 t10 (.tup (((List.range L.toNat).map λj:Nat=>(if j=i then (1:Int) else 0)).map V.int))) t10=some (.tup (((List.range L.toNat).map λj:Nat=>(if j=i then (1:Int) else 0)).map V.int)):=af
     generalize upd H9 t10 (.tup (((List.range L.toNat).map λj:Nat=>(if j=i then (1:Int) else 0)).map V.int))=H10 at *
     refine ⟨_,rfl,P,rfl,hP,λu11 H11 s11 a11=>?_⟩
     refine ⟨by show 2<=sizeLine; decide,λt12 n12=>?_⟩
     have s12':=kW.new (o:=.tup [.ref t10,u11]) n12
     have h12:(upd H11 t12 (.tup [.ref t10,u11])) t12=some (.tup [.ref t10,u11]):=af
     generalize upd H11 t12 (.tup [.ref t10,u11])=H12 at *
     refine ⟨by show 1<=sizeLine; decide,λl13 n13=>?_⟩
     have s13:=kW.new (o:=.lst [.ref t12]) n13
     have h13:(upd H12 l13 (.lst [.ref t12])) l13=some (.lst [.ref t12]):=af
     have l13so:l13 ≠ so:=λz=>by
      rw [z,s12' _ _ (s11 _ _ (s10 _ _ (s9 _ _ h8)))] at n13
      cases n13
     generalize upd H12 l13 (.lst [.ref t12])=H13 at *
     have s813:kW H8 H13:=s9.trans (s10.trans (s11.trans (s12'.trans s13)))
     have h8':=s813 _ _ h8
     refine ⟨so,_,_,rfl,rfl,h8',by rw [sizeLine_eq]; omega,hN0 _ _ ⟨_,zs++[.ref l13],rfl,(s8.trans s813).put nso,af,by rw [length_append,lz]; rfl,λv hv=>?_⟩⟩
     rcases List.mem_append.mp hv with hv | hv
     ·obtain ⟨v1,ps,v2⟩:=ask v hv
      exact ⟨v1,ps,(v2.same s813).put h8' v1⟩
     ·rw [List.mem_singleton.mp hv]
      refine ⟨λz=>l13so (by injection z),_,AskR.put h8' (λz=>l13so (by injection z)) ⟨l13,[.ref t12],rfl,h13,.cons ⟨t12,t10,u11,rfl,s13 _ _ h12,s13 _ _ (s12' _ _ (s11 _ _ h10)),a11.same (s12'.trans s13)⟩ .nil,wrOk_one hP hL4 (by rw [length_map,length_range]; omega) λe he=>?_⟩⟩
      obtain ⟨j,_,rfl⟩:=List.mem_map.mp he
      split<;>decide
   ·rintro σ H8 ⟨x8,zs,rfl,s8,h8,lz,ask⟩
    refine ⟨_,rfl,so,rfl,⟨_,SqL.of h8⟩,comp_lstS (λ_=>.bl true) (rest:=[some (.ref g),some (.int P),some (.int L)]) rfl (SqL.of h8) (by rw [sizeLine_eq]; omega) (λi v H9 R9 hv s9 hR9=>?_) λacc H9 nacc s9 hacc=>?_⟩
    ·obtain ⟨_,ps,l,ts,rfl,hl,pr,hw⟩:=ask v (mem_of_getElem? hv)
     exact ⟨_,rfl,_,rfl,_,rfl,_,rfl,g,x,l,P,L,ts,ps,rfl,hP,⟨dx,s9 _ _ (s8 _ _ hg')⟩,hN.mono λo e=>s9 _ _ (s8 _ _ e),s9 _ _ hl,pr.mono λt xs e=>s9 _ _ e,hw,λH10 s10=>hR9 H10 s10⟩
    ·have eb:zs.map (λ_=>V.bl true)=(zs.map λ_=>true).map V.bl:=by rw [map_map]; rfl
     rw [eb] at hacc
     refine ⟨acc,_,rfl,sqvL (SqL.of hacc),?_⟩
     have ea:((zs.map λ_=>true).all id)=true:=by
      rw [all_eq_true]
      intro b hb
      obtain ⟨_,_,rfl⟩:=List.mem_map.mp hb
      rfl
     rw [ea]
     exact q H9
theorem fy:kX ["self"] ["self"] (aj aR):=.i
theorem ok_fpr {f:Addr} {fd:FuncData} (F:Fun K "prime" "Fractions.prime" aR f fd):kZ P w K mg base CX0 1 f fd ["self"] spFPr:=by
 refine F.o fy λ_ _ _ _ H _ Q _ hr h=>?_
 ·obtain ⟨x,rfl,q⟩:=h
  exact ⟨_,(ah (al ac)),q⟩
theorem iP:kX ["self"] ["self"] (aj bq):=.i
theorem ok_rpr {f CR:Addr} {fd:FuncData} (F:Fun K "prime" "Rests.prime" bq f fd) (cl:Cls K CR) (nM:lO K CR "modulus"):kZ P w K mg base CX0 1 f fd ["self"] (spRPr CR):=by
 refine F.o iP λ_ _ _ _ H _ Q _ hr h=>?_
 ·obtain ⟨x,dx,p,rfl,hx,q⟩:=h
  exact ⟨_,(ah (al (eW (pv 0) rfl))),⟨_,rfl,x,CR,dx,_,_,rfl,hx,cl,nM,rfl,q⟩⟩
set_option maxHeartbeats 4000000 in
theorem all_mk {l:PySem.W.OpenLaw} {w:World} {K:Frag} {h:Heap} {mg:Str->Option Value} {fa:Addr} (X:K.In h) (G:h.Ns mainGlobals mg) (hfa:mg "law"=some (.ref fa))
  (d0:li K "is_prime" fu) (d1:li K "greatest_divisor" bJ) (d2:li K "inverse" gu) (d3:li K "degree" iX) (d4:li K "height" iC) (d5:li K "sum_of" iq) (d6:li K "show_sum" fx) (d7:li K "is_below_nought" bQ) (d8:li K "without_sign" cD) (d9:li K "show_part" eO) (d10:li K "show_number" dc) (d11:li K "show_fraction" cu) (d12:li K "show_product" cF) (d13:li K "read_sum" fA) (d14:li K "check_text" dF) (d15:li K "check_written" ck) (d16:li K "is_figures" dI) (d17:li K "rough_sum" eX) (d18:li K "rough_part" dL) (d19:li K "letter_number" cj) (d20:li K "rough_number" cJ) (d21:li K "rough_figures" cq) (d22:li K "_law_cell" et) (d23:li K "_law_bag" fE) (d24:li K "_law_take" eV) (d25:li K "_law_great" dQ) (d26:li K "_law_signed" cZ) (d27:li K "_law_whole" dO) (d28:li K "_law_low" ft) (d29:li K "_law_is_prime" cr) (d30:li K "_law_prime" dE) (d31:li K "_law_numbers" cH) (d32:li K "_law_plus" eC) (d33:li K "_law_nought" db) (d34:li K "_law_unit" eI) (d35:li K "_law_number" de) (d36:li K "_law_product" cL) (d37:li K "_law_key" fG) (d38:li K "_law_sum" fM) (d39:li K "_law_number_like" bL) (d40:li K "_law_sum_like" cp) (d41:li K "_law_show_number" bM) (d42:li K "_law_show_product" bF) (d43:li K "_law_show_sum" cm) (d44:li K "_law_some" eA) (d45:li K "_law_told" eB) (d46:li K "law" s_law)
  {mU:Addr} (qo:nsIn K mainGlobals "Fractions"=some (some (.ref mU))) (qp:plainGet K mU Str.empty=true) (qq:hasDictIn K mU=true) (qr:plainOver K mU=true) (qt:findIn K (.ref mU) "__setattr__"=some (some (.builtin "object.__setattr__"))) (qu:makesIn K mU=true) (qv:keepIn K (.ref mU)=true)
  (qw:findIn K (.ref mU) "__init__"=some (some (.builtin "object.__init__")))
  {m8:Addr} {rL rM:Option Addr} {rN:Array (Option Value)} {rO rP rQ rR pU rS:Value}
  (on:findIn K (.ref mU) "prime"=some (some (.ref m8))) (oo:isFn K (.ref m8)=true) (oG:K.lookup m8=some ⟨rO,rL,.func (fnOf "prime" "Fractions.prime" (aM aR) (aJ aR) (aj aR) .none rP rQ rR rM pU rS),rN⟩) (oH:codeIn K pU "Fractions.prime"=true) (ny:keepIn K (.ref m8)=true)
  {n8:Addr} {sA:Value} {sB:Option Addr} {qz:Tok} {tR:Nat} {sZ:Array (Option Value)}
  {nF:Addr} {tS oZ:Option Addr} {tT:Array (Option Value)} {tU o0 o4 o5 og o6:Value}
  (o7:findIn K (.ref mU) "of"=some (some (.ref nF))) (o8:isFn K (.ref nF)=true) (pH:K.lookup nF=some ⟨tU,tS,.func (fnOf "of" "Fractions.of" (aM aH) (aJ aH) (aj aH) (.ref n8) o0 o4 o5 oZ og o6),tT⟩) (pI:codeIn K og "Fractions.of"=true) (oA:keepIn K (.ref nF)=true)
  (oh:K.lookup n8=some ⟨sA,sB,.seq #[.int 1 qz] tR,sZ⟩)
  {ni:Addr} {sC sD:Option Addr} {sE:Array (Option Value)} {sF sG sH sI qd sJ:Value}
  (oI:findIn K (.ref mU) "plus"=some (some (.ref ni))) (oJ:isFn K (.ref ni)=true) (oR:K.lookup ni=some ⟨sF,sC,.func (fnOf "plus" "Fractions.plus" (aM aW) (aJ aW) (aj aW) .none sG sH sI sD qd sJ),sE⟩) (oS:codeIn K qd "Fractions.plus"=true) (nP:keepIn K (.ref ni)=true)
  {m9:Addr} {rT rV:Option Addr} {rW:Array (Option Value)} {rX rY rZ r9 pV se:Value}
  (ot:findIn K (.ref mU) "times"=some (some (.ref m9))) (ou:isFn K (.ref m9)=true) (oK:K.lookup m9=some ⟨rX,rT,.func (fnOf "times" "Fractions.times" (aM aS) (aJ aS) (aj aS) .none rY rZ r9 rV pV se),rW⟩) (oM:codeIn K pV "Fractions.times"=true) (nB:keepIn K (.ref m9)=true)
  {mV:Addr} (tf:nsIn K mainGlobals "Rests"=some (some (.ref mV))) (tj:plainGet K mV Str.empty=true) (tm:hasDictIn K mV=true) (tq:plainOver K mV=true) (tw:findIn K (.ref mV) "__setattr__"=some (some (.builtin "object.__setattr__"))) (tz:makesIn K mV=true) (tD:keepIn K (.ref mV)=true)
  (mW:findIn K (.ref mV) "modulus"=some none)
  {nj:Addr} {sK sL:Option Addr} {sM:Array (Option Value)} {sN sO sP sQ qe sR:Value}
  (nC:findIn K (.ref mV) "__init__"=some (some (.ref nj))) (nE:isFn K (.ref nj)=true) (oT:K.lookup nj=some ⟨sN,sK,.func (fnOf "__init__" "Rests.__init__" (aM aX) (aJ aX) (aj aX) .none sO sP sQ sL qe sR),sM⟩) (oU:codeIn K qe "Rests.__init__"=true) (nQ:keepIn K (.ref nj)=true)
  {nU:Addr} {uv uw:Option Addr} {ux:Array (Option Value)} {uy uz uA uB qZ uC:Value}
  (pJ:findIn K (.ref mV) "prime"=some (some (.ref nU))) (pK:isFn K (.ref nU)=true) (p7:K.lookup nU=some ⟨uy,uv,.func (fnOf "prime" "Rests.prime" (aM bq) (aJ bq) (aj bq) .none uz uA uB uw qZ uC),ux⟩) (p8:codeIn K qZ "Rests.prime"=true) (oO:keepIn K (.ref nU)=true)
  {pR:Addr} {u0:Value} {u3:Option Addr} {sf:Tok} {vt:Nat} {vn:Array (Option Value)}
  {o9:Addr} {vv qJ:Option Addr} {vw:Array (Option Value)} {vx qK qL qM pS qN:Value}
  (qO:findIn K (.ref mV) "of"=some (some (.ref o9))) (qP:isFn K (.ref o9)=true) (rE:K.lookup o9=some ⟨vx,vv,.func (fnOf "of" "Rests.of" (aM aT) (aJ aT) (aj aT) (.ref pR) qK qL qM qJ pS qN),vw⟩) (rF:codeIn K pS "Rests.of"=true) (qh:keepIn K (.ref o9)=true)
  (pT:K.lookup pR=some ⟨u0,u3,.seq #[.int 1 sf] vt,vn⟩)
  {ow:Addr} {u4 u5:Option Addr} {u9:Array (Option Value)} {va vb vc vd rG ve:Value}
  (p9:findIn K (.ref mV) "plus"=some (some (.ref ow))) (qa:isFn K (.ref ow)=true) (qA:K.lookup ow=some ⟨va,u4,.func (fnOf "plus" "Rests.plus" (aM bB) (aJ bB) (aj bB) .none vb vc vd u5 rG ve),u9⟩) (qB:codeIn K rG "Rests.plus"=true) (pb:keepIn K (.ref ow)=true)
  {nV:Addr} {uD uE:Option Addr} {uF:Array (Option Value)} {uG uH uI uJ q5 uK:Value}
  (pL:findIn K (.ref mV) "times"=some (some (.ref nV))) (pM:isFn K (.ref nV)=true) (qb:K.lookup nV=some ⟨uG,uD,.func (fnOf "times" "Rests.times" (aM bt) (aJ bt) (aj bt) .none uH uI uJ uE q5 uK),uF⟩) (qc:codeIn K q5 "Rests.times"=true) (oP:keepIn K (.ref nV)=true)
  {mY:Addr} (uL:nsIn K mainGlobals "Ring"=some (some (.ref mY))) (uM:plainGet K mY Str.empty=true) (uN:hasDictIn K mY=true) (uO:plainOver K mY=true) (uP:findIn K (.ref mY) "__setattr__"=some (some (.builtin "object.__setattr__"))) (uQ:makesIn K mY=true) (uR:keepIn K (.ref mY)=true)
  (pc:findIn K (.ref mY) "kind"=some none)
  (oQ:findIn K (.ref mY) "width"=some none)
  {nu:Addr} {tE tF:Option Addr} {tG:Array (Option Value)} {tH tI tJ tK qC tL:Value}
  (nR:findIn K (.ref mY) "__init__"=some (some (.ref nu))) (nS:isFn K (.ref nu)=true) (pf:K.lookup nu=some ⟨tH,tE,.func (fnOf "__init__" "Ring.__init__" (aM bb) (aJ bb) (aj bb) .none tI tJ tK tF qC tL),tG⟩) (ph:codeIn K qC "Ring.__init__"=true) (oi:keepIn K (.ref nu)=true)
  {nG:Addr} {tV tW:Option Addr} {tX:Array (Option Value)} {tY tZ t0 t8 qE ua:Value}
  (pi:findIn K (.ref mY) "numbers"=some (some (.ref nG))) (pj:isFn K (.ref nG)=true) (pN:K.lookup nG=some ⟨tY,tV,.func (fnOf "numbers" "Ring.numbers" (aM bj) (aJ bj) (aj bj) .none tZ t0 t8 tW qE ua),tX⟩) (pO:codeIn K qE "Ring.numbers"=true) (oB:keepIn K (.ref nG)=true)
  {nH:Addr} {ub uc:Option Addr} {ud:Array (Option Value)} {ue uf ug uh qF ui:Value}
  (pz:findIn K (.ref mY) "letters"=some (some (.ref nH))) (pA:isFn K (.ref nH)=true) (pP:K.lookup nH=some ⟨ue,ub,.func (fnOf "letters" "Ring.letters" (aM bo) (aJ bo) (aj bo) .none uf ug uh uc qF ui),ud⟩) (pQ:codeIn K qF "Ring.letters"=true) (oC:keepIn K (.ref nH)=true)
  {mS:Addr} (qQ:nsIn K mainGlobals "NoNumber"=some (some (.ref mS)))
  (qR:excIn K mS iE "ValueError.__new__"=true) (qS:findIn K (.ref mS) "__getattribute__"=some (some (.builtin "BaseException.__getattribute__"))) (qT:findIn K (.ref mS) "__getattr__"=some none) (qU:findIn K (.ref mS) "__class__"=some (some (.builtin "object.__class__"))) (qV:mroIn K mS (.type "object")=some true) (qW:mroIn K mS (.type "BaseException")=some true) (qX:specialIn K (.builtin "object.__class__") "__get__"=some (some (.builtin "getset_descriptor.__get__"))) (qY:takesIn K (.builtin "object.__class__")=some true)
  {mZ:Addr} (sh:nsIn K mainGlobals "NoRing"=some (some (.ref mZ)))
  (si:excIn K mZ iE "ValueError.__new__"=true) (sj:findIn K (.ref mZ) "__getattribute__"=some (some (.builtin "BaseException.__getattribute__"))) (sk:findIn K (.ref mZ) "__getattr__"=some none) (sr:findIn K (.ref mZ) "__class__"=some (some (.builtin "object.__class__"))) (ss:mroIn K mZ (.type "object")=some true) (su:mroIn K mZ (.type "BaseException")=some true) (sv:specialIn K (.builtin "object.__class__") "__get__"=some (some (.builtin "getset_descriptor.__get__"))) (sw:takesIn K (.builtin "object.__class__")=some true)
  (zn_str:nsIn K mainGlobals "str"=some none)
  {uS:Tok} (nX:nsIn K mainGlobals "LEAST_PRIME"=some (some (.int 2 uS)))
  {sS:Tok} (nn:nsIn K mainGlobals "GREATEST_PRIME"=some (some (.int 9973 sS)))
  {uj:Tok} (nI:nsIn K mainGlobals "MOST_LETTERS"=some (some (.int 4 uj)))
  {tk_LETTERS:Tok} (g_LETTERS:nsIn K mainGlobals "LETTERS"=some (some (.str "xyzw" tk_LETTERS)))
  {tk_FIGURES:Tok} (g_FIGURES:nsIn K mainGlobals "FIGURES"=some (some (.str "0123456789" tk_FIGURES)))
  (z0:nsIn K mainGlobals "len"=some none) (z1:nsIn K mainGlobals "range"=some none) (z2:nsIn K mainGlobals "zip"=some none) (z3:nsIn K mainGlobals "all"=some none) (z4:nsIn K mainGlobals "sum"=some none) (z5:nsIn K mainGlobals "max"=some none) (z6:nsIn K mainGlobals "min"=some none) (z7:nsIn K mainGlobals "abs"=some none) (z8:nsIn K mainGlobals "tuple"=some none) (z9:nsIn K mainGlobals "list"=some none) (z10:nsIn K mainGlobals "int"=some none) (z11:nsIn K mainGlobals "bool"=some none) (z12:nsIn K mainGlobals "isinstance"=some none) (z13:nsIn K mainGlobals "enumerate"=some none) (z14:nsIn K mainGlobals "sorted"=some none) (z15:nsIn K mainGlobals "set"=some none) (z16:nsIn K mainGlobals "str"=some none) :
  ∃ fd:FuncData,(∀ (s:Shared) (v:Value),BindsTo s fd ⟨[v],[]⟩ [("_law_script",v)])/\∀ base:Heap,K.In base->base.Ns mainGlobals mg->kZ l.prog w K mg base CX0 9 fa fd ["_law_script"] (spLaw K):=by
 have T:Blt mg:=⟨mg_none_of X G z0,mg_none_of X G z1,mg_none_of X G z2,mg_none_of X G z3,mg_none_of X G z4,mg_none_of X G z5,mg_none_of X G z6,mg_none_of X G z7,mg_none_of X G z8,mg_none_of X G z9,mg_none_of X G z10,mg_none_of X G z11,mg_none_of X G z12,mg_none_of X G z13,mg_none_of X G z14,mg_none_of X G z15,mg_none_of X G z16⟩
 refine d46.law X G hfa λ{_} {base} F46 _ _=>?_
 have M {k n sp} (h:FnB l.prog w K mg base k n sp):=h
 have oz:Cls K mU:=⟨qp,qq,qr,qt⟩
 have vy:=mg_of X G qo
 have sT:=cC (st:=aR) oG oH ny
 have sU:=sT.binds (ps:=["self"]) λ_ _ _ _ _ _ us hl=>match us,hl with | [_],_=>rfl
 have sV:dZ K mU "prime" m8:=⟨on,oo,ny⟩
 have rc:=funD_mk (st:=aH) pH pI oA
 have uT:lL K (fnOf "of" "Fractions.of" (aM aH) (aJ aH) (aj aH) (.ref n8) o0 o4 o5 oZ og o6) ["self", "top", "bottom"] []:=λs us X hl=>match us,hl with | [_,_,_],_=>BindsTo.of_defaults rfl (X _ _ oh) rfl rfl rfl
 have uk:lL K (fnOf "of" "Fractions.of" (aM aH) (aJ aH) (aj aH) (.ref n8) o0 o4 o5 oZ og o6) ["self", "top", "bottom"] [.int 1 qz]:=λs us X hl=>by
  obtain ⟨z1,z2,rfl⟩:=two_of hl
  exact BindsTo.of_defaults rfl (X _ _ oh) rfl rfl rfl
 have re:dZ K mU "of" nF:=⟨o7,o8,oA⟩
 have tM:=cC (st:=aW) oR oS nP
 have tN:=tM.binds (ps:=["self", "one", "other"]) λ_ _ _ _ _ _ us hl=>match us,hl with | [_,_,_],_=>rfl
 have tO:dZ K mU "plus" ni:=⟨oI,oJ,nP⟩
 have sW:=cC (st:=aS) oK oM nB
 have sX:=sW.binds (ps:=["self", "one", "other"]) λ_ _ _ _ _ _ us hl=>match us,hl with | [_,_,_],_=>rfl
 have sY:dZ K mU "times" m9:=⟨ot,ou,nB⟩
 have nq:Cls K mV:=⟨tj,tm,tq,tw⟩
 have vM:=mg_of X G tf
 have tP:=cC (st:=aX) oT oU nQ
 have tQ:=tP.binds (ps:=["self", "prime"]) λ_ _ _ _ _ _ us hl=>match us,hl with | [_,_],_=>rfl
 have vH:dZ K mV "__init__" nj:=⟨nC,nE,nQ⟩
 have vf:=cC (st:=bq) p7 p8 oO
 have vg:=vf.binds (ps:=["self"]) λ_ _ _ _ _ _ us hl=>match us,hl with | [_],_=>rfl
 have vh:dZ K mV "prime" nU:=⟨pJ,pK,oO⟩
 have ul:=funD_mk (st:=aT) rE rF qh
 have vB:lL K (fnOf "of" "Rests.of" (aM aT) (aJ aT) (aj aT) (.ref pR) qK qL qM qJ pS qN) ["self", "top", "bottom"] []:=λs us X hl=>match us,hl with | [_,_,_],_=>BindsTo.of_defaults rfl (X _ _ pT) rfl rfl rfl
 have vz:lL K (fnOf "of" "Rests.of" (aM aT) (aJ aT) (aj aT) (.ref pR) qK qL qM qJ pS qN) ["self", "top", "bottom"] [.int 1 sf]:=λs us X hl=>by
  obtain ⟨z1,z2,rfl⟩:=two_of hl
  exact BindsTo.of_defaults rfl (X _ _ pT) rfl rfl rfl
 have um:dZ K mV "of" o9:=⟨qO,qP,qh⟩
 have vo:=cC (st:=bB) qA qB pb
 have vp:=vo.binds (ps:=["self", "one", "other"]) λ_ _ _ _ _ _ us hl=>match us,hl with | [_,_,_],_=>rfl
 have vq:dZ K mV "plus" ow:=⟨p9,qa,pb⟩
 have vi:=cC (st:=bt) qb qc oP
 have vj:=vi.binds (ps:=["self", "one", "other"]) λ_ _ _ _ _ _ us hl=>match us,hl with | [_,_,_],_=>rfl
 have vk:dZ K mV "times" nV:=⟨pL,pM,oP⟩
 have rf:Cls K mY:=⟨uM,uN,uO,uP⟩
 have vN:=mg_of X G uL
 have uo:=cC (st:=bb) pf ph oi
 have uq:=uo.binds (ps:=["self", "numbers", "letters"]) λ_ _ _ _ _ _ us hl=>match us,hl with | [_,_,_],_=>rfl
 have vL:dZ K mY "__init__" nu:=⟨nR,nS,oi⟩
 have uU:=cC (st:=bj) pN pO oB
 have uV:=uU.binds (ps:=["self"]) λ_ _ _ _ _ _ us hl=>match us,hl with | [_],_=>rfl
 have uW:dZ K mY "numbers" nG:=⟨pi,pj,oB⟩
 have uX:=cC (st:=bo) pP pQ oC
 have uY:=uX.binds (ps:=["self"]) λ_ _ _ _ _ _ us hl=>match us,hl with | [_],_=>rfl
 have uZ:dZ K mY "letters" nH:=⟨pz,pA,oC⟩
 have qi:=mg_of X G qQ
 have qj:XCl K mS:=⟨qR,qS,qT,qU,qV,qW,qX,qY⟩
 have vJ:=mg_of X G sh
 have vK:XCl K mZ:=⟨si,sj,sk,sr,ss,su,sv,sw⟩
 have n_str:=mg_none_of X G zn_str
 have nX:=mg_of X G nX
 have nn:=mg_of X G nn
 have nI:=mg_of X G nI
 have g_LETTERS:=mg_of X G g_LETTERS
 have g_FIGURES:=mg_of X G g_FIGURES
 have rg:=M (d22.fb X G λF=>ok_cell F T)
 have qD:=M (d23.fb X G λF=>ok_bag F rg)
 have mT:=M (d24.fb X G λF=>ok_take F)
 have nh:=M (d27.fb X G λF=>ok_whole F T)
 have nY:=M (d25.fb X G λF=>ok_great F mT)
 have ql:=M (d26.fb X G λF=>ok_signed F mT nY)
 have nc:=M (d28.fb X G λF=>ok_low F T)
 have pB:=M (d29.fb X G λF=>ok_lawprime F T)
 have qI:=M (d30.fb X G λF=>ok_prime F mT pB)
 have rH:=M (d0.fb X G λF=>ok_isprime F nX nn)
 have nw:=M (d1.fb X G λF=>ok_gcd F T)
 have rm:=M (d2.fb X G λF=>ok_inverse F)
 have qk:=M (d3.fb X G λF=>ok_degree F T)
 have ur:=M (d4.fb X G λF=>ok_height F qk)
 have vm:MkB l.prog w K mg base 2 mV "Rests" (kB mV):=⟨⟨_,_,_,ok_rinit tP nq mW rH,⟨tz,nC,nE,tD⟩,tQ⟩,vM⟩
 have pZ:=M (d31.fb X G λF=>ok_nums F ⟨qu,qw,qv⟩ vy vm)
 have qm:=M (d35.fb X G λF=>ok_number F T mT nY ql nc)
 have oE:=M (d39.fb X G λF=>ok_like F T nh nc)
 have rj:=M (d32.fb X G λF=>ok_lplus F nc)
 have oX:=M (d33.fb X G λF=>ok_nought F T)
 have nO:=M (d34.fb X G λF=>ok_unit F T)
 have rJ:=M (d37.fb X G λF=>ok_lkey F T)
 have oV:=M (d38.fb X G λF=>ok_lsum F T rj oX rJ)
 have pY:=M (d36.fb X G λF=>ok_product F T mT)
 have pG:=M (d40.fb X G λF=>ok_slike F T nh oE oV)
 have rh:dC l.prog w K mg base 2 mU "of" [] (ci mS):=⟨⟨_,_,_,_,ok_fofx rc nw qi qj,re,uT,.nil⟩,oz⟩
 have vE:dC l.prog w K mg base 2 mV "of" [] (cY mV mS):=⟨⟨_,_,_,_,ok_rofx ul nq mW rm qi qj,um,vB,.nil⟩,nq⟩
 have nJ:dC l.prog w K mg base 2 mU "of" [.int 1] (ci mS):=⟨⟨_,_,_,_,ok_fofx rc nw qi qj,re,uk,.cons ⟨_,rfl⟩ .nil⟩,oz⟩
 have nN:dC l.prog w K mg base 2 mV "of" [.int 1] (cY mV mS):=⟨⟨_,_,_,_,ok_rofx ul nq mW rm qi qj,um,vz,.cons ⟨_,rfl⟩ .nil⟩,nq⟩
 have vC:MtB l.prog w K mg base 3 mU "plus" (jh mU λa b=>(a.1*b.2+b.1*a.2,a.2*b.2)):=⟨⟨_,_,_,ok_fplus tM rh,tO,tN⟩,oz⟩
 have vD:MtB l.prog w K mg base 3 mV "plus" (iQ mV (· + ·)):=⟨⟨_,_,_,(ok_rplus vo nq mW).mono (by decide),vq,vp⟩,nq⟩
 have vF:MtB l.prog w K mg base 3 mU "times" (jh mU λa b=>(a.1*b.1,a.2*b.2)):=⟨⟨_,_,_,ok_ftimes sW rh,sY,sX⟩,oz⟩
 have vG:MtB l.prog w K mg base 3 mV "times" (iQ mV (· * ·)):=⟨⟨_,_,_,(ok_rtimes vi nq mW).mono (by decide),vk,vj⟩,nq⟩
 have rp:MtB l.prog w K mg base 1 mU "prime" spFPr:=⟨⟨_,_,_,ok_fpr sT,sV,sU⟩,oz⟩
 have rA:MtB l.prog w K mg base 1 mV "prime" (spRPr mV):=⟨⟨_,_,_,ok_rpr vf nq mW,vh,vg⟩,nq⟩
 have oj:MtB l.prog w K mg base 1 mY "numbers" (gL mY):=⟨⟨_,_,_,ok_rnum uU rf pc,uW,uV⟩,rf⟩
 have ut:MtB l.prog w K mg base 1 mY "letters" (kE mY):=⟨⟨_,_,_,ok_rlet uX rf oQ,uZ,uY⟩,rf⟩
 have vA:MkBX l.prog w K mg base 2 mY "Ring" (jd mY mZ):=⟨⟨_,_,_,ok_ginit uo rf pc oQ nI vJ vK,⟨uQ,nR,nS,uR⟩,uq⟩,vN⟩
 have uu:=M (d5.fb X G λF=>ok_sumof F T ur oj vC vD nJ nN)
 have m5:=M (d7.fb X G λF=>ok_below F rp rA)
 have pW:=M (d8.fb X G λF=>ok_signless F m5)
 have pC:=M (d11.fb X G λF=>ok_showf F T n_str)
 have oY:=M (d10.fb X G λF=>ok_shown F n_str rp rA pC)
 have oN:=M (d12.fb X G λF=>ok_showp F T n_str g_LETTERS)
 have rB:=M (d9.fb X G λF=>ok_showpart F qk oY oN nJ nN)
 have oW:=M (d6.fb X G λF=>ok_shows F T oj m5 pW rB)
 have qH:=M (d14.fb X G λF=>ok_chkt F T n_str)
 have pE:=M (d15.fb X G λF=>ok_chkw F)
 have nZ:=M (d16.fb X G λF=>ok_isfigs F T g_FIGURES)
 have m7:=M (d21.fb X G λF=>ok_rfigs F T nZ)
 have pD:=M (d19.fb X G λF=>ok_letn F T g_LETTERS ut)
 have pX:=M (d20.fb X G λF=>ok_rnumr F m7 rp rA nJ nN rh vE)
 have qG:=M (d18.fb X G λF=>ok_rpart F T oj ut nJ nN nZ m7 pX pD)
 have rC:=M (d17.fb X G λF=>ok_rsum F T oj nJ nN vF vG qG uu)
 have rK:=M (d13.fb X G λF=>ok_reads F qH pE rC oW)
 have oF:=M (d41.fb X G λF=>ok_lshown F n_str)
 have om:=M (d42.fb X G λF=>ok_lshowp F T n_str)
 have pF:=M (d43.fb X G λF=>ok_lshows F T oF om nO)
 have rD:=M (d44.fb X G λF=>ok_some F T mT pY qm oV)
 have qg:=M (d45.fb X G λF=>ok_told F T n_str pF pG oW rK)
 exact ok_law F46 T qD mT qI pZ vA rD qg nO
theorem walk {l:PySem.W.OpenLaw} {q:Program} {loose:List Str} {XP:(Str->Option Value)->Heap->Prop} {YP:World->Heap->Prop} {d:DefRec} {K:Params->Frag} (hn:l.most=some 63) (hdf:d.params.defaults=[])
  (hY:∀ (w:World) (h:Heap),YP w h->(K w.params).In h)
  (F:∀ (w:World) (mg:Str->Option Value) (fa:Addr) (h:Heap),(K w.params).In h->h.Ns mainGlobals mg->mg d.name=some (.ref fa)->
   ∃ fd:FuncData,(∀ (s:Shared) (u:Value),BindsTo s fd ⟨[u],[]⟩ [("_law_script",u)])/\∀ base:Heap,(K w.params).In base->base.Ns mainGlobals mg->kZ l.prog w (K w.params) mg base CX0 9 fa fd ["_law_script"] (spLaw (K w.params))) :
  PySem.W.WalkO q loose XP YP l.row.toRowW d [] (λf vs=>PySem.call f vs):=
 L2.walk_of (n:=63) (k:=9) (x := "_law_script") (CX:=λ_=>CX0) (sp:=λw=>spLaw (K w.params)) hn (by decide) hdf ⟨rfl,by decide,by decide⟩ hY F (λ_ _ a ns hl _ hS=>⟨a,ns,rfl,hS,hl,λ_=>rfl⟩) λ_ _ _ _ _ z=>z
end K
namespace PySem.W.Fast
def tw6077194162953933794:=0
def tw11156124006626569041:=0
def tw14864914175901386245:=0
def tw14932749340499986452:=0
def tw13362381882747433956:=0
def tw9056365540190689785:=0
def tw17876004193090544304:=0
def tw7794545466156685917:=0
def tw10701269767261856605:=0
def tw1052508369068445218:=0
def tw17461445475499988500:=0
def tw14052899192020937851:=0
def tw3957215277420112431:=0
def tw5062177918214466471:=0
def tw3085444055588783822:=0
def tw17004082227008165280:=0
def tw16871503013757868967:=0
def tw13324938579933167013:=0
def tw11866812772243823691:=0
def tw11991695580069018880:=0
def tw9644429468680724862:=0
def tw1031935569050816948:=0
def tw15043903853873265466:=0
def tw2535831146062493979:=0
def tw11922526437592298154:=0
def tw18349788201620658176:=0
def tw297189734708460645:=0
def tw8748546191996947385:=0
def tw10162172082997057260:=0
def tw16882925355468785785:=0
def tw6926693001234735477:=0
def tw3618154332419433703:=0
def tw17228044655266989718:=0
def tw11893861349557318639:=0
def tw2409376659107171363:=0
def tw17984033085417129520:=0
def tw14555447266214611821:=0
def tw10809453838380009943:=0
def tw272689925242050020:=0
def tw2031168929797374792:=0
def tw4119008509502190417:=0
def tw11802661509335901904:=0
def tw5180415093536713375:=0
def tw2989860713798271403:=0
def tw1526785991562561536:=0
def tw17463367967897741464:=0
def tw5491034747523234349:=0
def tw13357821670615488387:=0
def tw2138368268241811294:=0
def tw15858589236490011749:=0
def tw16832922711696832477:=0
def tw17498112636057442794:=0
def tw752549544998718302:=0
def tw3627090793941876248:=0
def tw9931868452674185566:=0
def tw14504301770045457616:=0
def tw3712002187444213245:=0
def tw353903318352587733:=0
def tw13785711158994834572:=0
def tw18289615171917542404:=0
def tw7954686125197666090:=0
def tw13666351025098097929:=0
def tw8857767631162353702:=0
def tw12222514653140042789:=0
def tw8974958355165142033:=0
def tw381472381034699474:=0
def tw11883270559689160007:=0
def tw9796574399326019762:=0
def tw995371228608725753:=0
def tw15118907600615220793:=0
def tw12393412027663012720:=0
def tw2072581497507999772:=0
def tw7752259116535896919:=0
def tw4370067690445434798:=0
def tw14710198562690927941:=0
def tw9775764102313205453:=0
def tw15570511647293018458:=0
def tw8507287887502050712:=0
def tw5670380580116589908:=0
def tw6163909189320248425:=0
def tw17442920035325364723:=0
def tw5228823900352431130:=0
def tw10487167303901703358:=0
def tw9548658200593503665:=0
def tw7798426118064938593:=0
def tw5128423444515326962:=0
def tw18438309236110442216:=0
def tw5796215134885225140:=0
def tw3586429427809160709:=0
def tw2297594480176677117:=0
def tw8303458119371361827:=0
def tw5277602116067868870:=0
def tw4545062821245355666:=0
def tw16820089522224538297:=0
def tw9114033911247253339:=0
def tw10254848304436536185:=0
def tw16052936844870038534:=0
def tw1335243763182781797:=0
def tw4925772184289834894:=0
def tw13742244821027510564:=0
def tw11873743904238248812:=0
def tw11130814876279632455:=0
def tw7830709127145685710:=0
def tw8321107292263821894:=0
def tw2588040494815415269:=0
def tw2502550449072979001:=0
def tw9485814493817266531:=0
def tw181611697910155289:=0
def tw8374857199491609386:=0
def tw6123670639982386113:=0
def tw7485947137423423876:=0
def tw790750390238569264:=0
def tw3341374339952254078:=0
def tw6160276105988045834:=0
def tw17497790771919769352:=0
def tw13519419177161174774:=0
def tw484078696963780264:=0
def tw8588047644089358859:=0
def tw10634260727984517423:=0
def tw16832515025676264214:=0
def tw13771310009483366021:=0
def tw742062166472809997:=0
def tw5185682275501826662:=0
def tw16713987125206412492:=0
def tw156101198449337404:=0
def tw8928206624055874681:=0
def tw5786433071741887491:=0
def tw5379589965244033148:=0
def tw3876750821494616964:=0
def tw12738637751920445879:=0
def tw3926862267698119450:=0
def tw1031247626903058655:=0
def tw626808392528245428:=0
def tw13338317794445131176:=0
def tw12835127389593725171:=0
def tw15017080099957931244:=0
def tw2680763423162654348:=0
def tw12800186471447136052:=0
def tw10374739155597607616:=0
def tw4679450029106668031:=0
def tw1297166030531680421:=0
def tw2760848043278424940:=0
def tw13593407422703694909:=0
def tw2241360025078522510:=0
def tw278744160045104337:=0
def tw11461101742534076584:=0
def tw3866888733321257356:=0
def tw9496523944321557512:=0
def tw6263438457774811300:=0
def tw12671895737905168976:=0
def tw7464137797976087910:=0
def tw11765075699426850041:=0
def tw16631546871109726450:=0
def tw291598717065839661:=0
def tw17303335680834963261:=0
def tw3463250530704392894:=0
def tw8964137873705920968:=0
def tw6721451950556359906:=0
def tw12678682560905232081:=0
def tw13222399113005592871:=0
def tw14225028509591065581:=0
def tw10447382601515603319:=0
def tw11044874686031297732:=0
def tw6610064116871442094:=0
def tw11640090868330564756:=0
def tw7022357279173619458:=0
def tw11066876498709496761:=0
def tw9720388053825436311:=0
def tw8074798738697736177:=0
def tw5356736235333372470:=0
def tw3775215033806178439:=0
def tw7950421298035063687:=0
def tw12881160440968774589:=0
def tw12468074136744515101:=0
def tw5375523405004688980:=0
def tw13895840097332045660:=0
def tw11593800500908736026:=0
def tw7887497047785226239:=0
def tw12230768128641805535:=0
def tw15947963799386459454:=0
def tw9475775548040512789:=0
def tw10704187935422741319:=0
def tw8058567816757921001:=0
def tw16313545448672251549:=0
def tw12298467847371884672:=0
def tw12578906142406797493:=0
def tw13936206880556398240:=0
def tw12685888073605471543:=0
def tw8768266442356166603:=0
def tw11776619175300031364:=0
def tw1183333314128390099:=0
def tw1022559956238542037:=0
def tw17257483585626217578:=0
def tw6920664121328085054:=0
def tw9672196622216377659:=0
def tw9700005508047410381:=0
def tw10813784000095349716:=0
end PySem.W.Fast
open PySem PySem.W PyProof.Rows
set_option maxRecDepth 100000 in
set_option maxHeartbeats 0 in
theorem PySem.Challenge.cw_relationladder_k52_sums_written_holds : PySem.Challenge.rw_relationladder_k52_sums_written.Holds := by
 w_on; o_law; k_head; (case hw=>w_witness2)
 k_fill
 refine K.walk (l:=PySem.Challenge.rw_relationladder_k52_sums_written) rfl rfl (λw h Y=>PySem.W.kIn_of Y) ?F
 case F=>
  intro w mg fa h KX G hmg
  refine' K.all_mk KX G hmg ?d0 ?d1 ?d2 ?d3 ?d4 ?d5 ?d6 ?d7 ?d8 ?d9 ?d10 ?d11 ?d12 ?d13 ?d14 ?d15 ?d16 ?d17 ?d18 ?d19 ?d20 ?d21 ?d22 ?d23 ?d24 ?d25 ?d26 ?d27 ?d28 ?d29 ?d30 ?d31 ?d32 ?d33 ?d34 ?d35 ?d36 ?d37 ?d38 ?d39 ?d40 ?d41 ?d42 ?d43 ?d44 ?d45 ?d46 ?qo ?qp ?qq ?qr ?qt ?qu ?qv ?qw ?on ?oo ?oG ?oH ?ny ?o7 ?o8 ?pH ?pI ?oA ?oh ?oI ?oJ ?oR ?oS ?nP ?ot ?ou ?oK ?oM ?nB ?tf ?tj ?tm ?tq ?tw ?tz ?tD ?mW ?nC ?nE ?oT ?oU ?nQ ?pJ ?pK ?p7 ?p8 ?oO ?qO ?qP ?rE ?rF ?qh ?pT ?p9 ?qa ?qA ?qB ?pb ?pL ?pM ?qb ?qc ?oP ?uL ?uM ?uN ?uO ?uP ?uQ ?uR ?pc ?oQ ?nR ?nS ?pf ?ph ?oi ?pi ?pj ?pN ?pO ?oB ?pz ?pA ?pP ?pQ ?oC ?qQ ?qR ?qS ?qT ?qU ?qV ?qW ?qX ?qY ?sh ?si ?sj ?sk ?sr ?ss ?su ?sv ?sw ?zn_str ?nX ?nn ?nI ?g_LETTERS ?g_FIGURES ?z0 ?z1 ?z2 ?z3 ?z4 ?z5 ?z6 ?z7 ?z8 ?z9 ?z10 ?z11 ?z12 ?z13 ?z14 ?z15 ?z16
  (case d0|d1|d2|d3|d4|d5|d6|d7|d8|d9|d10|d11|d12|d13|d14|d15|d16|d17|d18|d19=>refine' .mk ?a ?l ?c ?k; (case a=>k_is); (case l=>k_is); (case c=>k_is); (case k=>k_is))
  (case d20|d21|d22|d23|d24|d25|d26|d27|d28|d29|d30|d31|d32|d33|d34|d35|d36|d37|d38|d39=>refine' .mk ?a ?l ?c ?k; (case a=>k_is); (case l=>k_is); (case c=>k_is); (case k=>k_is))
  (case d40|d41|d42|d43|d44|d45|d46=>refine' .mk ?a ?l ?c ?k; (case a=>k_is); (case l=>k_is); (case c=>k_is); (case k=>k_is))
  (case qo|qp|qq|qr|qt|qu|qv|qw|on|oo|oG|oH|ny|o7|o8|pH|pI|oA|oh|oI=>k_is)
  (case oJ|oR|oS|nP|ot|ou|oK|oM|nB|tf|tj|tm|tq|tw|tz|tD|mW|nC|nE|oT=>k_is)
  (case oU|nQ|pJ|pK|p7|p8|oO|qO|qP|rE|rF|qh|pT|p9|qa|qA|qB|pb|pL|pM=>k_is)
  (case qb|qc|oP|uL|uM|uN|uO|uP|uQ|uR|pc|oQ|nR|nS|pf|ph|oi|pi|pj|pN=>k_is)
  (case pO|oB|pz|pA|pP|pQ|oC|qQ=>k_is)
  (case qR=>first | k_is | k_exc | kit_is | kts_exm)
  (case qS|qT|qU|qV|qW|qX|qY|sh=>k_is)
  (case si=>first | k_is | k_exc | kit_is | kts_exm)
  (case sj|sk|sr|ss|su|sv|sw|zn_str|nX|nn|nI|g_LETTERS|g_FIGURES|z0|z1|z2|z3|z4|z5|z6=>k_is)
  (case z7|z8|z9|z10|z11|z12|z13|z14|z15|z16=>k_is)
